import PyProof.Rows.All
import Wide.All
import OpenK.AllK
import Wide.FinOn
import Lean
import PyProof.EqAt
import PyProof.EqKinds
import PyProof.TupleCall
import PyProof.NeKinds
import PyProof.EnumMake
import PyProof.ConsumeWalk
import PyProof.StrWalks
import PyProof.WalksMore
import PyProof.StrLawsNeg
import PySem.Challenge.RW_citeward_k11_whole_fields_follow
set_option Elab.async false
set_option linter.all false
set_option maxRecDepth 100000
set_option maxHeartbeats 4000000
/-! THE HAND LAYER, for ints, bools, texts, own classes, LISTS and tuples (index, slices, in, append, pop ..), calls, loops. Paste it whole ahead of your own text; what your proof does not reach may be deleted. -/
namespace L2
open PySem PySem.Spec PyProof.Rows

noncomputable abbrev Key := Sum Int Str
noncomputable def keyIs : Key → Value → Bool
  | .inl k, v => Value.isInt k v
  | .inr x, v => Value.isStrOf x v
noncomputable def keyH (w : World) : Key → Int
  | .inl k => hashInt k
  | .inr x => hashStr w x
theorem keyIs_shape : ∀ {k : Key} {v : Value}, keyIs k v = true → (∃ i t, k = Sum.inl i ∧ v = Value.int i t) ∨ (∃ x t, k = Sum.inr x ∧ v = Value.str x t)
  | .inl i, v, h => by
    obtain ⟨t, e⟩ := Value.isInt_shape (k := i) (v := v) h
    exact .inl ⟨i, t, rfl, e⟩
  | .inr x, v, h => by
    obtain ⟨t, e⟩ := Value.isStrOf_shape (x := x) (v := v) h
    exact .inr ⟨x, t, rfl, e⟩
theorem keyIs_int (i : Int) (t : Tok) : keyIs (.inl i) (.int i t) = true := by simp [keyIs, Value.isInt]
theorem keyIs_str (x : Str) (t : Tok) : keyIs (.inr x) (.str x t) = true := by simp [keyIs, Value.isStrOf]
theorem key_ll (a b : Int) : decide ((Sum.inl a : Key) = Sum.inl b) = (a == b) := by
  by_cases e : a = b
  · subst e; simp
  · have h : ¬ (Sum.inl a : Key) = Sum.inl b := fun q => e (Sum.inl.inj q)
    rw [decide_eq_false h]
    exact (beq_eq_false_iff_ne.mpr e).symm
theorem key_rr (a b : Str) : decide ((Sum.inr a : Key) = Sum.inr b) = decide (a = b) := by
  by_cases e : a = b
  · subst e; simp
  · have h : ¬ (Sum.inr a : Key) = Sum.inr b := fun q => e (Sum.inr.inj q)
    rw [decide_eq_false h, decide_eq_false e]
theorem key_lr (a : Int) (b : Str) : decide ((Sum.inl a : Key) = Sum.inr b) = false := decide_eq_false (fun q => nomatch q)
theorem key_rl (a : Str) (b : Int) : decide ((Sum.inr a : Key) = Sum.inl b) = false := decide_eq_false (fun q => nomatch q)

noncomputable def mixKind (prog : Program) (w : World) : PySem.KeyKind prog w Key where
  is := keyIs
  hash := keyH w
  inj := fun v a b ha hb => by
    rcases keyIs_shape ha with ⟨i, t, rfl, rfl⟩ | ⟨x, t, rfl, rfl⟩
    · rcases keyIs_shape hb with ⟨j, u, rfl, e⟩ | ⟨y, u, rfl, e⟩
      · injection e with e1 _; rw [e1]
      · exact nomatch e
    · rcases keyIs_shape hb with ⟨j, u, rfl, e⟩ | ⟨y, u, rfl, e⟩
      · exact nomatch e
      · injection e with e1 _; rw [e1]
  byValue := fun k v h => by
    rcases keyIs_shape h with ⟨i, t, rfl, rfl⟩ | ⟨x, t, rfl, rfl⟩ <;> rfl
  pyHash := fun hv h => by
    rcases keyIs_shape hv with ⟨i, t, rfl, rfl⟩ | ⟨x, t, rfl, rfl⟩
    · exact wpAny_pyHash_int h
    · exact wpAny_pyHash_str h
  eqBool := fun hu hv h => by
    rcases keyIs_shape hu with ⟨i, t, rfl, rfl⟩ | ⟨x, t, rfl, rfl⟩
    · rcases keyIs_shape hv with ⟨j, u, rfl, rfl⟩ | ⟨y, u, rfl, rfl⟩
      · rw [key_ll] at h; exact wpAny_eqBool_int h
      · rw [key_lr] at h; exact SeqAt.EqAt.int_str i t y u _ _ _ _ h
    · rcases keyIs_shape hv with ⟨j, u, rfl, rfl⟩ | ⟨y, u, rfl, rfl⟩
      · rw [key_rl] at h; exact SeqAt.EqAt.str_int x t j u _ _ _ _ h
      · rw [key_rr] at h; exact wpAny_eqBool_str h
  «strs» := fun k x t v h => by
    rcases keyIs_shape h with ⟨i, u, rfl, e⟩ | ⟨y, u, rfl, e⟩
    · exact nomatch e
    · injection e with e1 _
      subst e1
      cases v <;> rfl

theorem mixKind_is (prog : Program) (w : World) (k : Key) (v : Value) : (mixKind prog w).is k v = keyIs k v := rfl
theorem mixKind_int (prog : Program) (w : World) (i : Int) (t : Tok) : (mixKind prog w).is (.inl i) (.int i t) = true := keyIs_int i t
theorem mixKind_str (prog : Program) (w : World) (x : Str) (t : Tok) : (mixKind prog w).is (.inr x) (.str x t) = true := keyIs_str x t
end L2

namespace L2
open PySem PySem.Spec PyProof.Rows

inductive V where
  | non | bl (b : Bool) | int (i : Int) | str (x : Str) | byt (b : Array UInt8) | flt (b : UInt64) | ref (a : Addr) | ty (n : String)
  deriving DecidableEq

noncomputable def RelV : V → Value → Prop
  | .non, u => u = Value.none
  | .bl b, u => u = Value.bool b
  | .int i, u => ∃ t, u = Value.int i t
  | .str x, u => ∃ t, u = Value.str x t
  | .byt b, u => ∃ t, u = Value.bytes b t
  | .flt b, u => ∃ t, u = Value.float b t
  | .ref a, u => u = Value.ref a
  | .ty n, u => u = Value.type n

noncomputable abbrev Vals : List V → List Value → Prop := Paired RelV
theorem Vals.length {xs : List V} {us : List Value} (r : Vals xs us) : xs.length = us.length := Paired.length r
theorem Vals.get : ∀ {xs : List V} {us : List Value} {i : Nat} {x : V}, Vals xs us → xs[i]? = some x → ∃ u, us[i]? = some u ∧ RelV x u
  | _, _, _, _, .nil, e => by simp at e
  | _, _, 0, _, .cons r _, e => by simp at e; subst e; exact ⟨_, rfl, r⟩
  | _, _, i + 1, x, .cons _ t, e => by
    obtain ⟨u, h1, h2⟩ := Vals.get (i := i) (x := x) t (by simpa using e)
    exact ⟨u, by simpa using h1, h2⟩
theorem Vals.append : ∀ {xs ys : List V} {us ws : List Value}, Vals xs us → Vals ys ws → Vals (xs ++ ys) (us ++ ws)
  | _, _, _, _, .nil, s => s
  | _, _, _, _, .cons r t, s => .cons r (Vals.append t s)
theorem Vals.take : ∀ {xs : List V} {us : List Value} (n : Nat), Vals xs us → Vals (xs.take n) (us.take n)
  | _, _, 0, _ => .nil
  | _, _, _ + 1, .nil => .nil
  | _, _, n + 1, .cons r t => .cons r (Vals.take n t)
theorem Vals.drop : ∀ {xs : List V} {us : List Value} (n : Nat), Vals xs us → Vals (xs.drop n) (us.drop n)
  | _, _, 0, r => r
  | _, _, _ + 1, .nil => .nil
  | _, _, n + 1, .cons _ t => Vals.drop n t

noncomputable def RelO : Option V → Option Value → Prop
  | some v, some u => RelV v u
  | none, none => True
  | _, _ => False
noncomputable def KV {κ : Type} : List (κ × V) → List (κ × Value) → Prop := Paired fun (p : κ × V) (q : κ × Value) => p.1 = q.1 ∧ RelV p.2 q.2

noncomputable def kV : Key → V
  | .inl i => .int i
  | .inr x => .str x

inductive HO where
  | lst (xs : List V)
  | tup (xs : List V)
  | dK (kvs : List (Key × V)) (ep : Nat) | dT (kvs : List (List Key × V)) (ep : Nat) (bs : List Addr)
  | set (S : Int → Bool) (n : Nat)
  | ins (C dx : Addr) (fs : List (Str × V))
  | own (x : Addr)
  | xd (fs : List (Str × V))
  | met (f x : Addr)
  | rng (lo hi : Int)
  | frz (o : Obj) (u : HO)
  | tbl (ps : Array Value)
  | ext (φ : Heap → Prop)

noncomputable abbrev Hp := Addr → Option HO
noncomputable def upd (H : Hp) (a : Addr) (o : HO) : Hp := fun b => if b = a then some o else H b
theorem upd_same {H : Hp} {a : Addr} {o : HO} : upd H a o a = some o := by unfold upd; rw [if_pos rfl]
theorem upd_ne {H : Hp} {a b : Addr} {o : HO} (h : b ≠ a) : upd H a o b = H b := by unfold upd; rw [if_neg h]
theorem ne_of {H : Hp} {a b : Addr} {o u : HO} (h : H a = some o) (h' : H b = some u) (d : o ≠ u) : a ≠ b := by
  intro e; subst e; rw [h] at h'; exact d (Option.some.inj h')
theorem ne_of_none {H : Hp} {a b : Addr} {o : HO} (h : H a = some o) (h' : H b = none) : a ≠ b := by
  intro e; subst e; rw [h] at h'; cases h'

section
variable (P : Program) (w : World)
noncomputable def ObjOk (H : Hp) (h : Heap) (a : Addr) : HO → Prop
  | .lst xs => xs.length ≤ sizeLine ∧ ∃ (its : List Value) (n : Nat), Vals xs its ∧ h.get? a = some { cls := .type "list", data := .seq its.toArray n }
  | .tup xs => xs.length ≤ sizeLine ∧ ∃ its : List Value, Vals xs its ∧ IsTup h a its.toArray
  | .dK kvs ep => kvs.length ≤ sizeLine ∧ (a == sysModules) = false ∧ ∃ vs, KV kvs vs ∧ h.DictAt (mixKind P w) a vs ep
  | .dT kvs ep bs => kvs.length ≤ sizeLine ∧ (a == sysModules) = false ∧ ∃ xs : List (List Key × Addr × Value),
      Paired (fun (p : List Key × V) (q : List Key × Addr × Value) => p.1 = q.1 ∧ H q.2.1 = some (.tup (p.1.map kV)) ∧ RelV p.2 q.2.2) kvs xs ∧
      ∃ o es, h.get? a = some o ∧ o.ExactDict ∧ o.data = .dict es ep ∧ es.toList = xs.map (entryOfKey (tupleKind (mixKind P w))) ∧ (xs.map (·.1)).Nodup ∧ (xs.map fun x => x.2.1) = bs
  | .set S n => h.SetOf (intKind P w) a S n
  | .ins C dx fs => H dx = some (.own a) ∧ fs.length ≤ 1000 ∧ dx ≠ a ∧ h.get? a = some (PySem.W.instObj C dx) ∧
      ∃ mA, h.Ns1 dx mA ∧ (∀ f, RelO (fs.lookup f) (mA f)) ∧ PySem.Within mA (fs.map (·.1))
  | .own _ => ∃ o, h.get? a = some o
  | .xd fs => ∃ mA, h.Ns1 a mA ∧ ∀ f, RelO (fs.lookup f) (mA f)
  | .rng lo hi => ∃ t u v, h.get? a = some { cls := .type "range", data := .fields #[.int lo t, .int hi u, .int 1 v] }
  | .frz o u => h.get? a = some o ∧ ObjOk H h a u
  | .tbl ps => h.get? a = some { cls := .none, data := .fields ps }
  | .met f x => h.get? a = some (PySem.W.methodObj (.ref f) (.ref x))
  | .ext φ => φ h ∧ (∃ o, h.get? a = some o) ∧ ∀ h1 h2 : Heap, φ h1 → (∀ o, h1.get? a = some o → h2.get? a = some o) → φ h2
noncomputable def HOk (H : Hp) (h : Heap) : Prop := ∀ a o, H a = some o → ObjOk P w H h a o
end

section
variable {P : Program} {w : World} {H H' : Hp} {h h' : Heap} {a : Addr} {o : HO}
theorem ObjOk.lt (x : ObjOk P w H h a o) : a < h.objs.size := by
  cases o with
  | lst xs => obtain ⟨_, _, _, _, e⟩ := x; exact Heap.lt_size e
  | tup xs => obtain ⟨_, _, _, p⟩ := x; exact p.lt
  | dK kvs ep => obtain ⟨_, _, _, _, o, _, e, _⟩ := x; exact Heap.lt_size e
  | dT kvs ep bs => obtain ⟨_, _, _, _, o, _, e, _⟩ := x; exact Heap.lt_size e
  | set S n => obtain ⟨o, _, _, _, e, _⟩ := x; exact Heap.lt_size e
  | ins C dx fs => obtain ⟨_, _, _, e, _⟩ := x; exact Heap.lt_size e
  | own y => obtain ⟨_, e⟩ := x; exact Heap.lt_size e
  | xd fs => obtain ⟨_, ⟨_, _, _, e, _⟩, _⟩ := x; exact Heap.lt_size e
  | rng lo hi => obtain ⟨_, _, _, e⟩ := x; exact Heap.lt_size e
  | frz ob u => obtain ⟨e, _⟩ := x; exact Heap.lt_size e
  | tbl ps => exact Heap.lt_size (show h.get? a = some _ from x)
  | met f y => exact Heap.lt_size (show h.get? a = some _ from x)
  | ext φ => obtain ⟨_, ⟨_, e⟩, _⟩ := x; exact Heap.lt_size e
theorem Paired.mapP {α β : Type} {F G : α → β → Prop} : ∀ {l₁ : List α} {l₂ : List β}, Paired F l₁ l₂ → (∀ a b, F a b → G a b) → Paired G l₁ l₂
  | _, _, .nil, _ => .nil
  | _, _, .cons r t, f => .cons (f _ _ r) (Paired.mapP t f)
theorem ObjOk.stay (x : ObjOk P w H h a o) (k : ∀ b u, (b = a ∨ H b = some (.own a)) → h.get? b = some u → h'.get? b = some u)
    (ho : ∀ b, H b = some (.own a) → H' b = some (.own a)) (ht : ∀ b xs, H b = some (.tup xs) → H' b = some (.tup xs)) : ObjOk P w H' h' a o := by
  induction o with
  | lst xs => obtain ⟨z, its, n, r, e⟩ := x; exact ⟨z, its, n, r, k _ _ (.inl rfl) e⟩
  | tup xs => obtain ⟨z, its, r, ob, e, c⟩ := x; exact ⟨z, its, r, ob, k _ _ (.inl rfl) e, c⟩
  | dK kvs ep => obtain ⟨z, y, vs, r, ob, es, e, c⟩ := x; exact ⟨z, y, vs, r, ob, es, k _ _ (.inl rfl) e, c⟩
  | dT kvs ep bs =>
    obtain ⟨z, y, xs, r, ob, es, e, c⟩ := x
    exact ⟨z, y, xs, Paired.mapP r fun p q z => ⟨z.1, ht _ _ z.2.1, z.2.2⟩, ob, es, k _ _ (.inl rfl) e, c⟩
  | set S n => obtain ⟨ob, es, ep, t, e, c⟩ := x; exact ⟨ob, es, ep, t, k _ _ (.inl rfl) e, c⟩
  | ins C dx fs =>
    obtain ⟨d, z, ne, e, mA, ⟨od, es, ep, e2, c⟩, r⟩ := x
    exact ⟨ho _ d, z, ne, k _ _ (.inl rfl) e, mA, ⟨od, es, ep, k _ _ (.inr d) e2, c⟩, r⟩
  | own y => obtain ⟨ob, e⟩ := x; exact ⟨ob, k _ _ (.inl rfl) e⟩
  | xd fs => obtain ⟨mA, ⟨od, es, ep, e, c⟩, r⟩ := x; exact ⟨mA, ⟨od, es, ep, k _ _ (.inl rfl) e, c⟩, r⟩
  | rng lo hi => obtain ⟨t, u, v, e⟩ := x; exact ⟨t, u, v, k _ _ (.inl rfl) e⟩
  | frz ob u ih => obtain ⟨e, q⟩ := x; exact ⟨k _ _ (.inl rfl) e, ih q⟩
  | tbl ps =>
    have e : h.get? a = some { cls := .none, data := .fields ps } := x
    show h'.get? a = some { cls := .none, data := .fields ps }
    exact k a _ (.inl rfl) e
  | met f y =>
    have e : h.get? a = some (PySem.W.methodObj (.ref f) (.ref y)) := x
    show h'.get? a = some (PySem.W.methodObj (.ref f) (.ref y))
    exact k a _ (.inl rfl) e
  | ext φ => obtain ⟨p, ⟨o, e⟩, st⟩ := x; exact ⟨st _ _ p fun o q => k _ _ (.inl rfl) q, ⟨o, k _ _ (.inl rfl) e⟩, st⟩
theorem HOk.lt (x : HOk P w H h) (e : H a = some o) : a < h.objs.size := (x a o e).lt
theorem HOk.fresh (x : HOk P w H h) (e : h.objs.size ≤ a) : H a = none := by
  cases q : H a with
  | none => rfl
  | some u => exact absurd (Nat.lt_of_lt_of_le (x.lt q) e) (Nat.lt_irrefl _)
theorem HOk.kept (x : HOk P w H h) (k : ∀ b u, h.get? b = some u → h'.get? b = some u) : HOk P w H h' := fun a o e =>
  (x a o e).stay (fun b u _ q => k b u q) (fun _ q => q) fun _ _ q => q
theorem HOk.laid (x : HOk P w H h) (k : ∀ b u, h.get? b = some u → h'.get? b = some u) (hp : h.objs.size ≤ a) (new : ObjOk P w (upd H a o) h' a o) : HOk P w (upd H a o) h' := fun b u e => by
  have hn := x.fresh hp
  by_cases hb : b = a
  · subst hb; rw [upd_same] at e; cases e; exact new
  · rw [upd_ne hb] at e
    exact (x b u e).stay (fun c v _ q => k c v q) (fun c q => by rw [upd_ne (ne_of_none q hn)]; exact q) fun c xs q => by rw [upd_ne (ne_of_none q hn)]; exact q
end

noncomputable def Rd (H : Hp) (a : Addr) (u : HO) : Prop := H a = some u ∨ ∃ o, H a = some (.frz o u)
theorem Rd.ok {P : Program} {w : World} {H : Hp} {h : Heap} {a : Addr} {u : HO} (r : Rd H a u) (x : HOk P w H h) : ObjOk P w H h a u := by
  rcases r with r | ⟨o, r⟩
  · exact x a u r
  · obtain ⟨_, q⟩ := x a _ r
    exact q
noncomputable def HK (H : Hp) (a : Addr) (kvs : List (Key × V)) : Prop := ∃ ep, H a = some (.dK kvs ep)
noncomputable def HTt (H : Hp) (a : Addr) (kvs : List (List Key × V)) : Prop := ∃ ep bs, H a = some (.dT kvs ep bs)
noncomputable def RdK (H : Hp) (a : Addr) (kvs : List (Key × V)) : Prop := ∃ ep, Rd H a (.dK kvs ep)
noncomputable def RdT (H : Hp) (a : Addr) (kvs : List (List Key × V)) : Prop := ∃ ep bs, Rd H a (.dT kvs ep bs)
theorem HK.rd {H : Hp} {a : Addr} {kvs : List (Key × V)} (h : HK H a kvs) : RdK H a kvs := let ⟨ep, h⟩ := h; ⟨ep, .inl h⟩
noncomputable def putB (kvs : List (List Key × V)) (bs : List Addr) (k : List Key) (b : Addr) : List Addr := if (kvs.any fun kv => decide (kv.1 = k)) = true then bs else bs ++ [b]
theorem HTt.rd {H : Hp} {a : Addr} {kvs : List (List Key × V)} (h : HTt H a kvs) : RdT H a kvs := let ⟨ep, bs, h⟩ := h; ⟨ep, bs, .inl h⟩
noncomputable def Mut : Option HO → Prop
  | some (.lst _) => True
  | some (.dK _ _) => True
  | some (.dT _ _ _) => True
  | some (.set _ _) => True
  | some (.ins _ _ _) => True
  | some (.ext _) => True
  | _ => False
section
variable {P : Program} {w : World} {H : Hp} {h h' : Heap} {x e : Addr} {o' : HO}
theorem HOk.write (ok : HOk P w H h) (mu : Mut (H x)) (he : e = x ∨ H e = some (.own x)) (k : ∀ b u, b ≠ e → h.get? b = some u → h'.get? b = some u) (heo : ∃ u, h'.get? e = some u)
    (new : ObjOk P w (upd H x o') h' x o') : HOk P w (upd H x o') h' := fun b u q => by
  have nown : ∀ c y, H c = some (.own y) → c ≠ x := fun c y r z => by subst z; rw [r] at mu; exact mu
  have ntup : ∀ c xs, H c = some (.tup xs) → c ≠ x := fun c xs r z => by subst z; rw [r] at mu; exact mu
  by_cases hb : b = x
  · subst hb; rw [upd_same] at q; cases q; exact new
  · rw [upd_ne hb] at q
    by_cases hbe : b = e
    · have q' : H b = some (.own x) := by
        rcases he with z | z
        · exact absurd (hbe.trans z) hb
        · rw [hbe]; exact z
      rw [q] at q'; cases q'
      obtain ⟨v, hv⟩ := heo
      exact ⟨v, by rw [hbe]; exact hv⟩
    · refine (ok b u q).stay (fun c v hc r => k c v ?_ r) (fun c r => by rw [upd_ne (nown c b r)]; exact r) fun c xs r => by rw [upd_ne (ntup c xs r)]; exact r
      rcases hc with rfl | hc
      · exact hbe
      · rintro rfl
        rcases he with z | z
        · exact nown c b hc z
        · rw [hc] at z; cases z; exact hb rfl
end

/-! ### kept unless tracked; of the frames at fs (the callers') the slots may change (an exception that passes writes there); of the records at ex (iterators) nothing is said -/
structure Un (fs ex : List Addr) (H H' : Hp) (h h' : Heap) : Prop where
  keep : ∀ b o, h.get? b = some o → H b = none → b ∉ fs → b ∉ ex → h'.get? b = some o
  slot : ∀ b o, h.get? b = some o → H b = none → b ∈ fs → b ∉ ex → ∃ sl, h'.get? b = some { o with slots := sl }
  free : ∀ b o, h.get? b = some o → H b = none → b ∉ ex → H' b = none
  there : ∀ b o, h.get? b = some o → b ∉ ex → ∃ o', h'.get? b = some o'
  tups : ∀ b xs, H b = some (.tup xs) → H' b = some (.tup xs)
  frzs : ∀ b o u, H b = some (.frz o u) → H' b = some (.frz o u)
  tbls : ∀ b ps, H b = some (.tbl ps) → ∃ more, H' b = some (.tbl (ps ++ more))
section
variable {fs fs' ex ex' : List Addr} {H H1 H2 : Hp} {h h1 h2 h' : Heap} {a x e : Addr} {o : HO}
theorem Un.any (u : Un fs ex H H1 h h1) {b : Addr} {ob : Obj} (q : h.get? b = some ob) (n : H b = none) (hx : b ∉ ex) : ∃ sl, h1.get? b = some { ob with slots := sl } := by
  by_cases hb : b ∈ fs
  · exact u.slot b ob q n hb hx
  · exact ⟨ob.slots, u.keep b ob q n hb hx⟩
theorem Un.kept (k : ∀ b u, h.get? b = some u → h'.get? b = some u) : Un fs ex H H h h' :=
  ⟨fun b ob q _ _ _ => k b ob q, fun b ob q _ _ _ => ⟨ob.slots, k b ob q⟩, fun _ _ _ n _ => n, fun b ob q _ => ⟨ob, k b ob q⟩, fun _ _ q => q, fun _ _ _ q => q, fun _ ps q => ⟨#[], by rw [q]; simp⟩⟩
theorem Un.refl : Un fs ex H H h h := Un.kept fun _ _ q => q
theorem Un.laid (k : ∀ b u, h.get? b = some u → h'.get? b = some u) (hp : h.objs.size ≤ a) (hn : H a = none) : Un fs ex H (upd H a o) h h' where
  keep := fun b u q _ _ _ => k b u q
  slot := fun b u q _ _ _ => ⟨u.slots, k b u q⟩
  free := fun b u q n _ => by rw [upd_ne (Nat.ne_of_lt (Nat.lt_of_lt_of_le (Heap.lt_size q) hp))]; exact n
  there := fun b u q _ => ⟨u, k b u q⟩
  tups := fun b xs q => by rw [upd_ne (ne_of_none q hn)]; exact q
  frzs := fun b u xs q => by rw [upd_ne (ne_of_none q hn)]; exact q
  tbls := fun b ps q => ⟨#[], by rw [upd_ne (ne_of_none q hn), q]; simp⟩
theorem Un.write (mu : Mut (H x)) (he : e = x ∨ H e = some (.own x)) (k : ∀ b u, b ≠ e → h.get? b = some u → h'.get? b = some u) (heo : ∃ u, h'.get? e = some u) : Un fs ex H (upd H x o) h h' := by
  have hx : ∀ b, H b = none → b ≠ x := fun b n z => by subst z; rw [n] at mu; exact mu
  have hb : ∀ b, H b = none → b ≠ e := fun b n z => by
    subst z
    rcases he with r | r
    · exact hx b n r
    · rw [n] at r; cases r
  have hm : ∀ b u, H b = some u → ¬ Mut (some u) → b ≠ x := fun b u q nm z => by subst z; rw [q] at mu; exact nm mu
  refine ⟨fun b u q n _ _ => k b u (hb b n) q, fun b u q n _ _ => ⟨u.slots, k b u (hb b n) q⟩, fun b u q n _ => by rw [upd_ne (hx b n)]; exact n, fun b u q _ => ?_,
    fun b xs q => by rw [upd_ne (hm b _ q fun z => z)]; exact q, fun b u xs q => by rw [upd_ne (hm b _ q fun z => z)]; exact q, fun b ps q => ⟨#[], by rw [upd_ne (hm b _ q fun z => z), q]; simp⟩⟩
  by_cases hbe : b = e
  · subst hbe; exact heo
  · exact ⟨u, k b u hbe q⟩
end

/-! ### the heap without what is tracked -/
noncomputable def trk (h : Heap) (H : Hp) : List Addr := (List.range h.objs.size).filter fun a => (H a).isSome
noncomputable def hidT (h : Heap) (H : Hp) : Heap := PySem.W.hideAll h (trk h H)
theorem hidT_size (h : Heap) (H : Hp) : (hidT h H).objs.size = h.objs.size := PySem.W.hideAll_size _ _
theorem hidT_get {h : Heap} {H : Hp} {b : Addr} {o : Obj} (e : h.get? b = some o) (n : H b = none) : (hidT h H).get? b = some o :=
  PySem.W.hideAll_get _ e fun hm => by
    have q : (H b).isSome = true := (List.mem_filter.mp hm).2
    rw [n] at q; simp at q
theorem of_hidT {h : Heap} {H : Hp} {b : Addr} {o : Obj} (e : (hidT h H).get? b = some o) : h.get? b = some o ∧ H b = none := by
  have e' : h.get? b = some o := PySem.W.of_hideAll (trk h H) e
  refine ⟨e', ?_⟩
  cases q : H b with
  | none => rfl
  | some x =>
    have hm : b ∈ trk h H := List.mem_filter.mpr ⟨List.mem_range.mpr (Heap.lt_size e'), by simp [q]⟩
    have z : (hidT h H).get? b = none := PySem.W.hideAll_none (trk h H) hm
    rw [z] at e; cases e

/-! ### OpenK's ledger, filled with every new object but one -/
noncomputable def allNews (g h : Heap) (L : Addr) : List (Addr × Obj) := (List.range h.objs.size).filterMap fun a => if a = L ∨ (g.get? a).isSome = true then none else (h.get? a).map fun o => (a, o)
noncomputable def rest (g h : Heap) (L d : Addr) : List (Addr × Obj) := (allNews g h L).filter fun p => decide (p.1 ≠ d)
end L2

namespace L2
open PySem PySem.Spec PyProof.Rows

structure Mod (K : PySem.W.Frag) (mg : Str → Option Value) (base : Heap) : Prop where
  kin : K.In base
  glob : base.Ns mainGlobals mg
  blt : ∃ mb, base.Ns builtinsNs mb ∧ ∀ x : Str, x ≠ "__name__" → mb x = bootBuiltins x
  nolimit : base.NoLimit

structure Cx where
  prog : Program
  w : World
  K : PySem.W.Frag
  mg : Str → Option Value
  base : Heap
  A : Around
  N : List Str
  s₀ : Shared
  H₀ : Hp
  env : Env
  outer : List Env
  stack : List Env
  ex : List Addr
  fn : Str → Bool
  calm : Bool
  pn : List (Addr × Obj)
  xe : Value → Shared → Prop
noncomputable def frs (l : List Env) : List Addr := l.filterMap (·.frame)
noncomputable abbrev Cx.fs (X : Cx) : List Addr := frs X.outer

noncomputable def Vis (sc : Scope) (x : Str) : Prop := sc.names.lookup x = some .local ∨ sc.names.lookup x = some .cell ∨ sc.names.lookup x = some .free
noncomputable def Loc (sc : Scope) (x : Str) : Prop := sc.names.lookup x = some .local ∨ sc.names.lookup x = some .cell
noncomputable def Look (env : Env) (h : Heap) (m : Str → Option Value) (x : Str) (u : Value) : Prop :=
  (env.kindOf x = some .local ∧ m x = some u) ∨ ((env.kindOf x = some .cell ∨ env.kindOf x = some .free) ∧ ∃ c, env.cells.lookup x = some c ∧ h.IsCell c (some u))

structure Cx.Ok (X : Cx) : Prop where
  mod : Mod X.K X.mg X.base
  kind : X.env.scope.kind = .function
  glob : X.env.globals = mainGlobals
  blt : X.env.builtins = builtinsNs
  above : X.s₀.heap.objs.size ≤ X.env.locals
  inj : ∀ x y c, X.env.cells.lookup x = some c → X.env.cells.lookup y = some c → x = y
  has : ∀ x, (X.env.kindOf x = some .cell ∨ X.env.kindOf x = some .free) → ∃ c, X.env.cells.lookup x = some c
  cab : ∀ x c, X.fn x = true → X.env.cells.lookup x = some c → X.s₀.heap.objs.size ≤ c
  hd : X.calm = true → X.A.handled = none
  frames : X.A.frames = some X.stack
  stk : X.stack = X.outer ∨ (X.stack = X.env :: X.outer ∧ X.env.frame = some X.env.locals)
  exf : ∀ b ∈ X.ex, b ≠ X.env.locals ∧ ∀ x c, X.env.cells.lookup x = some c → c ≠ b
  bs : ∀ b o, X.base.get? b = some o → X.s₀.heap.get? b = some o ∧ X.H₀ b = none
  bsz : X.base.objs.size ≤ X.s₀.heap.objs.size
  noex : ∀ b o, X.base.get? b = some o → b ∉ X.ex
  exfs : ∀ b ∈ X.ex, b ∉ X.fs
  funs : X.s₀.heap.FunFrames X.base X.outer
  frf : ∀ b ∈ X.fs, X.H₀ b = none

structure Inv (X : Cx) (pins : List (Addr × Obj)) (σ : List (Option V)) (H : Hp) (s : Shared) : Prop where
  ok : X.Ok
  os : s.os = X.s₀.os
  bare : AllBare s.gens
  base : Un X.fs X.ex X.H₀ H X.s₀.heap s.heap
  loc : ∃ m, s.heap.Ns X.env.locals m ∧ ∀ (i : Nat) (x : Str) (v : V), X.N[i]? = some x → σ[i]? = some (some v) → Vis X.env.scope x → ∃ u, RelV v u ∧ Look X.env s.heap m x u
  cell : ∀ x c, X.env.cells.lookup x = some c → ∃ v, s.heap.IsCell c v
  free : H X.env.locals = none
  freeC : ∀ x c, X.env.cells.lookup x = some c → H c = none
  pin : ∀ p ∈ X.pn ++ pins, s.heap.get? p.1 = some p.2 ∧ H p.1 = none ∧ p.1 ≠ X.env.locals ∧ p.1 ∉ X.fs ∧ ∀ v, p.2.data ≠ .cell v
  hok : HOk X.prog X.w H s.heap
  len : σ.length = X.N.length

section
variable {X : Cx} {pins : List (Addr × Obj)} {σ : List (Option V)} {H H' : Hp} {s : Shared} {h' : Heap}

theorem Cx.Ok.nofr (ok : X.Ok) {b : Addr} {o : Obj} (e : X.base.get? b = some o) : b ∉ X.fs := fun hb => by
  have := (ok.funs.mem hb).1
  rw [e] at this; cases this
theorem Inv.bs (I : Inv X pins σ H s) : ∀ b o, X.base.get? b = some o → s.heap.get? b = some o ∧ H b = none := fun b o e =>
  ⟨I.base.keep b o (I.ok.bs b o e).1 (I.ok.bs b o e).2 (I.ok.nofr e) (I.ok.noex b o e), I.base.free b o (I.ok.bs b o e).1 (I.ok.bs b o e).2 (I.ok.noex b o e)⟩
theorem Inv.bk (I : Inv X pins σ H s) : ∀ b o, X.base.get? b = some o → s.heap.get? b = some o := fun b o e => (I.bs b o e).1
theorem Inv.mod (I : Inv X pins σ H s) : Mod X.K X.mg X.base := I.ok.mod
theorem Inv.kIn (I : Inv X pins σ H s) : X.K.In s.heap := I.ok.mod.kin.keeps I.bk
theorem Inv.lt (I : Inv X pins σ H s) : X.env.locals < s.heap.objs.size := let ⟨_, hn, _⟩ := I.loc; hn.lt
theorem Inv.sz (I : Inv X pins σ H s) : X.s₀.heap.objs.size ≤ s.heap.objs.size := Nat.le_trans I.ok.above (Nat.le_of_lt I.lt)
theorem Inv.nofs (I : Inv X pins σ H s) {a : Addr} (h : s.heap.objs.size ≤ a) : a ∉ X.fs := fun hb => by
  obtain ⟨_, o, ho, _⟩ := I.ok.funs.mem hb
  exact absurd (Nat.lt_of_lt_of_le (Heap.lt_size ho) (Nat.le_trans I.sz h)) (Nat.lt_irrefl _)
theorem Inv.cne (I : Inv X pins σ H s) : ∀ x c, X.env.cells.lookup x = some c → c ≠ X.env.locals := fun x c e z => by
  obtain ⟨v, o, ho, hd⟩ := I.cell x c e
  obtain ⟨m, ⟨o', es, ep, ho', hd', _⟩, _⟩ := I.loc
  rw [z, ho'] at ho; cases ho; rw [hd'] at hd; cases hd
theorem Inv.funs (I : Inv X pins σ H s) : s.heap.FunFrames X.base X.outer := by
  have all : ∀ (l : List Env), (∀ b ∈ frs l, b ∈ X.fs) → X.s₀.heap.FunFrames X.base l → s.heap.FunFrames X.base l := by
    intro l
    induction l with
    | nil => intro _ _; trivial
    | cons env r ih =>
      intro hs hl
      obtain ⟨hk, ⟨L, o, hf, hn, ho, hd⟩, hr⟩ := hl
      have hL : L ∈ X.fs := hs L (by unfold frs; rw [List.filterMap_cons, hf]; exact List.mem_cons_self)
      obtain ⟨sl, e⟩ := I.base.slot L o ho (I.ok.frf L hL) hL fun z => I.ok.exfs L z hL
      exact ⟨hk, ⟨L, _, hf, hn, e, hd⟩, ih (fun b hb => hs b (by unfold frs; rw [List.filterMap_cons, hf]; exact List.mem_cons_of_mem _ hb)) hr⟩
  exact all X.outer (fun _ hb => hb) I.ok.funs

theorem Inv.stack (I : Inv X pins σ H s) : s.heap.FunFrames X.base X.stack := by
  rcases I.ok.stk with e | ⟨e, hf⟩
  · rw [e]; exact I.funs
  · rw [e]
    obtain ⟨m, hn, _⟩ := I.loc
    refine .cons (by rw [I.ok.kind]; decide) hf hn ?_ I.funs
    exact Heap.get?_none_of_le (Nat.le_trans I.ok.bsz I.ok.above)
theorem Inv.stkSub (I : Inv X pins σ H s) : ∀ b ∈ frs X.stack, b ∈ X.env.locals :: X.fs := fun b hb => by
  rcases I.ok.stk with e | ⟨e, hf⟩
  · rw [e] at hb; exact List.mem_cons_of_mem _ hb
  · rw [e] at hb
    unfold frs at hb
    rw [List.filterMap_cons, hf] at hb
    exact hb
theorem Inv.stkFree (I : Inv X pins σ H s) : ∀ b ∈ frs X.stack, H b = none := fun b hb => by
  rcases List.mem_cons.mp (I.stkSub b hb) with e | hb
  · rw [e]; exact I.free
  · obtain ⟨_, o, ho, _⟩ := I.ok.funs.mem hb
    exact I.base.free b o ho (I.ok.frf b hb) fun z => I.ok.exfs b z hb

theorem Inv.step {g' : Array GenState} {t' : Nat} {d' : Drawn} {ch : List Addr} (I : Inv X pins σ H s)
    (hch : ∀ b ∈ ch, (b ∈ X.ex ∨ X.s₀.heap.objs.size ≤ b) ∧ b ≠ X.env.locals ∧ (∀ x c, X.env.cells.lookup x = some c → c ≠ b) ∧ ∀ p ∈ X.pn ++ pins, p.1 ≠ b)
    (keep : ∀ b o, b ≠ X.env.locals → b ∉ X.fs → b ∉ ch → s.heap.get? b = some o → H b = none → h'.get? b = some o)
    (slot : ∀ b o, b ≠ X.env.locals → b ∈ X.fs → b ∉ ch → s.heap.get? b = some o → H b = none → ∃ sl, h'.get? b = some { o with slots := sl }) (free : ∀ b o, b ∉ ch → s.heap.get? b = some o → H b = none → H' b = none)
    (there : ∀ b o, b ∉ ch → s.heap.get? b = some o → ∃ o', h'.get? b = some o')
    (tups : ∀ b xs, H b = some (.tup xs) → H' b = some (.tup xs)) (frzs : ∀ b o u, H b = some (.frz o u) → H' b = some (.frz o u)) (tbls : ∀ b ps, H b = some (.tbl ps) → ∃ more, H' b = some (.tbl (ps ++ more)))
    (ns : ∀ m, s.heap.Ns X.env.locals m → h'.Ns X.env.locals m) (hok : HOk X.prog X.w H' h') (hg : AllBare g') :
    Inv X pins σ H' { s with heap := h', gens := g', drawn := d', toks := t' } := by
  have neL : ∀ b o, X.s₀.heap.get? b = some o → b ≠ X.env.locals := fun b o e => Nat.ne_of_lt (Nat.lt_of_lt_of_le (Heap.lt_size e) I.ok.above)
  have neC : ∀ b o, X.s₀.heap.get? b = some o → b ∉ X.ex → b ∉ ch := fun b o e hx hb => by
    rcases (hch b hb).1 with z | z
    · exact hx z
    · exact absurd (Nat.lt_of_lt_of_le (Heap.lt_size e) z) (Nat.lt_irrefl _)
  have cellK : ∀ x c, X.env.cells.lookup x = some c → ∀ v, s.heap.IsCell c v → h'.IsCell c v := fun x c e v ⟨o, ho, hd⟩ => by
    have nch : c ∉ ch := fun z => (hch c z).2.2.1 x c e rfl
    by_cases hc : c ∈ X.fs
    · obtain ⟨sl, q⟩ := slot c o (I.cne x c e) hc nch ho (I.freeC x c e)
      exact ⟨_, q, hd⟩
    · exact ⟨o, keep c o (I.cne x c e) hc nch ho (I.freeC x c e), hd⟩
  refine ⟨I.ok, I.os, hg, ⟨fun b o e n hb hx => ?_, fun b o e n hb hx => ?_, fun b o e n hx => ?_, fun b o e hx => ?_, fun b xs e => tups b xs (I.base.tups b xs e), fun b o xs e => frzs b o xs (I.base.frzs b o xs e), fun b ps e => ?_⟩, ?_, fun x c e => ?_, ?_, fun x c e => ?_, fun p hp => ?_, hok, I.len⟩
  · exact keep b o (neL b o e) hb (neC b o e hx) (I.base.keep b o e n hb hx) (I.base.free b o e n hx)
  · obtain ⟨sl, e1⟩ := I.base.slot b o e n hb hx
    obtain ⟨sl', e2⟩ := slot b _ (neL b o e) hb (neC b o e hx) e1 (I.base.free b o e n hx)
    exact ⟨sl', e2⟩
  · obtain ⟨o', e1⟩ := I.base.there b o e hx
    exact free b o' (neC b o e hx) e1 (I.base.free b o e n hx)
  · obtain ⟨o', e1⟩ := I.base.there b o e hx
    exact there b o' (neC b o e hx) e1
  · obtain ⟨m1, e1⟩ := I.base.tbls b ps e
    obtain ⟨m2, e2⟩ := tbls b _ e1
    exact ⟨m1 ++ m2, by rw [e2, Array.append_assoc]⟩
  · obtain ⟨m, hn, hl⟩ := I.loc
    refine ⟨m, ns m hn, fun i x v e1 e2 e3 => ?_⟩
    obtain ⟨u, r, l⟩ := hl i x v e1 e2 e3
    refine ⟨u, r, ?_⟩
    rcases l with l | ⟨k, c, e, z⟩
    · exact .inl l
    · exact .inr ⟨k, c, e, cellK x c e _ z⟩
  · obtain ⟨v, z⟩ := I.cell x c e
    exact ⟨v, cellK x c e v z⟩
  · obtain ⟨m, ⟨o, _, _, ho, _⟩, _⟩ := I.loc
    exact free _ o (fun z => (hch _ z).2.1 rfl) ho I.free
  · obtain ⟨v, o, ho, hd⟩ := I.cell x c e
    exact free c o (fun z => (hch c z).2.2.1 x c e rfl) ho (I.freeC x c e)
  · obtain ⟨e, n, ne, nf, d⟩ := I.pin p hp
    have nch : p.1 ∉ ch := fun z => (hch p.1 z).2.2.2 p hp rfl
    exact ⟨keep p.1 p.2 ne nf nch e n, free p.1 p.2 nch e n, ne, nf, d⟩
theorem Inv.un {t' : Nat} (I : Inv X pins σ H s) (u : Un X.fs [] H H' s.heap h') (hok : HOk X.prog X.w H' h') : Inv X pins σ H' { s with heap := h', toks := t' } := by
  obtain ⟨m, ⟨o, es, ep, ho, r⟩, _⟩ := id I.loc
  obtain ⟨sl, hL⟩ := u.any ho I.free (by simp)
  exact I.step (g' := s.gens) (d' := s.drawn) (ch := []) (fun _ z => nomatch z) (fun b o _ hb _ e n => u.keep b o e n hb (by simp)) (fun b o _ hb _ e n => u.slot b o e n hb (by simp)) (fun b o _ e n => u.free b o e n (by simp)) (fun b o _ e => u.there b o e (by simp)) u.tups u.frzs u.tbls (fun m' hm => by
    obtain ⟨o', es', ep', ho', r'⟩ := hm
    rw [ho] at ho'; cases ho'
    exact ⟨_, es', ep', hL, r'⟩) hok I.bare
theorem Inv.call {g' : Array GenState} {t' : Nat} {d' : Drawn} {ch : List Addr} (I : Inv X pins σ H s) (u : Un (frs X.stack) ch H H' s.heap h') (hok : HOk X.prog X.w H' h') (hg : AllBare g')
    (hch : ∀ b ∈ ch, (b ∈ X.ex ∨ X.s₀.heap.objs.size ≤ b) ∧ b ≠ X.env.locals ∧ (∀ x c, X.env.cells.lookup x = some c → c ≠ b) ∧ ∀ p ∈ X.pn ++ pins, p.1 ≠ b) :
    Inv X pins σ H' { s with heap := h', gens := g', drawn := d', toks := t' } := by
  obtain ⟨m, ⟨o, es, ep, ho, r⟩, _⟩ := id I.loc
  obtain ⟨sl, hL⟩ := u.any ho I.free fun z => (hch _ z).2.1 rfl
  exact I.step (ch := ch) hch (fun b o hL hb hc e n => u.keep b o e n (fun z => (List.mem_cons.mp (I.stkSub b z)).elim hL hb) hc) (fun b o _ _ hc e n => u.any e n hc) (fun b o hc e n => u.free b o e n hc) (fun b o hc e => u.there b o e hc) u.tups u.frzs u.tbls (fun m' hm => by
    obtain ⟨o', es', ep', ho', r'⟩ := hm
    rw [ho] at ho'; cases ho'
    exact ⟨_, es', ep', hL, r'⟩) hok hg
theorem Inv.turned {t' : Nat} {it : Addr} (I : Inv X pins σ H s) (k : ∀ b o, b ≠ it → s.heap.get? b = some o → h'.get? b = some o) (hn : H it = none) (hL : it ≠ X.env.locals)
    (h1 : it ∈ X.ex ∨ X.s₀.heap.objs.size ≤ it) (h2 : ∀ x c, X.env.cells.lookup x = some c → c ≠ it) (h3 : ∀ p ∈ X.pn ++ pins, p.1 ≠ it) : Inv X pins σ H { s with heap := h', toks := t' } := by
  have nit : ∀ b u, H b = some u → b ≠ it := fun b u e z => by rw [z, hn] at e; cases e
  refine I.step (g' := s.gens) (d' := s.drawn) (ch := [it]) (fun b hb => ?_) (fun b o _ _ hc e _ => k b o (fun z => hc (by simp [z])) e) (fun b o _ _ hc e _ => ⟨o.slots, k b o (fun z => hc (by simp [z])) e⟩) (fun _ _ _ _ n => n)
    (fun b o hc e => ⟨o, k b o (fun z => hc (by simp [z])) e⟩) (fun _ _ e => e) (fun _ _ _ e => e) (fun b ps e => ⟨#[], by rw [e]; simp⟩) (fun m hm => ?_) (fun b u e => ?_) I.bare
  · have e : b = it := by simpa using hb
    subst e
    exact ⟨h1, hL, h2, h3⟩
  · obtain ⟨o, es, ep, ho, r⟩ := hm
    exact ⟨o, es, ep, k _ o (Ne.symm hL) ho, r⟩
  · refine (I.hok b u e).stay (fun c v hc q => k c v ?_ q) (fun _ q => q) fun _ _ q => q
    rcases hc with z | z
    · rw [z]; exact nit b u e
    · exact nit c _ z
theorem Inv.tok (I : Inv X pins σ H s) (t : Nat) : Inv X pins σ H { s with toks := t } := I.un (h' := s.heap) (t' := t) Un.refl I.hok
theorem Inv.kept {t' : Nat} (I : Inv X pins σ H s) (k : ∀ b u, s.heap.get? b = some u → h'.get? b = some u) : Inv X pins σ H { s with heap := h', toks := t' } := I.un (Un.kept k) (I.hok.kept k)
theorem Inv.laid {a : Addr} {o : HO} {t' : Nat} (I : Inv X pins σ H s) (k : ∀ b u, s.heap.get? b = some u → h'.get? b = some u) (hp : s.heap.objs.size ≤ a) (new : ObjOk X.prog X.w (upd H a o) h' a o) :
    Inv X pins σ (upd H a o) { s with heap := h', toks := t' } := I.un (Un.laid k hp (I.hok.fresh hp)) (I.hok.laid k hp new)
theorem Inv.write {x e : Addr} {o : HO} {t' : Nat} (I : Inv X pins σ H s) (mu : Mut (H x)) (he : e = x ∨ H e = some (.own x)) (k : ∀ b u, b ≠ e → s.heap.get? b = some u → h'.get? b = some u) (heo : ∃ u, h'.get? e = some u)
    (new : ObjOk X.prog X.w (upd H x o) h' x o) : Inv X pins σ (upd H x o) { s with heap := h', toks := t' } := I.un (Un.write mu he k heo) (I.hok.write mu he k heo new)
theorem Inv.pins_of {pins' : List (Addr × Obj)} (I : Inv X pins σ H s) (h : ∀ p ∈ pins', s.heap.get? p.1 = some p.2 ∧ H p.1 = none ∧ p.1 ≠ X.env.locals ∧ p.1 ∉ X.fs ∧ ∀ v, p.2.data ≠ .cell v) : Inv X pins' σ H s :=
  ⟨I.ok, I.os, I.bare, I.base, I.loc, I.cell, I.free, I.freeC, fun p hp => (List.mem_append.mp hp).elim (fun z => I.pin p (List.mem_append_left _ z)) (h p), I.hok, I.len⟩

theorem nodup_ix {N : List Str} (hN : N.Nodup) {i j : Nat} {x : Str} (a : N[i]? = some x) (b : N[j]? = some x) : i = j := by
  obtain ⟨h1, e1⟩ := List.getElem?_eq_some_iff.mp a
  obtain ⟨h2, e2⟩ := List.getElem?_eq_some_iff.mp b
  exact (List.getElem_inj hN).mp (e1.trans e2.symm)

theorem store_ok2 {M : Model} {A : Around} {E : Value → Shared → Prop} {i : Nat} {x : Str} {v : V} {u : Value} {Q : Unit → Shared → Prop} (I : Inv X pins σ H s) (hN : X.N.Nodup) (hi : X.N[i]? = some x) (hx : Loc X.env.scope x) (r : RelV v u)
    (h : ∀ s', Inv X pins (σ.set i (some v)) H s' → (∃ a, Heap.SameBut a s.heap s'.heap ∧ (a = X.env.locals ∨ X.env.cells.lookup x = some a)) → Q () s') (hf : X.fn x = true ∨ X.env.scope.names.lookup x = some .local := by first | exact .inl rfl | exact .inr rfl | assumption) : wpAny M A (storeName X.env x u) Q E s := by
  obtain ⟨m, hn, hl⟩ := id I.loc
  have hcls : (X.env.scope.kind == .class || (X.env.scope.kind == .module && X.env.locals != X.env.globals)) = false := by rw [I.ok.kind]; rfl
  have hiσ : i < σ.length := by rw [I.len]; exact (List.getElem?_eq_some_iff.mp hi).1
  have cne := I.cne
  have tracked : ∀ {a : Addr} {h' : Heap}, (∃ o, s.heap.get? a = some o ∧ H a = none) → Heap.SameBut a s.heap h' → HOk X.prog X.w H h' := fun {a h'} ha hs b ob e => by
    obtain ⟨_, _, hfree⟩ := ha
    refine (I.hok b ob e).stay (fun c w' hc q => (hs.2 c ?_).trans q) (fun _ q => q) fun _ _ q => q
    rintro rfl
    rcases hc with rfl | hc
    · rw [hfree] at e; cases e
    · rw [hfree] at hc; cases hc
  rcases hx with hk | hk
  · refine wpAny_storeName_local hk hn (fun h' hn' hs => ?_) hcls
    obtain ⟨oL, _, _, hoL, _⟩ := id hn
    refine h _ ⟨I.ok, I.os, I.bare, ⟨fun b o e n hb hx => ?_, fun b o e n hb hx => ?_, I.base.free, fun b o e hx => ?_, I.base.tups, I.base.frzs, I.base.tbls⟩, ⟨_, hn', fun j y v' e1 e2 e3 => ?_⟩, fun y c e => ?_, I.free, I.freeC, fun p hp => ?_, tracked ⟨oL, hoL, I.free⟩ hs, by simpa using I.len⟩ ⟨_, hs, .inl rfl⟩
    · exact (hs.2 b (Nat.ne_of_lt (Nat.lt_of_lt_of_le (Heap.lt_size e) I.ok.above))).trans (I.base.keep b o e n hb hx)
    · obtain ⟨sl, e1⟩ := I.base.slot b o e n hb hx
      exact ⟨sl, (hs.2 b (Nat.ne_of_lt (Nat.lt_of_lt_of_le (Heap.lt_size e) I.ok.above))).trans e1⟩
    · obtain ⟨o', e1⟩ := I.base.there b o e hx
      exact ⟨o', (hs.2 b (Nat.ne_of_lt (Nat.lt_of_lt_of_le (Heap.lt_size e) I.ok.above))).trans e1⟩
    · by_cases hj : j = i
      · subst hj
        rw [hi] at e1; cases e1
        rw [List.getElem?_set_self hiσ] at e2
        cases e2
        exact ⟨u, r, .inl ⟨hk, by simp⟩⟩
      · rw [List.getElem?_set_ne (Ne.symm hj)] at e2
        obtain ⟨u', r', q⟩ := hl j y v' e1 e2 e3
        refine ⟨u', r', ?_⟩
        rcases q with ⟨k, e⟩ | ⟨k, c, e, z⟩
        · refine .inl ⟨k, ?_⟩
          have : y ≠ x := fun e => hj (nodup_ix hN e1 (e ▸ hi))
          simp [this, e]
        · exact .inr ⟨k, c, e, z.sameBut hs (cne y c e)⟩
    · obtain ⟨w', z⟩ := I.cell y c e
      exact ⟨w', z.sameBut hs (cne y c e)⟩
    · obtain ⟨e, n, ne, nf, d⟩ := I.pin p hp
      exact ⟨(hs.2 p.1 ne).trans e, n, ne, nf, d⟩
  · have hfn : X.fn x = true := by
      rcases hf with z | z
      · exact z
      · rw [z] at hk; cases hk
    obtain ⟨c, hc⟩ := I.ok.has x (.inl hk)
    obtain ⟨w', z⟩ := I.cell x c hc
    refine wpAny_storeName_cell I.ok.kind hk hc z (fun h' hc' hs => ?_)
    obtain ⟨oc, hoc, hocd⟩ := id z
    refine h { s with heap := h' } ⟨I.ok, I.os, I.bare, ⟨fun b o e n hb hx => ?_, fun b o e n hb hx => ?_, I.base.free, fun b o e hx => ?_, I.base.tups, I.base.frzs, I.base.tbls⟩, ⟨m, hn.sameBut hs (Ne.symm (cne x c hc)), fun j y v' e1 e2 e3 => ?_⟩, fun y c' e => ?_, I.free, I.freeC, fun p hp => ?_, tracked ⟨oc, hoc, I.freeC x c hc⟩ hs, by simpa using I.len⟩ ⟨c, hs, .inr hc⟩
    · exact (hs.2 b (Nat.ne_of_lt (Nat.lt_of_lt_of_le (Heap.lt_size e) (I.ok.cab x c hfn hc)))).trans (I.base.keep b o e n hb hx)
    · obtain ⟨sl, e1⟩ := I.base.slot b o e n hb hx
      exact ⟨sl, (hs.2 b (Nat.ne_of_lt (Nat.lt_of_lt_of_le (Heap.lt_size e) (I.ok.cab x c hfn hc)))).trans e1⟩
    · obtain ⟨o', e1⟩ := I.base.there b o e hx
      exact ⟨o', (hs.2 b (Nat.ne_of_lt (Nat.lt_of_lt_of_le (Heap.lt_size e) (I.ok.cab x c hfn hc)))).trans e1⟩
    · by_cases hj : j = i
      · subst hj
        rw [hi] at e1; cases e1
        rw [List.getElem?_set_self hiσ] at e2
        cases e2
        exact ⟨u, r, .inr ⟨.inl hk, c, hc, hc'⟩⟩
      · rw [List.getElem?_set_ne (Ne.symm hj)] at e2
        obtain ⟨u', r', q⟩ := hl j y v' e1 e2 e3
        refine ⟨u', r', ?_⟩
        rcases q with q | ⟨k, c', e, z'⟩
        · exact .inl q
        · refine .inr ⟨k, c', e, z'.sameBut hs ?_⟩
          rintro rfl
          exact hj (nodup_ix hN e1 (I.ok.inj _ _ _ e hc ▸ hi))
    · by_cases hcc : c' = c
      · subst hcc; exact ⟨_, hc'⟩
      · obtain ⟨w2, z2⟩ := I.cell y c' e
        exact ⟨w2, z2.sameBut hs hcc⟩
    · obtain ⟨e, n, ne, nf, d⟩ := I.pin p hp
      refine ⟨(hs.2 p.1 ?_).trans e, n, ne, nf, d⟩
      intro q
      rw [q, hoc] at e
      have q' : oc = p.2 := Option.some.inj e
      exact d w' (by rw [← q']; exact hocd)
theorem store_ok {M : Model} {A : Around} {E : Value → Shared → Prop} {i : Nat} {x : Str} {v : V} {u : Value} {Q : Unit → Shared → Prop} (I : Inv X pins σ H s) (hN : X.N.Nodup) (hi : X.N[i]? = some x) (hx : Loc X.env.scope x) (r : RelV v u)
    (h : ∀ s', Inv X pins (σ.set i (some v)) H s' → Q () s') (hf : X.fn x = true ∨ X.env.scope.names.lookup x = some .local := by first | exact .inl rfl | exact .inr rfl | assumption) : wpAny M A (storeName X.env x u) Q E s :=
  store_ok2 I hN hi hx r (fun s' I' _ => h s' I') hf
end

/-! ### the judgements -/
noncomputable abbrev XK := Value → Option Addr → Hp → Prop
noncomputable abbrev St := List (Option V)
noncomputable abbrev VK := V → Hp → Prop
noncomputable abbrev TE := St → Hp → VK → Prop
noncomputable abbrev TT := St → Hp → (Bool → Hp → Prop) → Prop
noncomputable abbrev TA := St → Hp → (List V → Hp → Prop) → Prop
structure Ends where
  nx : St → Hp → Prop
  rt : VK
  bk : St → Hp → Prop := fun _ _ => False
  ct : St → Hp → Prop := fun _ _ => False
noncomputable abbrev TS := Ends → St → Hp → Prop

noncomputable def EP (X : Cx) (pins : List (Addr × Obj)) (σ : St) (Q : VK) (u : Value) (s' : Shared) : Prop := ∃ v H', Inv X pins σ H' s' ∧ RelV v u ∧ Q v H'
noncomputable def TP (X : Cx) (pins : List (Addr × Obj)) (σ : St) (Q : Bool → Hp → Prop) (b : Bool) (s' : Shared) : Prop := ∃ H', Inv X pins σ H' s' ∧ Q b H'
noncomputable def AP (X : Cx) (pins : List (Addr × Obj)) (σ : St) (Q : List V → Hp → Prop) (us : List Value) (s' : Shared) : Prop := ∃ vs H', Inv X pins σ H' s' ∧ Vals vs us ∧ Q vs H'
noncomputable def SP (X : Cx) (pins : List (Addr × Obj)) (D : Ends) (f : Flow) (s' : Shared) : Prop :=
  match f with
  | .next => ∃ σ' H', Inv X pins σ' H' s' ∧ D.nx σ' H'
  | .brk => ∃ σ' H', Inv X pins σ' H' s' ∧ D.bk σ' H'
  | .cont => ∃ σ' H', Inv X pins σ' H' s' ∧ D.ct σ' H'
  | .ret u => ∃ v σ' H', Inv X pins σ' H' s' ∧ RelV v u ∧ D.rt v H'

noncomputable def PE (X : Cx) (e : Expr) (t : TE) : Prop :=
  ∀ (pins : List (Addr × Obj)) (s : Shared) (σ : St) (H : Hp) (Q : VK), Inv X pins σ H s → t σ H Q → wpAny (model X.prog X.w) X.A (eval e X.env) (EP X pins σ Q) X.xe s
noncomputable def PT (X : Cx) (e : Expr) (t : TT) : Prop :=
  ∀ (pins : List (Addr × Obj)) (s : Shared) (σ : St) (H : Hp) (Q : Bool → Hp → Prop), Inv X pins σ H s → t σ H Q → wpAny (model X.prog X.w) X.A (isTrue e X.env (eval e X.env)) (TP X pins σ Q) X.xe s
noncomputable def PW (X : Cx) (e : Expr) (t : TT) : Prop :=
  ∀ (whole : Sem Value) (pins : List (Addr × Obj)) (s : Shared) (σ : St) (H : Hp) (Q : Bool → Hp → Prop), Inv X pins σ H s → t σ H Q → wpAny (model X.prog X.w) X.A (isTrue e X.env whole) (TP X pins σ Q) X.xe s
theorem PW.pt {X : Cx} {e : Expr} {t : TT} (h : PW X e t) : PT X e t := h _
noncomputable def PA (X : Cx) (es : List Expr) (t : TA) : Prop :=
  ∀ (pos : Pos) (pins : List (Addr × Obj)) (s : Shared) (σ : St) (H : Hp) (Q : List V → Hp → Prop), Inv X pins σ H s → t σ H Q → wpAny (model X.prog X.w) X.A (spliced (backTo pos (starEach es X.env))) (AP X pins σ Q) X.xe s
noncomputable def PS (X : Cx) (st : Stmt) (t : TS) : Prop :=
  ∀ (pins : List (Addr × Obj)) (s : Shared) (σ : St) (H : Hp) (D : Ends), Inv X pins σ H s → t D σ H → wpAny (model X.prog X.w) X.A (exec st X.env) (SP X pins D) X.xe s
noncomputable def PSs (X : Cx) (st : List Stmt) (t : TS) : Prop :=
  ∀ (pins : List (Addr × Obj)) (s : Shared) (σ : St) (H : Hp) (D : Ends), Inv X pins σ H s → t D σ H → wpAny (model X.prog X.w) X.A (execs st X.env) (SP X pins D) X.xe s
theorem thn {α : Type} {t : Sem α} {Q Q' : α → Shared → Prop} {M : Model} {A : Around} {E : Value → Shared → Prop} {s : Shared} (h : wpAny M A t Q E s) (hQ : ∀ a s, Q a s → Q' a s) : wpAny M A t Q' E s := wpAny_mono h hQ fun _ _ x => x
end L2

namespace L2
open PySem PySem.Spec PyProof.Rows
section
variable {X : Cx}


/-! ### names and constants -/
noncomputable def tVar (i : Nat) : TE := fun σ H Q => ∃ v, σ[i]? = some (some v) ∧ Q v H
noncomputable def tC (v : V) : TE := fun _ H Q => Q v H
theorem pe_var {i : Nat} {x : Str} {pos : Pos} (hN : X.N[i]? = some x) (hv : Vis X.env.scope x) (hd : (x == ("__debug__" : Str)) = false := by decide) (hcd : (x == ("__classdict__" : Str)) = false := by decide) : PE X (.Name x pos) (tVar i) := by
  intro pins s σ H Q I h
  obtain ⟨v, e, h⟩ := h
  obtain ⟨m, hn, hl⟩ := I.loc
  obtain ⟨u, r, l⟩ := hl i x v hN e hv
  have fin : EP X pins σ Q u s := ⟨v, H, I, r, h⟩
  rcases l with ⟨hk, hm⟩ | ⟨hk, c, hc, hcell⟩
  · exact wpAny_Name (wpAny_loadName_local I.ok.kind hk hn hm fin) hd
  · rcases hk with hk | hk
    · exact wpAny_Name (wpAny_loadName_cell I.ok.kind hk hc hcell fin) hd
    · exact wpAny_Name (wpAny_loadName_free I.ok.kind hk hc hcell fin hcd) hd
theorem pe_int {i j pos} : PE X (.Constant (.int i) j pos) (tC (.int i)) := fun _ _ _ H _ I h => wpAny_Constant_int ⟨.int i, H, I.tok _, ⟨_, rfl⟩, h⟩
theorem pe_bl {b j pos} : PE X (.Constant (.bool b) j pos) (tC (.bl b)) := fun _ _ _ H _ I h => Constant_bool ⟨.bl b, H, I, rfl, h⟩
theorem pe_non {j pos} : PE X (.Constant .none j pos) (tC .non) := fun _ _ _ H _ I h => Constant_none ⟨.non, H, I, rfl, h⟩
theorem pe_str {x j pos} : PE X (.Constant (.str x) j pos) (tC (.str x)) := fun _ _ _ H _ I h => Calls.Constant_str ⟨.str x, H, I.tok _, ⟨_, rfl⟩, h⟩

noncomputable def Gl (X : Cx) (x : Str) : Prop := X.env.kindOf x = some .globalImplicit
theorem ld_glob {E : Value → Shared → Prop} {pins : List (Addr × Obj)} {s : Shared} {σ : St} {H : Hp} {x : Str} {u : Value} {pos : Pos} {Q : Value → Shared → Prop} (I : Inv X pins σ H s) (hg : Gl X x) (hm : X.mg x = some u) (h : Q u s)
    (hd : (x == ("__debug__" : Str)) = false := by decide) : wpAny (model X.prog X.w) X.A (eval (.Name x pos) X.env) Q E s :=
  Calls.Name_function_global I.ok.kind hg (Calls.loadGlobal_global (by rw [I.ok.glob]; exact I.mod.glob.keeps I.bk) hm h) hd
theorem ld_blt {E : Value → Shared → Prop} {pins : List (Addr × Obj)} {s : Shared} {σ : St} {H : Hp} {x : Str} {u : Value} {pos : Pos} {Q : Value → Shared → Prop} (I : Inv X pins σ H s) (hg : Gl X x) (hm : X.mg x = none) (hv : bootBuiltins x = some u) (h : Q u s)
    (hn : x ≠ "__name__" := by decide) (hd : (x == ("__debug__" : Str)) = false := by decide) : wpAny (model X.prog X.w) X.A (eval (.Name x pos) X.env) Q E s := by
  obtain ⟨mb, h1, h2⟩ := I.mod.blt
  exact Calls.Name_function_global I.ok.kind hg (Calls.loadGlobal_builtin (by rw [I.ok.glob]; exact I.mod.glob.keeps I.bk) hm (by rw [I.ok.blt]; exact h1.keeps I.bk) ((h2 x hn).trans hv) h) hd

/-! ### arithmetic -/
noncomputable def t2I (ta tb : TE) (k : Int → Int → Hp → Prop) : St → Hp → Prop := fun σ H => ta σ H fun x H1 => tb σ H1 fun y H2 => ∃ i j, x = .int i ∧ y = .int j ∧ k i j H2
noncomputable def tAdd (ta tb : TE) : TE := fun σ H Q => t2I ta tb (fun i j H2 => Q (.int (i + j)) H2) σ H
noncomputable def tSub (ta tb : TE) : TE := fun σ H Q => t2I ta tb (fun i j H2 => Q (.int (i - j)) H2) σ H
noncomputable def tMul (ta tb : TE) : TE := fun σ H Q => t2I ta tb (fun i j H2 => (-(2 ^ 64) < i ∧ i < 2 ^ 64) ∧ Q (.int (i * j)) H2) σ H
variable {a b : Expr} {ta tb : TE} {pos : Pos}

/-! ### comparisons -/
noncomputable def PC (X : Cx) (op : CmpOp) (a b : Expr) (t : TE) : Prop :=
  ∀ (pins : List (Addr × Obj)) (s : Shared) (σ : St) (H : Hp) (Q : VK), Inv X pins σ H s → t σ H Q →
    wpAny (model X.prog X.w) X.A (eval a X.env) (fun v s₁ => wpAny (model X.prog X.w) X.A (eval b X.env) (fun u s₂ => wpAny (model X.prog X.w) X.A (compareOp op v u) (EP X pins σ Q) X.xe s₂) X.xe s₁) X.xe s
noncomputable def tCmp (p : Int → Int → Bool) (ta tb : TE) : TE := fun σ H Q => t2I ta tb (fun i j H2 => Q (.bl (p i j)) H2) σ H
noncomputable abbrev tLt : TE → TE → TE := tCmp fun i j => decide (i < j)
noncomputable abbrev tLe : TE → TE → TE := tCmp fun i j => decide (i ≤ j)
noncomputable abbrev tGt : TE → TE → TE := tCmp fun i j => decide (j < i)
noncomputable abbrev tGe : TE → TE → TE := tCmp fun i j => decide (j ≤ i)
noncomputable abbrev tEqI : TE → TE → TE := tCmp fun i j => decide (i = j)
noncomputable abbrev tNeI : TE → TE → TE := tCmp fun i j => !decide (i = j)
noncomputable def tIsN (ta : TE) : TE := fun σ H Q => ta σ H fun x H1 => Q (.bl (decide (x = .non))) H1
noncomputable def tNotN (ta : TE) : TE := fun σ H Q => ta σ H fun x H1 => Q (.bl (!decide (x = .non))) H1
noncomputable def tB (t : TE) : TT := fun σ H Q => t σ H fun x H1 => ∃ c, x = .bl c ∧ Q c H1

/-! ### and, or, not -/
variable {tA tB' : TT} {rest : List Expr}
noncomputable def tAnd (t u : TT) : TT := fun σ H Q => t σ H fun c H1 => if c = true then u σ H1 Q else Q false H1
noncomputable def tOr (t u : TT) : TT := fun σ H Q => t σ H fun c H1 => if c = true then Q true H1 else u σ H1 Q
noncomputable def tNot (t : TT) : TT := fun σ H Q => t σ H fun c H1 => Q (!c) H1
theorem pw_and1 (ha : PT X a tA) : PW X (.BoolOp .And [a] pos) tA := by
  intro wh pins s σ H Q I h
  refine isTrue_and (thn (ha pins s σ H Q I h) fun c s1 e => ?_)
  cases c with
  | true => exact isTrue_and_nil e
  | false => exact e
theorem pw_or1 (ha : PT X a tA) : PW X (.BoolOp .Or [a] pos) tA := by
  intro wh pins s σ H Q I h
  refine isTrue_or (thn (ha pins s σ H Q I h) fun c s1 e => ?_)
  cases c with
  | false => exact isTrue_or_nil e
  | true => exact e
theorem pw_and (ha : PT X a tA) (hb : PW X (.BoolOp .And (b :: rest) pos) tB') : PW X (.BoolOp .And (a :: b :: rest) pos) (tAnd tA tB') := by
  intro wh pins s σ H Q I h
  refine isTrue_and (thn (ha pins s σ H _ I h) fun c s1 ⟨H1, I1, q1⟩ => ?_)
  cases c with
  | true => exact hb wh pins s1 σ H1 Q I1 q1
  | false => exact ⟨H1, I1, q1⟩
theorem pw_or (ha : PT X a tA) (hb : PW X (.BoolOp .Or (b :: rest) pos) tB') : PW X (.BoolOp .Or (a :: b :: rest) pos) (tOr tA tB') := by
  intro wh pins s σ H Q I h
  refine isTrue_or (thn (ha pins s σ H _ I h) fun c s1 ⟨H1, I1, q1⟩ => ?_)
  cases c with
  | true => exact ⟨H1, I1, q1⟩
  | false => exact hb wh pins s1 σ H1 Q I1 q1
noncomputable def tAndV (ta tb : TE) : TE := fun σ H Q => ta σ H fun x H1 => ∃ c, x = .bl c ∧ if c = true then tb σ H1 Q else Q (.bl false) H1
noncomputable def tOrV (ta tb : TE) : TE := fun σ H Q => ta σ H fun x H1 => ∃ c, x = .bl c ∧ if c = true then Q (.bl true) H1 else tb σ H1 Q
noncomputable def tNotV (ta : TE) : TE := fun σ H Q => ta σ H fun x H1 => ∃ c, x = .bl c ∧ Q (.bl (!c)) H1
noncomputable def tIf (t : TT) (ta tb : TE) : TE := fun σ H Q => t σ H fun c H1 => if c = true then ta σ H1 Q else tb σ H1 Q
end
end L2

namespace L2
open PySem PySem.Spec PyProof.Rows

/-! ### a list, a tuple that is read: tracked, frozen, or an object of the module -/
noncomputable def SqL (K : PySem.W.Frag) (H : Hp) (a : Addr) (xs : List V) : Prop :=
  Rd H a (.lst xs) ∨
    ∃ (o : Obj) (its : Array Value) (n : Nat), K.lookup a = some o ∧ o.cls = .type "list" ∧ o.dict = none ∧ o.data = .seq its n ∧ its.size ≤ sizeLine ∧ Vals xs its.toList
noncomputable def SqT (K : PySem.W.Frag) (H : Hp) (a : Addr) (xs : List V) : Prop :=
  Rd H a (.tup xs) ∨
    ∃ (o : Obj) (its : Array Value) (n : Nat), K.lookup a = some o ∧ o.cls = .type "tuple" ∧ o.data = .seq its n ∧ its.size ≤ sizeLine ∧ Vals xs its.toList
noncomputable def absV : Value → Option V
  | .none => some .non
  | .bool b => some (.bl b)
  | .int i _ => some (.int i)
  | .str x _ => some (.str x)
  | .bytes b _ => some (.byt b)
  | .float b _ => some (.flt b)
  | .ref a => some (.ref a)
  | .type n => some (.ty n)
  | _ => none
theorem RelV.abs {x : V} {u : Value} (r : RelV x u) : absV u = some x := by
  cases x with
  | non => cases r; rfl
  | bl _ => cases r; rfl
  | int _ => obtain ⟨t, rfl⟩ := r; rfl
  | str _ => obtain ⟨t, rfl⟩ := r; rfl
  | byt _ => obtain ⟨t, rfl⟩ := r; rfl
  | flt _ => obtain ⟨t, rfl⟩ := r; rfl
  | ref _ => cases r; rfl
  | ty _ => cases r; rfl
theorem RelV.inj {x y : V} {u : Value} (r : RelV x u) (q : RelV y u) : x = y := Option.some.inj (r.abs.symm.trans q.abs)
theorem Vals.inj : ∀ {xs ys : List V} {us : List Value}, Vals xs us → Vals ys us → xs = ys
  | _, _, _, .nil, .nil => rfl
  | _, _, _, .cons r t, .cons r' t' => by rw [r.inj r', Vals.inj t t']
section
variable {X : Cx} {pins : List (Addr × Obj)} {σ : St} {H : Hp} {s : Shared} {a : Addr} {xs ys : List V}
theorem Inv.list (I : Inv X pins σ H s) (h : SqL X.K H a xs) : ∃ its : List Value, Vals xs its ∧ PlainL s.heap a its.toArray ∧ xs.length ≤ sizeLine := by
  rcases h with h | ⟨o, its, n, hk, hc, hd, hs, hz, r⟩
  · obtain ⟨z, its, n, r, e⟩ := h.ok I.hok
    exact ⟨its, r, ⟨_, n, e, rfl, rfl, rfl⟩, z⟩
  · refine ⟨its.toList, r, ⟨o, n, I.kIn a o hk, hc, hd, by simpa using hs⟩, ?_⟩
    have e := r.length
    simp only [Array.length_toList] at e
    omega
theorem Inv.tuple (I : Inv X pins σ H s) (h : SqT X.K H a xs) : ∃ its : List Value, Vals xs its ∧ IsTup s.heap a its.toArray ∧ xs.length ≤ sizeLine := by
  rcases h with h | ⟨o, its, n, hk, hc, hs, hz, r⟩
  · obtain ⟨z, its, r, p⟩ := h.ok I.hok
    exact ⟨its, r, p, z⟩
  · refine ⟨its.toList, r, ⟨o, I.kIn a o hk, hc, n, by simpa using hs⟩, ?_⟩
    have e := r.length
    simp only [Array.length_toList] at e
    omega
theorem Inv.list_inj (I : Inv X pins σ H s) (h : SqL X.K H a xs) (h' : SqL X.K H a ys) : xs = ys := by
  obtain ⟨its, r, ⟨o, n, e, _, _, d⟩, _⟩ := I.list h
  obtain ⟨its', r', ⟨o', n', e', _, _, d'⟩, _⟩ := I.list h'
  rw [e] at e'; cases e'
  rw [d] at d'
  injection d' with d1 _
  have : its = its' := by simpa using congrArg Array.toList d1
  subst this
  exact r.inj r'
theorem Inv.tuple_inj (I : Inv X pins σ H s) (h : SqT X.K H a xs) (h' : SqT X.K H a ys) : xs = ys := by
  obtain ⟨its, r, ⟨o, e, _, n, d⟩, _⟩ := I.tuple h
  obtain ⟨its', r', ⟨o', e', _, n', d'⟩, _⟩ := I.tuple h'
  rw [e] at e'; cases e'
  rw [d] at d'
  injection d' with d1 _
  have : its = its' := by simpa using congrArg Array.toList d1
  subst this
  exact r.inj r'
end

/-! ### another wish about exceptions -/
noncomputable abbrev Cx.wish (X : Cx) (E : Value → Shared → Prop) : Cx := { X with xe := E }
noncomputable abbrev Cx.nox (X : Cx) : Cx := X.wish fun _ _ => False
theorem Cx.Ok.wish {X : Cx} (ok : X.Ok) (E : Value → Shared → Prop) : (X.wish E).Ok :=
  ⟨ok.mod, ok.kind, ok.glob, ok.blt, ok.above, ok.inj, ok.has, ok.cab, ok.hd, ok.frames, ok.stk, ok.exf, ok.bs, ok.bsz, ok.noex, ok.exfs, ok.funs, ok.frf⟩
theorem Cx.Ok.unwish {X : Cx} {E : Value → Shared → Prop} (ok : (X.wish E).Ok) : X.Ok :=
  ⟨ok.mod, ok.kind, ok.glob, ok.blt, ok.above, ok.inj, ok.has, ok.cab, ok.hd, ok.frames, ok.stk, ok.exf, ok.bs, ok.bsz, ok.noex, ok.exfs, ok.funs, ok.frf⟩
section
variable {X : Cx} {pins : List (Addr × Obj)} {σ : St} {H : Hp} {s : Shared} {E : Value → Shared → Prop}
theorem Inv.wish (I : Inv X pins σ H s) (E : Value → Shared → Prop) : Inv (X.wish E) pins σ H s := ⟨I.ok.wish E, I.os, I.bare, I.base, I.loc, I.cell, I.free, I.freeC, I.pin, I.hok, I.len⟩
theorem Inv.unwish (I : Inv (X.wish E) pins σ H s) : Inv X pins σ H s := ⟨I.ok.unwish, I.os, I.bare, I.base, I.loc, I.cell, I.free, I.freeC, I.pin, I.hok, I.len⟩
theorem SP.unwish {D : Ends} {f : Flow} {s' : Shared} (h : SP (X.wish E) pins D f s') : SP X pins D f s' := by
  cases f with
  | next => obtain ⟨σ', H', I, q⟩ := h; exact ⟨σ', H', I.unwish, q⟩
  | brk => obtain ⟨σ', H', I, q⟩ := h; exact ⟨σ', H', I.unwish, q⟩
  | cont => obtain ⟨σ', H', I, q⟩ := h; exact ⟨σ', H', I.unwish, q⟩
  | ret u => obtain ⟨v, σ', H', I, r, q⟩ := h; exact ⟨v, σ', H', I.unwish, r, q⟩
theorem PSs.nox {st : List Stmt} {t : TS} (h : PSs X.nox st t) : PSs X st t := fun pins s σ H D I hw =>
  wpAny_mono (h pins s σ H D (I.wish _) hw) (fun _ _ q => q.unwish) fun _ _ z => False.elim z
end

/-! ### blocks and small statements -/
section
variable {X : Cx} {st : Stmt} {rest : List Stmt} {t u : TS} {e : Expr} {te : TE} {pos : Pos}
noncomputable def tNext : TS := fun D σ H => D.nx σ H
noncomputable def tSeq (t u : TS) : TS := fun D σ H => t { D with nx := u D } σ H
theorem pss_nil : PSs X [] tNext := fun _ _ σ H _ I h => wpAny_execs_nil ⟨σ, H, I, h⟩
theorem pss_cons (h1 : PS X st t) (h2 : PSs X rest u) : PSs X (st :: rest) (tSeq t u) := by
  intro pins s σ H D I h
  refine wpAny_execs_cons (thn (h1 pins s σ H { D with nx := u D } I h) fun f s1 q => ?_)
  cases f with
  | next =>
    obtain ⟨σ', H', I', q⟩ := q
    exact h2 pins s1 σ' H' D I' q
  | ret v => exact q
  | brk => exact q
  | cont => exact q
theorem pss_one (h1 : PS X st t) : PSs X [st] t := by
  intro pins s σ H D I h
  refine wpAny_execs_cons (thn (h1 pins s σ H D I h) fun f s1 q => ?_)
  cases f with
  | next => exact wpAny_execs_nil q
  | ret v => exact q
  | brk => exact q
  | cont => exact q
noncomputable def tBreak : TS := fun D σ H => D.bk σ H
noncomputable def tCont : TS := fun D σ H => D.ct σ H
theorem Inv.quiet {pins : List (Addr × Obj)} {σ : St} {H : Hp} {s : Shared} (I : Inv X pins σ H s) : interactive X.env = false := by simp [interactive, I.ok.kind]
noncomputable def tDrop (te : TE) : TS := fun D σ H => te σ H fun _ H1 => D.nx σ H1
theorem ps_expr (he : PE X e te) (hs : swapsWith e none pos.line X.env = pure false := by rfl) : PS X (.Expr e pos) (tDrop te) := by
  intro pins s σ H D I h
  exact wpAny_Expr_any (thn (he pins s σ H _ I h) fun v s1 ⟨x, H1, I1, r1, q1⟩ => ⟨σ, H1, I1, q1⟩) I.quiet hs
noncomputable def tRet (te : TE) : TS := fun D σ H => te σ H D.rt
theorem ps_ret (he : PE X e te) : PS X (.Return (some e) pos) (tRet te) := by
  intro pins s σ H D I h
  exact wpAny_Return_some (thn (he pins s σ H _ I h) fun v s1 ⟨x, H1, I1, r1, q1⟩ => ⟨x, σ, H1, I1, r1, q1⟩)
noncomputable def tRetN : TS := fun D _ H => D.rt .non H
noncomputable def tIfS (c : TT) (t u : TS) : TS := fun D σ H => c σ H fun b H1 => if b = true then t D σ H1 else u D σ H1
theorem ps_if {c : Expr} {a b : List Stmt} {tc : TT} (hc : PT X c tc) (ha : PSs X a t) (hb : PSs X b u) : PS X (.If c a b pos) (tIfS tc t u) := by
  intro pins s σ H D I h
  refine wpAny_If (thn (hc pins s σ H _ I h) fun d s1 ⟨H1, I1, q1⟩ => ?_)
  cases d with
  | true => exact ha pins s1 σ H1 D I1 q1
  | false => exact hb pins s1 σ H1 D I1 q1
noncomputable def tNever : TS := fun _ _ _ => False
theorem ps_never : PS X st tNever := fun _ _ _ _ _ _ h => h.elim
end

/-! ### targets -/
noncomputable abbrev TG := V → St → Hp → (St → Hp → Prop) → Prop
noncomputable abbrev TGs := List V → St → Hp → (St → Hp → Prop) → Prop
noncomputable def PG (X : Cx) (target : Expr) (t : TG) : Prop :=
  ∀ (pins : List (Addr × Obj)) (s : Shared) (σ : St) (H : Hp) (v : V) (u : Value) (Q : St → Hp → Prop), Inv X pins σ H s → RelV v u → t v σ H Q →
    wpAny (model X.prog X.w) X.A (assign target X.env u) (fun _ s' => ∃ σ' H', Inv X pins σ' H' s' ∧ Q σ' H') X.xe s
noncomputable def PGs (X : Cx) (ts : List Expr) (t : TGs) : Prop :=
  ∀ (pins : List (Addr × Obj)) (s : Shared) (σ : St) (H : Hp) (vs : List V) (us : List Value) (Q : St → Hp → Prop), Inv X pins σ H s → Vals vs us → t vs σ H Q →
    wpAny (model X.prog X.w) X.A (assignInOrder ((assignEach ts X.env).map (·.2)) us) (fun _ s' => ∃ σ' H', Inv X pins σ' H' s' ∧ Q σ' H') X.xe s
noncomputable abbrev TSet := V → V → V → Hp → (Hp → Prop) → Prop
noncomputable def PSet (X : Cx) (t : TSet) : Prop :=
  ∀ (pins : List (Addr × Obj)) (s : Shared) (σ : St) (H : Hp) (o i v : V) (ov iv u : Value) (Q : Hp → Prop), Inv X pins σ H s → RelV o ov → RelV i iv → RelV v u → t o i v H Q →
    wpAny (model X.prog X.w) X.A (setItem ov iv u) (fun _ s' => ∃ H', Inv X pins σ H' s' ∧ Q H') X.xe s
noncomputable abbrev TIp := V → V → Hp → VK → Prop
noncomputable def PIp (X : Cx) (op : Operator) (t : TIp) : Prop :=
  ∀ (pins : List (Addr × Obj)) (s : Shared) (σ : St) (H : Hp) (x y : V) (v u : Value) (Q : VK), Inv X pins σ H s → RelV x v → RelV y u → t x y H Q →
    wpAny (model X.prog X.w) X.A (inplaceOp op v u) (EP X pins σ Q) X.xe s
section
variable {X : Cx} {pos : Pos}
noncomputable def gName (i : Nat) : TG := fun v σ H Q => Q (σ.set i (some v)) H
theorem pg_name {i : Nat} {x : Str} (hN : X.N.Nodup) (hi : X.N[i]? = some x) (hx : Loc X.env.scope x) (hf : X.fn x = true ∨ X.env.scope.names.lookup x = some .local := by first | exact .inl rfl | exact .inr rfl | assumption) : PG X (.Name x pos) (gName i) := by
  intro pins s σ H v u Q I r h
  exact wpAny_assign_Name (store_ok I hN hi hx r (fun s' I' => ⟨_, H, I', h⟩) hf)
noncomputable def gNil : TGs := fun vs σ H Q => vs = [] ∧ Q σ H
noncomputable def gCons (t : TG) (u : TGs) : TGs := fun vs σ H Q => ∃ v r, vs = v :: r ∧ t v σ H fun σ' H' => u r σ' H' Q
theorem pgs_nil : PGs X [] gNil := by
  intro pins s σ H vs us Q I r h
  obtain ⟨e, h⟩ := h
  subst e
  cases r
  exact assignInOrder_nil ⟨σ, H, I, h⟩
theorem pgs_cons {e : Expr} {es : List Expr} {t : TG} {u : TGs} (h1 : PG X e t) (h2 : PGs X es u)
    (hs : (assignEach (e :: es) X.env).map (·.2) = assign e X.env :: (assignEach es X.env).map (·.2) := by rfl) : PGs X (e :: es) (gCons t u) := by
  intro pins s σ H vs us Q I r h
  obtain ⟨v, vr, e1, h⟩ := h
  subst e1
  cases r with
  | cons r rr =>
    rw [hs]
    refine assignInOrder_cons (thn (h1 pins s σ H _ _ _ I r h) fun _ s1 ⟨σ1, H1, I1, q1⟩ => ?_)
    exact h2 pins s1 σ1 H1 _ _ Q I1 rr q1
noncomputable def gTup (K : PySem.W.Frag) (n : Nat) (t : TGs) : TG := fun v σ H Q => ∃ a xs, v = .ref a ∧ SqT K H a xs ∧ xs.length = n ∧ t xs σ H Q
theorem pg_tup {es : List Expr} {k : Nat} {t : TGs} {n : Nat} (hc : X.calm = true) (h : PGs X es t)
    (hn : (assignEach es X.env).length = n := by rfl) (hst : (assignEach es X.env).findIdx? (·.1) = none := by rfl) : PG X (.Tuple es k pos) (gTup X.K n t) := by
  intro pins s σ H v u Q I r hw
  obtain ⟨a, xs, e1, hq, hl, hw⟩ := hw
  subst e1
  cases r
  obtain ⟨its, rv, ht, hz⟩ := I.tuple hq
  refine assign_Tuple_tuple (I.ok.hd hc) ht (by simp [hn, ← hl, rv.length]) hst fun h' hx => ?_
  have I1 : Inv X pins σ H { s with heap := h' } := I.kept (t' := s.toks) fun b o e => hx b o (Nat.ne_of_lt (Heap.lt_size e)) e
  exact h pins _ σ H xs _ Q I1 (by simpa using rv) hw
noncomputable def gSub (to ti : TE) (t : TSet) : TG := fun v σ H Q => to σ H fun o H1 => ti σ H1 fun i H2 => t o i v H2 fun H3 => Q σ H3
noncomputable def tAsg (te : TE) (g : TG) : TS := fun D σ H => te σ H fun x H1 => g x σ H1 D.nx
theorem ps_asg {tg e : Expr} {te : TE} {g : TG} (he : PE X e te) (hg : PG X tg g) (hs : swapsWithSole [tg] e pos.line X.env = pure false := by rfl) (hw : swappedStores [tg] e X.env = pure none := by rfl)
    (h1 : (assignEach [tg] X.env).map (·.2) = [assign tg X.env] := by rfl) : PS X (.Assign [tg] e pos) (tAsg te g) := by
  intro pins s σ H D I h
  refine wpAny_Assign_stores (thn (he pins s σ H _ I h) fun v s1 ⟨x, H1, I1, r1, q1⟩ => ?_) hs hw
  rw [h1]
  exact thn (hg pins s1 σ H1 x v _ I1 r1 q1) fun _ s2 q => q
theorem ps_set {i : Nat} {x : Str} {e : Expr} {te : TE} {pos' : Pos} (hN : X.N.Nodup) (hi : X.N[i]? = some x) (hx : Loc X.env.scope x) (he : PE X e te) (hs : swapsWith e (some (.Name x pos')) pos.line X.env = pure false := by rfl) (hf : X.fn x = true ∨ X.env.scope.names.lookup x = some .local := by first | exact .inl rfl | exact .inr rfl | assumption) :
    PS X (.Assign [.Name x pos'] e pos) (tAsg te (gName i)) := by
  intro pins s σ H D I h
  refine wpAny_Assign_Name (thn (he pins s σ H _ I h) fun v s1 ⟨y, H1, I1, r1, q1⟩ => ?_) hs
  exact store_ok I1 hN hi hx r1 (fun s2 I2 => ⟨_, H1, I2, q1⟩) hf
noncomputable def tPar (i j : Nat) (ta : TA) : TS := fun D σ H => ta σ H fun vs H1 => ∃ v w, vs = [v, w] ∧ D.nx ((σ.set i (some v)).set j (some w)) H1
noncomputable def tAug (i : Nat) (te : TE) (ti : TIp) : TS := fun D σ H => ∃ x, σ[i]? = some (some x) ∧ te σ H fun y H1 => ti x y H1 fun z H2 => D.nx (σ.set i (some z)) H2
noncomputable def tAugS (to ti te : TE) (tget : V → V → Hp → VK → Prop) (tip : TIp) (tset : TSet) : TS := fun D σ H => to σ H fun o H1 => ti σ H1 fun i H2 => tget o i H2 fun x H3 => te σ H3 fun y H4 => tip x y H4 fun z H5 => tset o i z H5 fun H6 => D.nx σ H6
noncomputable def PGet (X : Cx) (t : V → V → Hp → VK → Prop) : Prop :=
  ∀ (pins : List (Addr × Obj)) (s : Shared) (σ : St) (H : Hp) (o i : V) (ov iv : Value) (Q : VK), Inv X pins σ H s → RelV o ov → RelV i iv → t o i H Q →
    wpAny (model X.prog X.w) X.A (getItem ov iv) (EP X pins σ Q) X.xe s
noncomputable def ipI (f : Int → Int → Int) : TIp := fun x y H Q => ∃ i j, x = .int i ∧ y = .int j ∧ Q (.int (f i j)) H
end

/-! ### while -/
section
variable {X : Cx} {pos : Pos}
noncomputable def tWhile (c : TT) (tb : TS) : TS := fun D σ H => ∃ W : Nat → St → Hp → Prop, (∃ m, W m σ H) ∧ ∀ m σ H, W m σ H →
  c σ H fun b H1 => if b = true then ∃ N : St → Hp → Prop, (∀ σ' H', N σ' H' → ∃ m', m' < m ∧ W m' σ' H') ∧ tb { D with nx := N, ct := N, bk := D.nx } σ H1 else D.nx σ H1
theorem ps_while {c : Expr} {body : List Stmt} {tc : TT} {tb : TS} (hp : PassesOwn (model X.prog X.w) X.A X.env X.xe) (hc : PT X c tc) (hb : PSs X body tb) : PS X (.While c body [] pos) (tWhile tc tb) := by
  intro pins s σ H D I h
  obtain ⟨W, ⟨m0, w0⟩, turn⟩ := h
  refine wpAny_While (codeAny_whileLoop (fun n s' => ∃ σ' H', Inv X pins σ' H' s' ∧ W n σ' H') ?_ m0 ⟨σ, H, I, w0⟩)
  rintro n s1 ⟨σ1, H1, I1, w1⟩
  refine wpAny_passesOwn hp (thn (hc pins s1 σ1 H1 _ I1 (turn n σ1 H1 w1)) fun b s2 ⟨H2, I2, q2⟩ => ?_)
  cases b with
  | true =>
    obtain ⟨N, hN, q2⟩ := q2
    rw [if_pos rfl]
    refine wpAny_passesOwn hp (thn (hb pins s2 σ1 H2 _ I2 q2) fun f s3 q3 => ?_)
    cases f with
    | next =>
      obtain ⟨σ3, H3, I3, n3⟩ := q3
      obtain ⟨m', hm, w3⟩ := hN σ3 H3 n3
      exact ⟨m', hm, σ3, H3, I3, w3⟩
    | cont =>
      obtain ⟨σ3, H3, I3, n3⟩ := q3
      obtain ⟨m', hm, w3⟩ := hN σ3 H3 n3
      exact ⟨m', hm, σ3, H3, I3, w3⟩
    | brk => exact q3
    | ret v => exact q3
  | false =>
    rw [if_neg Bool.false_ne_true]
    exact wpAny_execs_nil ⟨σ1, H2, I2, q2⟩
end

/-! ### what a loop or a comprehension walks -/
structure It where
  go : Nat → Hp → Prop
  yld : Nat → Hp → V → Hp → Prop
  stop : Nat → Hp → Prop
noncomputable def FpOk (X : Cx) (pins : List (Addr × Obj)) (H : Hp) (b : Addr) : Prop :=
  H b = none ∧ b ≠ X.env.locals ∧ b ∉ X.fs ∧ (b ∈ X.ex ∨ X.s₀.heap.objs.size ≤ b) ∧ (∀ x c, X.env.cells.lookup x = some c → c ≠ b) ∧ ∀ p ∈ X.pn ++ pins, p.1 ≠ b
theorem Inv.fpOk {X : Cx} {pins : List (Addr × Obj)} {σ : St} {H H' : Hp} {s : Shared} {b : Addr} (I : Inv X pins σ H s) (hb : s.heap.objs.size ≤ b) (hn : H' b = none) : FpOk X pins H' b := by
  refine ⟨hn, Nat.ne_of_gt (Nat.lt_of_lt_of_le I.lt hb), I.nofs hb, .inr (Nat.le_trans I.sz hb), fun x c e z => ?_, fun p hp z => ?_⟩
  · obtain ⟨v, q⟩ := I.cell x c e
    exact absurd (Nat.lt_of_lt_of_le q.lt (by rw [z]; exact hb)) (Nat.lt_irrefl _)
  · exact absurd (Nat.lt_of_lt_of_le (Heap.lt_size (I.pin p hp).1) (by rw [z]; exact hb)) (Nat.lt_irrefl _)
structure Turn (P : Program) (w : World) (K : PySem.W.Frag) (tg : Expr) (J : It) (fp : List Addr) (it : Addr) (tn : Nat → Heap → Prop) : Prop where
  mem : it ∈ fp
  obj : ∀ i h, tn i h → ∀ b ∈ fp, ∃ o, h.get? b = some o ∧ ∀ v, o.data ≠ .cell v
  keep : ∀ i h h', tn i h → (∀ b ∈ fp, ∀ o, h.get? b = some o → h'.get? b = some o) → tn i h'
  item : ∀ (X : Cx), X.prog = P → X.w = w → X.K = K → X.calm = true → ∀ (i : Nat) (pins : List (Addr × Obj)) (s : Shared) (σ : St) (H : Hp) (E : Value → Shared → Prop), Inv X pins σ H s → (∀ b ∈ fp, FpOk X pins H b) → tn i s.heap → J.go i H →
    wpAny (model P w) X.A (pyNext (.ref it)) (fun r s1 => ∃ u, r = some u ∧
      wpAny (model P w) X.A (letOwnedTupleGo tg (.ref it) u) (fun _ s2 => ∃ x H', Inv X pins σ H' s2 ∧ RelV x u ∧ J.yld i H x H' ∧ tn (i + 1) s2.heap ∧ ∀ b ∈ fp, H' b = none) E s1) E s
  done : ∀ (X : Cx), X.prog = P → X.w = w → X.K = K → X.calm = true → ∀ (i : Nat) (pins : List (Addr × Obj)) (s : Shared) (σ : St) (H : Hp) (E : Value → Shared → Prop), Inv X pins σ H s → (∀ b ∈ fp, FpOk X pins H b) → tn i s.heap → J.stop i H →
    wpAny (model P w) X.A (pyNext (.ref it)) (fun r s1 => r = none ∧ Inv X pins σ H s1) E s
  self : ∀ (A : Around) (i : Nat) (s : Shared) (Q : Value → Shared → Prop) (E : Value → Shared → Prop), tn i s.heap → Q (.ref it) s → wpAny (model P w) A (pyIter (.ref it)) Q E s
noncomputable abbrev TI := St → Hp → (It → Hp → Prop) → Prop
noncomputable def PIE (X : Cx) (pins : List (Addr × Obj)) (σ : St) (tg : Expr) (R : It → Hp → Prop) (itv : Value) (s2 : Shared) : Prop :=
  ∃ (it : Addr) (fp : List Addr) (tn : Nat → Heap → Prop) (J : It) (H' : Hp), itv = .ref it ∧ Inv X pins σ H' s2 ∧ Turn X.prog X.w X.K tg J fp it tn ∧ tn 0 s2.heap ∧ (∀ b ∈ fp, FpOk X pins H' b) ∧ R J H'
noncomputable def PI (X : Cx) (tg iter : Expr) (wi : TI) : Prop :=
  ∀ (pins : List (Addr × Obj)) (s : Shared) (σ : St) (H : Hp) (R : It → Hp → Prop), Inv X pins σ H s → wi σ H R →
    wpAny (model X.prog X.w) X.A (eval iter X.env) (fun v s1 => wpAny (model X.prog X.w) X.A (pyIter v) (PIE X pins σ tg R) X.xe s1) X.xe s

theorem go_of {M : Model} {A : Around} {E : Value → Shared → Prop} {s : Shared} {tg : Expr} {it : Addr} {u : Value} {o : Obj} {n : String} {vs : Array Value} {Q : Unit → Shared → Prop} (ho : s.heap.get? it = some o) (hc : o.cls = .type n) (hd : o.data = .fields vs)
    (hn : ["enumerate", "zip", "dict_itemiterator", "dict_reverseitemiterator", "odict_iterator", "itertools.zip_longest", "itertools.pairwise"].contains n = false) (hQ : Q () s) : wpAny M A (letOwnedTupleGo tg (.ref it) u) Q E s := by
  unfold letOwnedTupleGo
  cases tg <;> first
    | exact wpAny_pure hQ
    | (cases u <;> first
        | exact wpAny_pure hQ
        | (refine wpAny_bind (wpAny_load ho ?_)
           rw [hc, hd]
           show wpAny M A (if (["enumerate", "zip", "dict_itemiterator", "dict_reverseitemiterator", "odict_iterator", "itertools.zip_longest", "itertools.pairwise"].contains n && vs[0]? == some (rawInt _)) = true then _ else _) Q E s
           rw [if_neg (by intro h; rw [hn, Bool.false_and] at h; cases h)]
           exact wpAny_pure hQ))

noncomputable def Itl (K : PySem.W.Frag) (a : Addr) : It :=
  ⟨fun i H => ∃ xs x, SqL K H a xs ∧ xs[i]? = some x, fun i H x H' => H' = H ∧ ∀ xs, SqL K H a xs → xs[i]? = some x, fun i H => ∃ xs, SqL K H a xs ∧ xs.length ≤ i⟩
noncomputable def Itt (K : PySem.W.Frag) (a : Addr) : It :=
  ⟨fun i H => ∃ xs x, SqT K H a xs ∧ xs[i]? = some x, fun i H x H' => H' = H ∧ ∀ xs, SqT K H a xs → xs[i]? = some x, fun i H => ∃ xs, SqT K H a xs ∧ xs.length ≤ i⟩
noncomputable def Itr (lo : Int) (n : Nat) : It := ⟨fun i _ => i < n, fun i H x H' => H' = H ∧ x = .int (lo + i), fun i _ => n ≤ i⟩
theorem turn_list {P : Program} {w : World} {K : PySem.W.Frag} {tg : Expr} (a it : Addr) : Turn P w K tg (Itl K a) [it] it (fun i h => h.IsListIter it a i) where
  mem := by simp
  obj := fun i h st b hb => by
    have e : b = it := by simpa using hb
    subst e
    obtain ⟨o, e, c, d⟩ := st
    exact ⟨o, e, fun v z => by rw [d] at z; cases z⟩
  keep := fun i h h' st k => st.at fun o e => k it (by simp) o e
  item := by
    intro X hP hw hK hc i pins s σ H E I hf st hg
    subst hP hw hK
    obtain ⟨xs, x, hq, hx⟩ := hg
    obtain ⟨its, rv, p, hz⟩ := I.list hq
    obtain ⟨u, hu, ru⟩ := rv.get hx
    obtain ⟨f0, f1, f2, f3, f4, f5⟩ := hf it (by simp)
    refine wpAny_pyNext_list_item st p.isList (x := u) (by simpa using hu) fun h' st' sb => ?_
    have I1 : Inv X pins σ H { s with heap := h' } := I.turned (t' := s.toks) (fun b o hb e => (sb.2 b hb).trans e) f0 f1 f3 f4 f5
    obtain ⟨o, e, c, d⟩ := id st'
    exact ⟨u, rfl, go_of (s := { s with heap := h' }) e c d (by decide) ⟨x, H, I1, ru, ⟨rfl, fun ys hy => by rw [I.list_inj hy hq]; exact hx⟩, st', fun b hb => (hf b hb).1⟩⟩
  done := by
    intro X hP hw hK hc i pins s σ H E I hf st hg
    subst hP hw hK
    obtain ⟨xs, hq, hx⟩ := hg
    obtain ⟨its, rv, p, hz⟩ := I.list hq
    obtain ⟨f0, f1, f2, f3, f4, f5⟩ := hf it (by simp)
    have hl := rv.length
    exact wpAny_pyNext_list_end (I.ok.hd hc) st p.isList (by simp; omega) fun h' eb => ⟨rfl, I.turned (t' := s.toks) (fun b o hb e => eb b o hb e) f0 f1 f3 f4 f5⟩
  self := fun _ _ _ _ _ st h => wpAny_pyIter_listiter st h
theorem turn_tuple {P : Program} {w : World} {K : PySem.W.Frag} {tg : Expr} (a it : Addr) : Turn P w K tg (Itt K a) [it] it (fun i h => h.IsTupleIter it a i) where
  mem := by simp
  obj := fun i h st b hb => by
    have e : b = it := by simpa using hb
    subst e
    obtain ⟨o, e, c, d⟩ := st
    exact ⟨o, e, fun v z => by rw [d] at z; cases z⟩
  keep := fun i h h' st k => st.at fun o e => k it (by simp) o e
  item := by
    intro X hP hw hK hc i pins s σ H E I hf st hg
    subst hP hw hK
    obtain ⟨xs, x, hq, hx⟩ := hg
    obtain ⟨its, rv, p, hz⟩ := I.tuple hq
    obtain ⟨u, hu, ru⟩ := rv.get hx
    obtain ⟨f0, f1, f2, f3, f4, f5⟩ := hf it (by simp)
    refine wpAny_pyNext_tuple_item st (show s.heap.IsTuple a its.toArray from p) (x := u) (by simpa using hu) fun h' st' sb => ?_
    have I1 : Inv X pins σ H { s with heap := h' } := I.turned (t' := s.toks) (fun b o hb e => (sb.2 b hb).trans e) f0 f1 f3 f4 f5
    obtain ⟨o, e, c, d⟩ := id st'
    exact ⟨u, rfl, go_of (s := { s with heap := h' }) e c d (by decide) ⟨x, H, I1, ru, ⟨rfl, fun ys hy => by rw [I.tuple_inj hy hq]; exact hx⟩, st', fun b hb => (hf b hb).1⟩⟩
  done := by
    intro X hP hw hK hc i pins s σ H E I hf st hg
    subst hP hw hK
    obtain ⟨xs, hq, hx⟩ := hg
    obtain ⟨its, rv, p, hz⟩ := I.tuple hq
    obtain ⟨f0, f1, f2, f3, f4, f5⟩ := hf it (by simp)
    have hl := rv.length
    exact wpAny_pyNext_tuple_end (I.ok.hd hc) st (show s.heap.IsTuple a its.toArray from p) (by simp; omega) fun h' eb => ⟨rfl, I.turned (t' := s.toks) (fun b o hb e => eb b o hb e) f0 f1 f3 f4 f5⟩
  self := fun _ _ _ _ _ st h => wpAny_pyIter_tupleiter st h
theorem turn_range {P : Program} {w : World} {K : PySem.W.Frag} {tg : Expr} (it : Addr) (lo : Int) (n : Nat) : Turn P w K tg (Itr lo n) [it] it (fun i h => IsRangeIter h it (lo + (i : Nat) * 1) ((n : Int) - (i : Nat)) 1) where
  mem := by simp
  obj := fun i h st b hb => by
    have e : b = it := by simpa using hb
    subst e
    exact ⟨_, st, fun v z => by
      have z' : Data.fields _ = Data.cell v := z
      cases z'⟩
  keep := fun i h h' st k => k it (by simp) _ st
  item := by
    intro X hP hw hK hc i pins s σ H E I hf st hg
    subst hP hw hK
    obtain ⟨f0, f1, f2, f3, f4, f5⟩ := hf it (by simp)
    have W := Walks.range (prog := X.prog) (w := X.w) (I.ok.hd hc) it lo 1 n
    refine W.item i s _ _ hg st fun v h' tk hv st' kk => ?_
    obtain ⟨t, rfl⟩ := hv
    have I1 : Inv X pins σ H { s with heap := h', toks := tk } := I.turned (fun b o hb e => kk b o (by simpa using hb) e) f0 f1 f3 f4 f5
    refine ⟨_, rfl, go_of (s := { s with heap := h', toks := tk }) (n := "range_iterator") st' rfl rfl (by decide) ⟨.int (lo + i), H, I1, ⟨t, ?_⟩, ⟨rfl, rfl⟩, st', fun b hb => (hf b hb).1⟩⟩
    rw [Int.mul_one]
  done := by
    intro X hP hw hK hc i pins s σ H E I hf st hg
    subst hP hw hK
    obtain ⟨f0, f1, f2, f3, f4, f5⟩ := hf it (by simp)
    exact wpAny_pyNext_range_end (I.ok.hd hc) st (by have : n ≤ i := hg; omega) fun h' eb => ⟨rfl, I.turned (t' := s.toks) (fun b o hb e => eb b o hb e) f0 f1 f3 f4 f5⟩
  self := fun _ _ _ _ _ st h => wpAny_pyIter_rangeiter st h
end L2

namespace L2
open PySem PySem.Spec PyProof.Rows
section
variable {X : Cx} {tg : Expr}
noncomputable def iList (K : PySem.W.Frag) (tl : TE) : TI := fun σ H R => tl σ H fun x H1 => ∃ a, x = .ref a ∧ (∃ xs, SqL K H1 a xs) ∧ R (Itl K a) H1
noncomputable def iTup (K : PySem.W.Frag) (tl : TE) : TI := fun σ H R => tl σ H fun x H1 => ∃ a, x = .ref a ∧ (∃ xs, SqT K H1 a xs) ∧ R (Itt K a) H1
theorem range_it {pins : List (Addr × Obj)} {σ : St} {H : Hp} {s : Shared} {R : It → Hp → Prop} {E : Value → Shared → Prop} {lo hi : Int} {t u v : Tok} {tk : Nat} (I : Inv X pins σ H s) (h1 : -(2 ^ 62) ≤ lo) (h2 : lo < 2 ^ 62) (h3 : -(2 ^ 62) ≤ hi) (h4 : hi < 2 ^ 62)
    (q : R (Itr lo (hi - lo).toNat) H) : wpAny (model X.prog X.w) X.A (pyIter (.ref s.heap.objs.size)) (PIE X pins σ tg R) E { s with heap := s.heap.push { cls := .type "range", data := .fields #[.int lo t, .int hi u, .int 1 v] }, toks := tk } := by
  refine wpAny_pyIter_range (IsRange.new ..) (small_one h1 h2 h3 h4) ?_
  have I1 : Inv X pins σ H { s with heap := s.heap.push { cls := .type "range", data := .fields #[.int lo t, .int hi u, .int 1 v] }, toks := tk } := I.kept fun b o e => Heap.get?_push_of_some _ e
  refine ⟨(s.heap.push { cls := .type "range", data := .fields #[.int lo t, .int hi u, .int 1 v] }).objs.size, [(s.heap.push { cls := .type "range", data := .fields #[.int lo t, .int hi u, .int 1 v] }).objs.size], _, _, H, rfl,
    I1.kept (t' := tk) fun b o e => Heap.get?_push_of_some _ e, turn_range _ lo (hi - lo).toNat, ?_, fun b hb => ?_, q⟩
  · have e1 : lo + ((0 : Nat) : Int) * 1 = lo := by simp
    have e2 : (((hi - lo).toNat : Nat) : Int) - ((0 : Nat) : Int) = Builtin.Range.rangeSize lo hi 1 := by rw [rangeSize_one]; split <;> omega
    show IsRangeIter _ _ (lo + ((0 : Nat) : Int) * 1) ((((hi - lo).toNat : Nat) : Int) - ((0 : Nat) : Int)) 1
    rw [e1, e2]
    exact Heap.get?_push_size _ rfl
  · have e : b = (s.heap.push { cls := .type "range", data := .fields #[.int lo t, .int hi u, .int 1 v] }).objs.size := by simpa using hb
    subst e
    exact I1.fpOk (Nat.le_refl _) (I1.hok.fresh (Nat.le_refl _))
noncomputable def iRng1 (ta : TA) : TI := fun σ H R => ta σ H fun vs H1 => ∃ j : Int, vs = [.int j] ∧ -(2 ^ 62) ≤ j ∧ j < 2 ^ 62 ∧ R (Itr 0 j.toNat) H1
noncomputable def iRng2 (ta : TA) : TI := fun σ H R => ta σ H fun vs H1 => ∃ i j : Int, vs = [.int i, .int j] ∧ (-(2 ^ 62) ≤ i ∧ i < 2 ^ 62 ∧ -(2 ^ 62) ≤ j ∧ j < 2 ^ 62) ∧ R (Itr i (j - i).toNat) H1
theorem pi_range1 {a : Expr} {ta : TA} {p pos : Pos} (hg : Gl X "range") (hm : X.mg "range" = none) (ha : PA X [a] ta) (hs : starEach [a] X.env = [(false, eval a X.env)] := by rfl) : PI X tg (.Call (.Name "range" p) [a] [] pos) (iRng1 ta) := by
  intro pins s σ H R I h
  refine Call_ (ld_blt I hg hm boot_range (PyProof.Rows.callWith_type1 (thn (ha pos pins s σ H _ I h) fun us s1 ⟨vs, H1, I1, r1, q1⟩ => ?_) hs rfl))
  obtain ⟨j, e, q1, q2, q⟩ := q1
  subst e
  cases r1 with
  | cons r rr =>
    cases rr
    obtain ⟨t, rfl⟩ := r
    exact call_range_1 (range_it I1 (by omega) (by omega) q1 q2 (by simpa using q))

/-! ### for -/
noncomputable def tFor (wi : TI) (g : TG) (tb : TS) : TS := fun D σ H => wi σ H fun J H1 => ∃ W : Nat → Nat → St → Hp → Prop, (∃ m, W 0 m σ H1) ∧ ∀ i m σ H, W i m σ H →
  (J.stop i H ∧ D.nx σ H) ∨ (J.go i H ∧ ∃ N : St → Hp → Prop, (∀ σ' H', N σ' H' → ∃ m', m' < m ∧ W (i + 1) m' σ' H') ∧ ∀ x H', J.yld i H x H' → g x σ H' fun σ2 H2 => tb { D with nx := N, ct := N, bk := D.nx } σ2 H2)
noncomputable def pinsAt (fp : List Addr) (h : Heap) : List (Addr × Obj) := fp.filterMap fun b => (h.get? b).map fun o => (b, o)
theorem mem_pinsAt {fp : List Addr} {h : Heap} {b : Addr} {o : Obj} (hb : b ∈ fp) (e : h.get? b = some o) : (b, o) ∈ pinsAt fp h := List.mem_filterMap.mpr ⟨b, hb, by rw [e]; rfl⟩
theorem of_pinsAt {fp : List Addr} {h : Heap} {p : Addr × Obj} (hp : p ∈ pinsAt fp h) : p.1 ∈ fp ∧ h.get? p.1 = some p.2 := by
  obtain ⟨b, hb, e⟩ := List.mem_filterMap.mp hp
  cases q : h.get? b with
  | none => rw [q] at e; cases e
  | some o =>
    rw [q] at e
    have e' : (b, o) = p := Option.some.inj e
    subst e'
    exact ⟨hb, q⟩
theorem Inv.pinned {pins : List (Addr × Obj)} {σ : St} {H : Hp} {s : Shared} {fp : List Addr} (I : Inv X pins σ H s) (hf : ∀ b ∈ fp, FpOk X pins H b) (ho : ∀ b ∈ fp, ∃ o, s.heap.get? b = some o ∧ ∀ v, o.data ≠ .cell v) : Inv X (pins ++ pinsAt fp s.heap) σ H s :=
  I.pins_of fun p hp => (List.mem_append.mp hp).elim (fun z => I.pin p (List.mem_append_right _ z)) fun z => by
    obtain ⟨hb, e⟩ := of_pinsAt z
    obtain ⟨f0, f1, f2, _⟩ := hf p.1 hb
    obtain ⟨o, e', d⟩ := ho p.1 hb
    rw [e] at e'; cases e'
    exact ⟨e, f0, f1, f2, d⟩
theorem Inv.unpinned {pins pl : List (Addr × Obj)} {σ : St} {H : Hp} {s : Shared} (I : Inv X (pins ++ pl) σ H s) : Inv X pins σ H s := I.pins_of fun p hp => I.pin p (List.mem_append_right _ (List.mem_append_left _ hp))
theorem ps_for {iter : Expr} {body : List Stmt} {wi : TI} {g : TG} {tb : TS} {pos : Pos} (hp : PassesOwn (model X.prog X.w) X.A X.env X.xe) (hc : X.calm = true) (hi : PI X tg iter wi) (hg : PG X tg g) (hb : PSs X body tb)
    (hs : ∀ x, foldedSetIterable iter X.env x = pure x := by intro _; rfl) : PS X (.For tg iter body [] pos) (tFor wi g tb) := by
  intro pins s σ H D I h
  refine wpAny_For (thn (hi pins s σ H _ I h) fun v s1 h1 => thn h1 fun itv s2 h2 => ?_) hs
  obtain ⟨it, fp, tn, J, H2, e, I2, T, st2, f2, W, ⟨m0, w0⟩, turn⟩ := h2
  subst e
  -- what stays true of the iterator's objects through the loop
  have stat : ∀ {H' : Hp}, (∀ b ∈ fp, H' b = none) → ∀ b ∈ fp, FpOk X pins H' b := fun hn b hb => ⟨hn b hb, (f2 b hb).2⟩
  refine codeAny_forLoop_any (fun n s' => ∃ i σ' H', Inv X pins σ' H' s' ∧ tn i s'.heap ∧ (∀ b ∈ fp, H' b = none) ∧ W i n σ' H') ?_ m0 ⟨0, σ, H2, I2, st2, fun b hb => (f2 b hb).1, w0⟩
  rintro n s3 ⟨i, σ3, H3, I3, st3, fr3, w3⟩
  rcases turn i n σ3 H3 w3 with ⟨stop, qn⟩ | ⟨go, N, hN, step⟩
  · refine wpAny_passesOwn hp (thn (T.done X rfl rfl rfl hc i pins s3 σ3 H3 X.xe I3 (stat fr3) st3 stop) fun r s4 ⟨hr, I4⟩ => ?_)
    subst hr
    exact wpAny_execs_nil ⟨σ3, H3, I4, qn⟩
  · refine wpAny_passesOwn hp (thn (T.item X rfl rfl rfl hc i pins s3 σ3 H3 X.xe I3 (stat fr3) st3 go) fun r s4 ⟨u, hr, h4⟩ => ?_)
    subst hr
    refine wpAny_passesOwn hp (thn h4 fun _ s5 ⟨x, H5, I5, r5, y5, st5, fr5⟩ => ?_)
    have I5' := I5.pinned (stat fr5) (T.obj _ _ st5)
    refine wpAny_passesOwn hp (thn (hg _ s5 σ3 H5 x u _ I5' r5 (step x H5 y5)) fun _ s6 ⟨σ6, H6, I6, q6⟩ => ?_)
    refine wpAny_passesOwn hp (thn (hb _ s6 σ6 H6 _ I6 q6) fun f s7 q7 => ?_)
    have again : ∀ {σ7 : St} {H7 : Hp}, Inv X (pins ++ pinsAt fp s5.heap) σ7 H7 s7 → N σ7 H7 → ∃ m, m < n ∧ ∃ i σ' H', Inv X pins σ' H' s7 ∧ tn i s7.heap ∧ (∀ b ∈ fp, H' b = none) ∧ W i m σ' H' := fun {σ7 H7} I7 n7 => by
      obtain ⟨m', hm, w7⟩ := hN σ7 H7 n7
      refine ⟨m', hm, i + 1, σ7, H7, I7.unpinned, T.keep _ _ _ st5 fun b hb o e => (I7.pin (b, o) (List.mem_append_right _ (List.mem_append_right _ (mem_pinsAt hb e)))).1, fun b hb => ?_, w7⟩
      obtain ⟨o, e, d⟩ := T.obj _ _ st5 b hb
      exact (I7.pin (b, o) (List.mem_append_right _ (List.mem_append_right _ (mem_pinsAt hb e)))).2.1
    cases f with
    | next => obtain ⟨σ7, H7, I7, n7⟩ := q7; exact again I7 n7
    | cont => obtain ⟨σ7, H7, I7, n7⟩ := q7; exact again I7 n7
    | brk => obtain ⟨σ7, H7, I7, q7⟩ := q7; exact ⟨σ7, H7, I7.unpinned, q7⟩
    | ret v => obtain ⟨x7, σ7, H7, I7, r7, q7⟩ := q7; exact ⟨x7, σ7, H7, I7.unpinned, r7, q7⟩
end

/-! ### the forms one uses -/
end L2

namespace L2
open PySem PySem.Spec PyProof.Rows

noncomputable abbrev R2 := V → V → Hp → VK → Prop
noncomputable def OpR (X : Cx) (f : Value → Value → Sem Value) (r : R2) : Prop :=
  ∀ (pins : List (Addr × Obj)) (s : Shared) (σ : St) (H : Hp) (x y : V) (v u : Value) (Q : VK), Inv X pins σ H s → RelV x v → RelV y u → r x y H Q →
    wpAny (model X.prog X.w) X.A (f v u) (EP X pins σ Q) X.xe s
noncomputable def UnR (X : Cx) (f : Value → Sem Value) (r : V → Hp → VK → Prop) : Prop :=
  ∀ (pins : List (Addr × Obj)) (s : Shared) (σ : St) (H : Hp) (x : V) (v : Value) (Q : VK), Inv X pins σ H s → RelV x v → r x H Q →
    wpAny (model X.prog X.w) X.A (f v) (EP X pins σ Q) X.xe s
noncomputable def CallR (X : Cx) (f : Value) (r : List V → Hp → VK → Prop) : Prop :=
  ∀ (pins : List (Addr × Obj)) (s : Shared) (σ : St) (H : Hp) (xs : List V) (us : List Value) (Q : VK), Inv X pins σ H s → Vals xs us → r xs H Q →
    wpAny (model X.prog X.w) X.A (call f us) (EP X pins σ Q) X.xe s
noncomputable def TruR (X : Cx) (r : V → Hp → (Bool → Hp → Prop) → Prop) : Prop :=
  ∀ (pins : List (Addr × Obj)) (s : Shared) (σ : St) (H : Hp) (x : V) (v : Value) (Q : Bool → Hp → Prop), Inv X pins σ H s → RelV x v → r x H Q →
    wpAny (model X.prog X.w) X.A (truthy v) (TP X pins σ Q) X.xe s

noncomputable def tOp (r : R2) (ta tb : TE) : TE := fun σ H Q => ta σ H fun x H1 => tb σ H1 fun y H2 => r x y H2 Q
noncomputable def tUn (r : V → Hp → VK → Prop) (ta : TE) : TE := fun σ H Q => ta σ H fun x H1 => r x H1 Q
noncomputable def rI (C : Int → Int → Prop) (g : Int → Int → V) : R2 := fun x y H Q => ∃ i j, x = .int i ∧ y = .int j ∧ C i j ∧ Q (g i j) H
noncomputable def rI0 (g : Int → Int → V) : R2 := fun x y H Q => ∃ i j, x = .int i ∧ y = .int j ∧ Q (g i j) H
noncomputable def rU (g : Int → V) : V → Hp → VK → Prop := fun x H Q => ∃ i, x = .int i ∧ Q (g i) H

section
variable {X : Cx} {a b c : Expr} {ta tb tc : TE} {pos : Pos}

theorem binT (ha : PE X a ta) (hb : PE X b tb) {pins : List (Addr × Obj)} {s : Shared} {σ : St} {H : Hp} {R : V → V → Hp → Prop} (I : Inv X pins σ H s)
    (h : ta σ H fun x H1 => tb σ H1 fun y H2 => R x y H2) {Q : Value → Shared → Prop} {f : Value → Value → Sem Value}
    (hf : ∀ v u s2 x y H2, Inv X pins σ H2 s2 → RelV x v → RelV y u → R x y H2 → wpAny (model X.prog X.w) X.A (f v u) Q X.xe s2) :
    wpAny (model X.prog X.w) X.A (eval a X.env) (fun v s₁ => wpAny (model X.prog X.w) X.A (eval b X.env) (fun u s₂ => wpAny (model X.prog X.w) X.A (f v u) Q X.xe s₂) X.xe s₁) X.xe s := by
  refine thn (ha pins s σ H _ I h) fun v s1 ⟨x, H1, I1, r1, q1⟩ => ?_
  refine thn (hb pins s1 σ H1 _ I1 q1) fun u s2 ⟨y, H2, I2, r2, q2⟩ => ?_
  exact hf v u s2 x y H2 I2 r1 r2 q2

theorem pe_op {op : Operator} {r : R2} (ho : OpR X (binaryOp op) r) (ha : PE X a ta) (hb : PE X b tb) : PE X (.BinOp a op b pos) (tOp r ta tb) := by
  intro pins s σ H Q I h
  exact wpAny_BinOp (binT ha hb I h fun v u s2 x y H2 I2 rx ry q => ho pins s2 σ H2 x y v u Q I2 rx ry q)
theorem pe_un {op : UnaryOp} {r : V → Hp → VK → Prop} (ho : UnR X (unaryOp op) r) (ha : PE X a ta) : PE X (.UnaryOp op a pos) (tUn r ta) := by
  intro pins s σ H Q I h
  exact UnaryOp_ (thn (ha pins s σ H _ I h) fun v s1 ⟨x, H1, I1, r1, q1⟩ => ho pins s1 σ H1 x v Q I1 r1 q1)

/-! ### ints -/
theorem opI {f : Value → Value → Sem Value} {C : Int → Int → Prop} {g : Int → Int → Int}
    (rule : ∀ (i j : Int) (t u : Tok) (s : Shared) (Q : Value → Shared → Prop) (E : Value → Shared → Prop), C i j → Q (.int (g i j) s.toks) { s with toks := s.toks + 1 } → wpAny (model X.prog X.w) X.A (f (.int i t) (.int j u)) Q E s) :
    OpR X f (rI C fun i j => .int (g i j)) := by
  intro pins s σ H x y v u Q I rx ry h
  obtain ⟨i, j, rfl, rfl, hc, q⟩ := h
  obtain ⟨t, rfl⟩ := rx
  obtain ⟨t', rfl⟩ := ry
  exact rule i j t t' s _ _ hc ⟨.int (g i j), H, I.tok _, ⟨_, rfl⟩, q⟩
theorem opI0 {f : Value → Value → Sem Value} {g : Int → Int → Int}
    (rule : ∀ (i j : Int) (t u : Tok) (s : Shared) (Q : Value → Shared → Prop) (E : Value → Shared → Prop), Q (.int (g i j) s.toks) { s with toks := s.toks + 1 } → wpAny (model X.prog X.w) X.A (f (.int i t) (.int j u)) Q E s) :
    OpR X f (rI0 fun i j => .int (g i j)) := by
  intro pins s σ H x y v u Q I rx ry h
  obtain ⟨i, j, rfl, rfl, q⟩ := h
  obtain ⟨t, rfl⟩ := rx
  obtain ⟨t', rfl⟩ := ry
  exact rule i j t t' s _ _ ⟨.int (g i j), H, I.tok _, ⟨_, rfl⟩, q⟩
theorem opB0 {f : Value → Value → Sem Value} {g : Int → Int → Bool}
    (rule : ∀ (i j : Int) (t u : Tok) (s : Shared) (Q : Value → Shared → Prop) (E : Value → Shared → Prop), Q (.bool (g i j)) s → wpAny (model X.prog X.w) X.A (f (.int i t) (.int j u)) Q E s) :
    OpR X f (rI0 fun i j => .bl (g i j)) := by
  intro pins s σ H x y v u Q I rx ry h
  obtain ⟨i, j, rfl, rfl, q⟩ := h
  obtain ⟨t, rfl⟩ := rx
  obtain ⟨t', rfl⟩ := ry
  exact rule i j t t' s _ _ ⟨.bl (g i j), H, I, rfl, q⟩

noncomputable def CDiv (i j : Int) : Prop := 0 < j ∧ j < 1073741824
noncomputable def CDivN (i j : Int) : Prop := j ≠ 0 ∧ j.natAbs < 1073741824
noncomputable def CPow (i j : Int) : Prop := 0 ≤ j ∧ j ≤ 1000000 ∧ i.natAbs < 2 ^ 64
noncomputable def CMul (i j : Int) : Prop := (-(2 ^ 64) < i ∧ i < 2 ^ 64) ∨ (-(2 ^ 64) < j ∧ j < 2 ^ 64)
theorem CMul.ok {i j : Int} (h : CMul i j) : IntMulOk i j := by
  rcases h with ⟨h1, h2⟩ | ⟨h1, h2⟩
  · exact .of_left (intBits_le_64 h1 h2)
  · exact .of_right (intBits_le_64 h1 h2)

theorem op_add : OpR X (binaryOp .Add) (rI0 fun i j => .int (i + j)) := opI0 fun _ _ _ _ _ _ _ q => add_int q
theorem op_sub : OpR X (binaryOp .Sub) (rI0 fun i j => .int (i - j)) := opI0 fun _ _ _ _ _ _ _ q => sub_int q
theorem op_mul : OpR X (binaryOp .Mult) (rI CMul fun i j => .int (i * j)) := opI fun _ _ _ _ _ _ _ hc q => mul_int q hc.ok
theorem op_fdiv : OpR X (binaryOp .FloorDiv) (rI CDiv fun i j => .int (i / j)) := opI fun i j _ _ _ _ _ hc q => by
  have h1 : (0 : Int) < j := hc.1
  have h2 : j < 1073741824 := hc.2
  exact floordiv_int (by omega) (by rw [Int.fdiv_eq_ediv_of_nonneg i (by omega)]; exact q) (.inl (PyProof.noPylong_small (by omega)))
theorem op_mod : OpR X (binaryOp .Mod) (rI (fun _ j => 0 < j) fun i j => .int (i % j)) := opI fun i j _ _ _ _ _ hc q => by
  have h1 : (0 : Int) < j := hc
  exact mod_int' (by omega) (by rw [Int.fmod_eq_emod_of_nonneg i (by omega)]; exact q)


theorem unI {f : Value → Sem Value} {g : Int → Int}
    (rule : ∀ (i : Int) (t : Tok) (s : Shared) (Q : Value → Shared → Prop) (E : Value → Shared → Prop), Q (.int (g i) s.toks) { s with toks := s.toks + 1 } → wpAny (model X.prog X.w) X.A (f (.int i t)) Q E s) :
    UnR X f (rU fun i => .int (g i)) := by
  intro pins s σ H x v Q I rx h
  obtain ⟨i, rfl, q⟩ := h
  obtain ⟨t, rfl⟩ := rx
  exact rule i t s _ _ ⟨.int (g i), H, I.tok _, ⟨_, rfl⟩, q⟩
theorem un_neg : UnR X (unaryOp .USub) (rU fun i => .int (-i)) := unI fun _ _ _ _ _ q => neg_int q

/-! ### bools among ints: n += (a < b) -/
end

/-! ### comparisons -/
noncomputable def scal : V → V → Bool
  | .non, .non => true | .non, .int _ => true | .int _, .non => true | .non, .bl _ => true | .bl _, .non => true | .non, .str _ => true | .str _, .non => true
  | .int _, .int _ => true | .bl _, .bl _ => true | .str _, .str _ => true | .byt _, .byt _ => true
  | .int _, .str _ => true | .str _, .int _ => true | .bl _, .str _ => true | .str _, .bl _ => true
  | _, _ => false
noncomputable def rEq : R2 := fun x y H Q => scal x y = true ∧ Q (.bl (decide (x = y))) H
noncomputable def rNe : R2 := fun x y H Q => scal x y = true ∧ Q (.bl (!decide (x = y))) H

theorem dec_int {i j : Int} : decide (V.int i = V.int j) = (i == j) := by
  rw [Bool.eq_iff_iff]
  simp
theorem dec_bl {i j : Bool} : decide (V.bl i = V.bl j) = (i == j) := by
  rw [Bool.eq_iff_iff]
  simp
theorem dec_str {i j : Str} : decide (V.str i = V.str j) = (i == j) := by
  rw [Bool.eq_iff_iff]
  simp
theorem dec_byt {i j : Array UInt8} : decide (V.byt i = V.byt j) = (i.toList == j.toList) := by
  rw [Bool.eq_iff_iff]
  cases i
  cases j
  simp

section
variable {X : Cx} {a b c : Expr} {ta tb tc : TE} {pos : Pos}
theorem fin_bl {pins : List (Addr × Obj)} {σ : St} {H : Hp} {s : Shared} {Q : VK} {k k' : Bool} (I : Inv X pins σ H s) (q : Q (.bl k) H) (e : k = k') : EP X pins σ Q (.bool k') s := by
  subst e
  exact ⟨.bl k, H, I, rfl, q⟩
theorem op_eq : OpR X (compareOp .Eq) rEq := by
  intro pins s σ H x y v u Q I rx ry h
  obtain ⟨hs, q⟩ := h
  cases x with
  | non =>
    cases rx
    cases y with
    | non => cases ry; exact PySem.EqNone.eq_none_none (fin_bl I q (by simp))
    | bl j => cases ry; exact PySem.EqNone.eq_none_bool (fin_bl I q (by simp))
    | int j => obtain ⟨t', rfl⟩ := ry; exact PySem.EqNone.eq_none_int (fin_bl I q (by simp))
    | str j => obtain ⟨t', rfl⟩ := ry; exact PySem.EqNone.eq_none_str (fin_bl I q (by simp))
    | _ => exact absurd (show false = true from hs) Bool.false_ne_true
  | bl i =>
    cases rx
    cases y with
    | non => cases ry; exact PySem.EqNone.eq_bool_none (fin_bl I q (by simp))
    | bl j => cases ry; exact eq_bool (fin_bl I q dec_bl)
    | str j => obtain ⟨t', rfl⟩ := ry; exact PySem.EqMixed.eq_bool_str (fin_bl I q (by simp))
    | _ => exact absurd (show false = true from hs) Bool.false_ne_true
  | int i =>
    obtain ⟨t, rfl⟩ := rx
    cases y with
    | non => cases ry; exact PySem.EqNone.eq_int_none (fin_bl I q (by simp))
    | int j => obtain ⟨t', rfl⟩ := ry; exact eq_int (fin_bl I q dec_int)
    | str j => obtain ⟨t', rfl⟩ := ry; exact PySem.EqMixed.eq_int_str (fin_bl I q (by simp))
    | _ => exact absurd (show false = true from hs) Bool.false_ne_true
  | str i =>
    obtain ⟨t, rfl⟩ := rx
    cases y with
    | non => cases ry; exact PySem.EqNone.eq_str_none (fin_bl I q (by simp))
    | bl j => cases ry; exact PySem.EqMixed.eq_str_bool (fin_bl I q (by simp))
    | int j => obtain ⟨t', rfl⟩ := ry; exact PySem.EqMixed.eq_str_int (fin_bl I q (by simp))
    | str j => obtain ⟨t', rfl⟩ := ry; exact eq_str (fin_bl I q dec_str)
    | _ => exact absurd (show false = true from hs) Bool.false_ne_true
  | byt i =>
    obtain ⟨t, rfl⟩ := rx
    cases y with
    | byt j => obtain ⟨t', rfl⟩ := ry; exact PySem.W.eq_bytes (fin_bl I q dec_byt)
    | _ => exact absurd (show false = true from hs) Bool.false_ne_true
  | _ => cases y <;> exact absurd (show false = true from hs) Bool.false_ne_true
theorem op_ne : OpR X (compareOp .NotEq) rNe := by
  intro pins s σ H x y v u Q I rx ry h
  obtain ⟨hs, q⟩ := h
  cases x with
  | non =>
    cases rx
    cases y with
    | non => cases ry; exact PySem.EqNone.ne_none_none (fin_bl I q (by simp))
    | bl j => cases ry; exact PySem.EqNone.ne_none_bool (fin_bl I q (by simp))
    | int j => obtain ⟨t', rfl⟩ := ry; exact PySem.EqNone.ne_none_int (fin_bl I q (by simp))
    | str j => obtain ⟨t', rfl⟩ := ry; exact PySem.EqNone.ne_none_str (fin_bl I q (by simp))
    | _ => exact absurd (show false = true from hs) Bool.false_ne_true
  | bl i =>
    cases rx
    cases y with
    | non => cases ry; exact PySem.EqNone.ne_bool_none (fin_bl I q (by simp))
    | bl j => cases ry; exact ne_bool (fin_bl I q (congrArg not dec_bl))
    | str j => obtain ⟨t', rfl⟩ := ry; exact PySem.EqMixed.ne_bool_str (fin_bl I q (by simp))
    | _ => exact absurd (show false = true from hs) Bool.false_ne_true
  | int i =>
    obtain ⟨t, rfl⟩ := rx
    cases y with
    | non => cases ry; exact PySem.EqNone.ne_int_none (fin_bl I q (by simp))
    | int j => obtain ⟨t', rfl⟩ := ry; exact ne_int (fin_bl I q (congrArg not dec_int))
    | str j => obtain ⟨t', rfl⟩ := ry; exact PySem.EqMixed.ne_int_str (fin_bl I q (by simp))
    | _ => exact absurd (show false = true from hs) Bool.false_ne_true
  | str i =>
    obtain ⟨t, rfl⟩ := rx
    cases y with
    | non => cases ry; exact PySem.EqNone.ne_str_none (fin_bl I q (by simp))
    | bl j => cases ry; exact PySem.EqMixed.ne_str_bool (fin_bl I q (by simp))
    | int j => obtain ⟨t', rfl⟩ := ry; exact PySem.EqMixed.ne_str_int (fin_bl I q (by simp))
    | str j => obtain ⟨t', rfl⟩ := ry; exact ne_str (fin_bl I q (congrArg not dec_str))
    | _ => exact absurd (show false = true from hs) Bool.false_ne_true
  | byt i =>
    obtain ⟨t, rfl⟩ := rx
    cases y with
    | byt j => obtain ⟨t', rfl⟩ := ry; exact PySem.W.ne_bytes (fin_bl I q (congrArg not dec_byt))
    | _ => exact absurd (show false = true from hs) Bool.false_ne_true
  | _ => cases y <;> exact absurd (show false = true from hs) Bool.false_ne_true

theorem op_lt : OpR X (compareOp .Lt) (rI0 fun i j => .bl (decide (i < j))) := opB0 fun _ _ _ _ _ _ _ q => lt_int q
theorem op_gt : OpR X (compareOp .Gt) (rI0 fun i j => .bl (decide (j < i))) := opB0 fun _ _ _ _ _ _ _ q => gt_int q
theorem op_in_str : OpR X (compareOp .In) (fun x y H Q => ∃ i j, x = .str i ∧ y = .str j ∧ Q (.bl (!(Builtin.Str.occurrences j i 0 j.length 1).isEmpty)) H) := by
  intro pins s σ H x y v u Q I rx ry h
  obtain ⟨i, j, rfl, rfl, q⟩ := h
  obtain ⟨t, rfl⟩ := rx
  obtain ⟨t', rfl⟩ := ry
  exact in_str (fin_bl I q rfl)

theorem op_isN : OpR X (compareOp .Is) (fun x y H Q => y = .non ∧ Q (.bl (decide (x = .non))) H) := by
  intro pins s σ H x y v u Q I rx ry h
  obtain ⟨rfl, q⟩ := h
  cases ry
  refine is_none_gen (fin_bl I q ?_)
  cases x <;> first
    | (cases rx; rfl)
    | (obtain ⟨t, rfl⟩ := rx; rfl)
theorem op_notN : OpR X (compareOp .IsNot) (fun x y H Q => y = .non ∧ Q (.bl (!decide (x = .non))) H) := by
  intro pins s σ H x y v u Q I rx ry h
  obtain ⟨rfl, q⟩ := h
  cases ry
  refine isnot_none_gen (fin_bl I q ?_)
  cases x <;> first
    | (cases rx; rfl)
    | (obtain ⟨t, rfl⟩ := rx; rfl)

noncomputable def isObj : HO → Bool
  | .lst _ => true
  | .ins _ _ _ => true
  | _ => false

theorem OpR.or {f : Value → Value → Sem Value} {r r' : R2} (h : OpR X f r) (h' : OpR X f r') : OpR X f (fun x y H Q => r x y H Q ∨ r' x y H Q) := by
  intro pins s σ H x y v u Q I rx ry q
  rcases q with q | q
  · exact h pins s σ H x y v u Q I rx ry q
  · exact h' pins s σ H x y v u Q I rx ry q

theorem nomark (b : Expr) {op : CmpOp} (h : op ≠ .In := by decide) (h2 : op ≠ .NotIn := by decide) : behindInMarks op b = false := by
  have e1 : (op == CmpOp.In) = false := by cases op <;> first | rfl | exact absurd rfl h
  have e2 : (op == CmpOp.NotIn) = false := by cases op <;> first | rfl | exact absurd rfl h2
  cases b <;> simp [behindInMarks, e1, e2]
theorem pe_cmpR {op : CmpOp} {r : R2} (ho : OpR X (compareOp op) r) (ha : PE X a ta) (hb : PE X b tb) (hm : behindInMarks op b = false) : PE X (.Compare a [op] [b] pos) (tOp r ta tb) := by
  intro pins s σ H Q I h
  exact wpAny_Compare1 (binT ha hb I h fun v u s2 x y H2 I2 rx ry q => ho pins s2 σ H2 x y v u Q I2 rx ry q) hm
noncomputable def tTest (t : TE) : TT := fun σ H Q => t σ H fun x H' => ∃ k, x = .bl k ∧ Q k H'
theorem pt_cmpR {op : CmpOp} {r : R2} (ho : OpR X (compareOp op) r) (ha : PE X a ta) (hb : PE X b tb) (hm : behindInMarks op b = false) : PT X (.Compare a [op] [b] pos) (tTest (tOp r ta tb)) := by
  intro pins s σ H Q I h
  refine wpAny_isTrue_Compare1 (thn (ha pins s σ H _ I h) fun v s1 ⟨x, H1, I1, r1, q1⟩ => thn (hb pins s1 σ H1 _ I1 q1) fun u s2 ⟨y, H2, I2, r2, q2⟩ =>
    thn (ho pins s2 σ H2 x y v u _ I2 r1 r2 q2) fun c s3 ⟨z, H3, I3, r3, k, e, q3⟩ => ?_) hm
  subst e
  cases r3
  exact wpAny_truthy_bool ⟨H3, I3, q3⟩
noncomputable def tChain (r r' : R2) (ta tb tc : TE) : TE := fun σ H Q => ta σ H fun x H1 => tb σ H1 fun y H2 => r x y H2 fun z H3 => ∃ k, z = .bl k ∧
  (if k = true then tc σ H3 fun w' H4 => r' y w' H4 Q else Q (.bl false) H3)

/-! ### truth -/
noncomputable def TruV (K : PySem.W.Frag) (x : V) (H : Hp) (k : Bool) : Prop :=
  match x with
  | .non => k = false
  | .bl b => k = b
  | .int i => k = (i != 0)
  | .str y => y.length ≤ sizeLine ∧ k = ((y.length : Int) != 0)
  | .byt y => y.size ≤ sizeLine ∧ k = ((y.size : Int) != 0)
  | .ref p => (∃ xs, SqL K H p xs ∧ k = !xs.isEmpty) ∨ (∃ xs, SqT K H p xs ∧ k = !xs.isEmpty) ∨ ∃ kvs, HK H p kvs ∧ k = !kvs.isEmpty
  | _ => False
theorem line63 : (sizeLine : Nat) < 2 ^ 63 := by rw [sizeLine_eq]; decide

/-! ### strs and bytes -/
theorem op_add_str : OpR X (binaryOp .Add) (fun x y H Q => ∃ i j, x = .str i ∧ y = .str j ∧ i.length + j.length ≤ sizeLine ∧ Q (.str (i ++ j)) H) := by
  intro pins s σ H x y v u Q I rx ry h
  obtain ⟨i, j, rfl, rfl, hz, q⟩ := h
  obtain ⟨t, rfl⟩ := rx
  obtain ⟨t', rfl⟩ := ry
  exact add_str (fun t' tk => ⟨.str (i ++ j), H, I.tok _, ⟨_, rfl⟩, q⟩) hz

noncomputable def PlainIxT (b : Expr) : Prop := ∀ o i, subscripted b false o i = operate [o, i] (getItem o i)

/-! ### scalar builtins, by CallR -/
theorem vals1 {x : V} {us : List Value} (r : Vals [x] us) : ∃ u, us = [u] ∧ RelV x u := by
  cases r with
  | cons r1 r2 => cases r2; exact ⟨_, rfl, r1⟩
theorem vals2 {x y : V} {us : List Value} (r : Vals [x, y] us) : ∃ u w', us = [u, w'] ∧ RelV x u ∧ RelV y w' := by
  cases r with
  | cons r1 r2 =>
    cases r2 with
    | cons r3 r4 => cases r4; exact ⟨_, _, rfl, r1, r3⟩
theorem call_int1 : CallR X (.type "int") (fun xs H Q => (∃ i, xs = [.int i] ∧ Q (.int i) H) ∨ ∃ k, xs = [.bl k] ∧ Q (.int (if k then 1 else 0)) H) := by
  intro pins s σ H xs us Q I r h
  rcases h with ⟨i, rfl, q⟩ | ⟨k, rfl, q⟩
  · obtain ⟨u, rfl, t, rfl⟩ := vals1 r
    exact call_int_int ⟨.int i, H, I, ⟨_, rfl⟩, q⟩
  · obtain ⟨u, rfl, r1⟩ := vals1 r
    cases r1
    exact call_int_bool ⟨.int (if k then 1 else 0), H, I.tok _, ⟨_, rfl⟩, q⟩
noncomputable def LenV (K : PySem.W.Frag) (x : V) (H : Hp) (n : Nat) : Prop :=
  match x with
  | .str y => y.length ≤ sizeLine ∧ n = y.length
  | .byt y => y.size ≤ sizeLine ∧ n = y.size
  | .ref p => (∃ xs, SqL K H p xs ∧ n = xs.length) ∨ ∃ xs, SqT K H p xs ∧ n = xs.length
  | _ => False
end
end L2

namespace L2
open PySem PySem.Spec PyProof.Rows

/-! ### an instance, its attributes a map -/
structure ObjM (h : Heap) (x dx C : Addr) (mA : Str → Option Value) : Prop where
  obj : h.get? x = some (PySem.W.instObj C dx)
  ns : h.Ns1 dx mA
  ne : dx ≠ x



section
variable {prog : Program} {w : World} {A : Around} {E : Value → Shared → Prop} {s : Shared} {K : PySem.W.Frag} {x dx C f : Addr} {mA : Str → Option Value} {name : Str} {v : Value}





end

/-! ### the attributes as a list of pairs -/
noncomputable def putF (f : Str) (v : V) : List (Str × V) → List (Str × V)
  | [] => [(f, v)]
  | (g, x) :: r => if g = f then (g, v) :: r else (g, x) :: putF f v r

theorem RelO.some_of {v : V} {o : Option Value} (r : RelO (some v) o) : ∃ u, o = some u ∧ RelV v u := by
  cases o with
  | none => exact (show False from r).elim
  | some u => exact ⟨u, rfl, r⟩

section
variable {P : Program} {w : World} {H H' : Hp} {h h' : Heap} {a C dx : Addr} {fs fs' : List (Str × V)}
end

/-! ### what of the text a class must have -/
structure Cls (K : PySem.W.Frag) (C : Addr) : Prop where
  pg : PySem.W.plainGet K C Str.empty = true
  hd : PySem.W.hasDictIn K C = true
  po : PySem.W.plainOver K C = true
  sa : PySem.W.findIn K (.ref C) "__setattr__" = some (some (.builtin "object.__setattr__"))
noncomputable def NoAttr (K : PySem.W.Frag) (C : Addr) (f : Str) : Prop := PySem.W.findIn K (.ref C) f = some none
structure Con (K : PySem.W.Frag) (C : Addr) (f : Str) (v : V) (u : Value) : Prop where
  at_ : PySem.W.findIn K (.ref C) f = some (some u)
  rel : RelV v u
  get : PySem.W.specialIn K u "__get__" = some none
  cp : PySem.W.copiedNames.contains f = false
structure Meth (K : PySem.W.Frag) (C : Addr) (m : Str) (f : Addr) : Prop where
  at_ : PySem.W.findIn K (.ref C) m = some (some (.ref f))
  fn : PySem.W.isFn K (.ref f) = true
  kp : PySem.W.keepIn K (.ref f) = true

section
variable {X : Cx} {pins : List (Addr × Obj)} {σ : St} {H : Hp} {s : Shared} {a C dx : Addr} {fs : List (Str × V)} {f : Str} {v : V} {A : Around} {E : Value → Shared → Prop}






end

/-! ### readings and rules -/
noncomputable def tFld (K : PySem.W.Frag) (ta : TE) (f : Str) : TE := fun σ H Q => ta σ H fun x H1 => ∃ a C dx fs v, x = .ref a ∧ H1 a = some (.ins C dx fs) ∧ Cls K C ∧ NoAttr K C f ∧ fs.lookup f = some v ∧ Q v H1
noncomputable def tCon (K : PySem.W.Frag) (ta : TE) (f : Str) : TE := fun σ H Q => ta σ H fun x H1 => ∃ a C dx fs v u, x = .ref a ∧ H1 a = some (.ins C dx fs) ∧ Cls K C ∧ Con K C f v u ∧ fs.lookup f = none ∧ Q v H1
noncomputable def sFld (K : PySem.W.Frag) (ta tv : TE) (f : Str) : TS := fun D σ H => tv σ H fun y H1 => ta σ H1 fun x H2 => ∃ a C dx fs, x = .ref a ∧ H2 a = some (.ins C dx fs) ∧ Cls K C ∧ NoAttr K C f ∧ fs.length < 1000 ∧
  D.nx σ (upd H2 a (.ins C dx (putF f y fs)))
noncomputable def InOp (X : Cx) (op : Operator) (rd : V → V → Hp → VK → Prop) : Prop :=
  ∀ (pins : List (Addr × Obj)) (s : Shared) (σ : St) (H : Hp) (x y : V) (u v : Value) (Q : VK), Inv X pins σ H s → RelV x u → RelV y v → rd x y H Q → wpAny (model X.prog X.w) X.A (inplaceOp op u v) (EP X pins σ Q) X.xe s
noncomputable def sFldAug (K : PySem.W.Frag) (ta tv : TE) (rd : V → V → Hp → VK → Prop) (f : Str) : TS := fun D σ H => ta σ H fun x H1 => ∃ a C dx fs v, x = .ref a ∧ H1 a = some (.ins C dx fs) ∧ Cls K C ∧ NoAttr K C f ∧ fs.lookup f = some v ∧
  tv σ H1 fun y H2 => rd v y H2 fun z H3 => ∃ dx' fs', H3 a = some (.ins C dx' fs') ∧ fs'.length < 1000 ∧ D.nx σ (upd H3 a (.ins C dx' (putF f z fs')))

section
variable {X : Cx} {o e value : Expr} {f : Str} {pos pos' tpos : Pos} {ta tv : TE}
noncomputable def rAdd : V → V → Hp → VK → Prop := fun x y H Q => ∃ i j, x = .int i ∧ y = .int j ∧ Q (.int (i + j)) H
noncomputable def rSub : V → V → Hp → VK → Prop := fun x y H Q => ∃ i j, x = .int i ∧ y = .int j ∧ Q (.int (i - j)) H

end

/-! ### isinstance -/
section
variable {X : Cx} {pins : List (Addr × Obj)} {σ : St} {H : Hp} {s : Shared} {A : Around} {E : Value → Shared → Prop} {Q : Value → Shared → Prop} {c : Value} {b : Bool}
inductive TyOf (K : PySem.W.Frag) (H : Hp) : V → Value → Prop where
  | non : TyOf K H .non (.type "NoneType")
  | bl (x : Bool) : TyOf K H (.bl x) (.type "bool")
  | int (i : Int) : TyOf K H (.int i) (.type "int")
  | str (x : Str) : TyOf K H (.str x) (.type "str")
  | flt (x : UInt64) : TyOf K H (.flt x) (.type "float")
  | lst {a : Addr} {xs : List V} (e : H a = some (.lst xs)) : TyOf K H (.ref a) (.type "list")
  | frz {a : Addr} {o : Obj} {xs : List V} (e : H a = some (.frz o (.lst xs))) : TyOf K H (.ref a) (.type "list")
  | tup {a : Addr} {xs : List V} (e : H a = some (.tup xs)) : TyOf K H (.ref a) (.type "tuple")
  | dK {a : Addr} {kvs : List (Key × V)} {ep : Nat} (e : H a = some (.dK kvs ep)) : TyOf K H (.ref a) (.type "dict")
  | dT {a : Addr} {kvs : List (List Key × V)} {ep : Nat} {bs : List Addr} (e : H a = some (.dT kvs ep bs)) : TyOf K H (.ref a) (.type "dict")
  | ins {a C dx : Addr} {fs : List (Str × V)} (e : H a = some (.ins C dx fs)) (cl : Cls K C) (ha : PySem.W.findIn K (.ref C) "__class__" = some (some (.builtin "object.__class__")))
      (hn : PySem.W.specialIn K (.builtin "object.__class__") "__get__" = some (some (.builtin "getset_descriptor.__get__"))) (htk : PySem.W.takesIn K (.builtin "object.__class__") = some true)
      (hm : PySem.W.mroIn K C (.type "object") = some true) : TyOf K H (.ref a) (.ref C)
end
end L2

namespace L2
open PySem PySem.Spec PyProof.Rows

/-! ### room -/
structure Room (k : Nat) (A : Around) : Prop where
  hd : A.handled = none
  dp : A.depth + 3 * k + 5 < recursionLimit
  un : A.units + 16 * k + 200 < cLine
theorem Room.mono {j k : Nat} {A : Around} (r : Room k A) (h : j ≤ k) : Room j A := ⟨r.hd, by have := r.dp; omega, by have := r.un; omega⟩
theorem Room.deeper {k : Nat} {A : Around} (r : Room (k + 1) A) (env : Env) : Room k (A.deeper env) :=
  ⟨r.hd, by have := r.dp; show A.depth + 1 + 3 * k + 5 < _; omega, by have := r.un; show A.units + 3 + 16 * k + 200 < _; omega⟩
theorem Room.depth {k : Nat} {A : Around} (r : Room k A) : A.depth < recursionLimit := by have := r.dp; omega
theorem Room.units {k : Nat} {A : Around} (r : Room k A) : A.units + 64 < cLine := by have := r.un; omega

/-! ### argument lists and displays -/
noncomputable def tNil : TA := fun _ H Q => Q [] H
noncomputable def tCons (ta : TE) (tr : TA) : TA := fun σ H Q => ta σ H fun x H1 => tr σ H1 fun xs H2 => Q (x :: xs) H2
section
variable {X : Cx} {e : Expr} {es : List Expr} {te : TE} {t : TA} {pos : Pos}
theorem pa_nil : PA X [] tNil := fun _ _ _ _ H Q I h => Calls.spliced_nil ⟨[], H, I, .nil, h⟩
theorem pa_cons (ha : PE X e te) (hr : PA X es t) (hs : starEach (e :: es) X.env = (false, eval e X.env) :: starEach es X.env := by rfl) : PA X (e :: es) (tCons te t) := by
  intro pos pins s σ H Q I h
  rw [hs]
  show wpAny _ _ (spliced ((false, eval e X.env) :: backTo pos (starEach es X.env))) _ _ s
  refine Calls.spliced_cons (thn (ha pins s σ H _ I h) fun u s1 ⟨x, H1, I1, r1, q1⟩ => ?_)
  exact thn (hr pos pins s1 σ H1 _ I1 q1) fun us s2 ⟨xs, H2, I2, r2, q2⟩ => ⟨x :: xs, H2, I2, .cons r1 r2, q2⟩

noncomputable def tTup (t : TA) : TE := fun σ H Q => t σ H fun xs H1 => xs.length ≤ sizeLine ∧ ∀ p, H1 p = none → Q (.ref p) (upd H1 p (.tup xs))
noncomputable def tLst (t : TA) : TE := fun σ H Q => t σ H fun xs H1 => xs.length ≤ sizeLine ∧ ∀ p, H1 p = none → Q (.ref p) (upd H1 p (.lst xs))
theorem pe_tup {x1} (h : PA X es t) : PE X (.Tuple es x1 pos) (tTup t) := by
  intro pins s σ H Q I hq
  refine wpAny_Tuple_spliced (thn (h pos pins s σ H _ I hq) fun us s1 ⟨xs, H1, I1, r, z, q⟩ => ⟨by rw [← r.length]; exact z, ?_⟩)
  have hf : H1 s1.heap.objs.size = none := I1.hok.fresh (Nat.le_refl _)
  refine ⟨.ref s1.heap.objs.size, upd H1 s1.heap.objs.size (.tup xs), I1.laid (t' := s1.toks) (fun b u e => Heap.get?_push_of_some _ e) (Nat.le_refl _) ?_, rfl, q _ hf⟩
  exact ⟨z, us, r, ⟨_, Heap.get?_push_size _ rfl, rfl, _, rfl⟩⟩
theorem pe_lst (h : PA X es t) : PE X (.List es pos) (tLst t) := by
  intro pins s σ H Q I hq
  refine wpAny_List_spliced (thn (h pos pins s σ H _ I hq) fun us s1 ⟨xs, H1, I1, r, z, q⟩ => ⟨by rw [← r.length]; exact z, ?_⟩)
  have hf : H1 s1.heap.objs.size = none := I1.hok.fresh (Nat.le_refl _)
  refine ⟨.ref s1.heap.objs.size, upd H1 s1.heap.objs.size (.lst xs), I1.laid (t' := s1.toks) (fun b u e => Heap.get?_push_of_some _ e) (Nat.le_refl _) ?_, rfl, q _ hf⟩
  exact ⟨z, us, 0, r, Heap.get?_push_size _ rfl⟩
end

/-! ### what a def promises -/
noncomputable abbrev Sp := List V → Hp → VK → XK → Prop
noncomputable abbrev CXT := List Env → Hp → Shared → XK → Value → Shared → Prop

structure Env0 (P : Program) (w : World) (K : PySem.W.Frag) (mg : Str → Option Value) (base : Heap) (A : Around) (outer : List Env) (s : Shared) (H : Hp) : Prop where
  frames : A.frames = some outer
  mod : Mod K mg base
  bs : ∀ b o, base.get? b = some o → s.heap.get? b = some o ∧ H b = none
  bsz : base.objs.size ≤ s.heap.objs.size
  funs : s.heap.FunFrames base outer
  frf : ∀ b ∈ frs outer, H b = none
  hok : HOk P w H s.heap
  bare : AllBare s.gens
noncomputable def CE (outer : List Env) (P : Program) (w : World) (H : Hp) (s : Shared) (Q : VK) (u : Value) (s' : Shared) : Prop :=
  ∃ v H', s'.os = s.os ∧ AllBare s'.gens ∧ Un (frs outer) [] H H' s.heap s'.heap ∧ HOk P w H' s'.heap ∧ RelV v u ∧ Q v H'
noncomputable def CR (CX : CXT) (outer : List Env) (P : Program) (w : World) (H : Hp) (s : Shared) (Q : VK) (E : XK) (r : Result) (s' : Shared) : Prop :=
  match r with
  | .ok (.ret u) => CE outer P w H s Q u s'
  | .ok _ => False
  | .error e => CX outer H s E e s'
structure FnOk (P : Program) (w : World) (K : PySem.W.Frag) (mg : Str → Option Value) (base : Heap) (CX : CXT) (k : Nat) (f : Addr) (fd : FuncData) (ps : List Str) (sp : Sp) : Prop where
  len : ∀ vs H Q E, sp vs H Q E → vs.length = ps.length
  run : ∀ (A : Around) (outer : List Env) (s : Shared) (H : Hp) (args : Args) (us : List Value) (vs : List V) (Q : VK) (E : XK), Room k A → Env0 P w K mg base A outer s H → BindsTo s fd args (ps.zip us) → Vals vs us → sp vs H Q E →
    codeAny (model P w) A (.call (.ref f) args) (CR CX outer P w H s Q E) s


section
variable {X : Cx} {pins : List (Addr × Obj)} {σ : St} {H : Hp} {s s' : Shared}
theorem Inv.env0 (I : Inv X pins σ H s) : Env0 X.prog X.w X.K X.mg X.base X.A X.stack s H :=
  ⟨I.ok.frames, I.ok.mod, I.bs, Nat.le_trans I.ok.bsz I.sz, I.stack, I.stkFree, I.hok, I.bare⟩
theorem Inv.after {Q : VK} {u : Value} (I : Inv X pins σ H s) (h : CE X.stack X.prog X.w H s Q u s') : EP X pins σ Q u s' := by
  obtain ⟨v, H', os, bare, un, hok, r, q⟩ := h
  obtain ⟨hh, g, d, t, os'⟩ := s'
  obtain rfl : os' = s.os := os
  exact ⟨v, H', I.call (h' := hh) (g' := g) (d' := d) (t' := t) (ch := []) un hok bare (fun b z => absurd z (by simp)), r, q⟩
end

/-! ### calls -/
noncomputable def tCall (sp : Sp) (dvs : List V) (E : XK) (t : TA) : TE := fun σ H Q => t σ H fun vs H1 => sp (vs ++ dvs) H1 Q E
noncomputable def tMeth (C : Addr) (m : Str) (sp : Sp) (dvs : List V) (E : XK) (ta : TE) (t : TA) : TE := fun σ H Q => ta σ H fun x H1 => ∃ a dx fs, x = .ref a ∧ H1 a = some (.ins C dx fs) ∧ fs.lookup m = none ∧
  t σ H1 fun vs H2 => sp (x :: (vs ++ dvs)) H2 Q E
noncomputable def tMake (C : Addr) (sp : Sp) (dvs : List V) (E : XK) (t : TA) : TE := fun σ H Q => t σ H fun vs H1 => ∀ x dx, H1 x = none → H1 dx = none → dx ≠ x →
  sp (.ref x :: (vs ++ dvs)) (upd (upd H1 dx (.own x)) x (.ins C dx [])) (fun v H2 => v = .non ∧ Q (.ref x) H2) E

noncomputable def Binds (K : PySem.W.Frag) (fd : FuncData) (ps : List Str) (ds : List Value) : Prop :=
  ∀ (s : Shared) (us : List Value), K.In s.heap → (us ++ ds).length = ps.length → BindsTo s fd ⟨us, []⟩ (ps.zip (us ++ ds))
theorem Binds.all {K : PySem.W.Frag} {fd : FuncData} {ps : List Str} (h : ∀ us : List Value, us.length = ps.length → bindArgs fd ⟨us, []⟩ = pure (ps.zip us)) : Binds K fd ps [] := fun s us _ hl => by
  rw [List.append_nil] at hl ⊢
  exact .of_eq (h us hl)

noncomputable def Passes (CX : CXT) (X : Cx) (E : XK) : Prop := ∀ (pins : List (Addr × Obj)) (σ : St) (H : Hp) (s : Shared) (e : Value) (s' : Shared), Inv X pins σ H s → CX X.stack H s E e s' → X.xe e s'

section
variable {X : Cx} {CX : CXT} {k : Nat} {f C : Addr} {fd : FuncData} {ps : List Str} {sp : Sp} {dvs : List V} {ds : List Value} {E : XK} {x m : Str} {p pos apos : Pos} {e o : Expr} {es : List Expr} {ta : TE} {t : TA}

theorem run_fn {pins : List (Addr × Obj)} {σ : St} {H : Hp} {s : Shared} {Q : VK} {us : List Value} {vs : List V} (F : FnOk X.prog X.w X.K X.mg X.base CX k f fd ps sp) (hr : Room k X.A) (hb : Binds X.K fd ps ds) (hd : Vals dvs ds) (hx : Passes CX X E)
    (I : Inv X pins σ H s) (r : Vals vs us) (h : sp (vs ++ dvs) H Q E) : wpAny (model X.prog X.w) X.A (call (.ref f) us) (EP X pins σ Q) X.xe s := by
  have r2 : Vals (vs ++ dvs) (us ++ ds) := r.append hd
  have hl : (us ++ ds).length = ps.length := by rw [← r2.length]; exact F.len _ _ _ _ h
  refine wpAny_call (codeAny_mono (F.run X.A X.stack s H ⟨us, []⟩ (us ++ ds) (vs ++ dvs) Q E hr I.env0 (hb s us I.kIn hl) r2 h) fun r s' hq => ?_)
  cases r with
  | error e => exact hx pins σ H s e s' I hq
  | ok fl =>
    cases fl with
    | ret u => exact I.after hq
    | next => exact False.elim hq
    | brk => exact False.elim hq
    | cont => exact False.elim hq

theorem pe_call (F : FnOk X.prog X.w X.K X.mg X.base CX k f fd ps sp) (hr : Room k X.A) (hg : Gl X x) (hm : X.mg x = some (.ref f)) (hk : PySem.W.keepIn X.K (.ref f) = true) (hb : Binds X.K fd ps ds) (hd : Vals dvs ds) (hx : Passes CX X E)
    (ha : PA X (e :: es) t) (hdb : (x == ("__debug__" : Str)) = false := by decide) (he : starEach (e :: es) X.env = (false, eval e X.env) :: starEach es X.env := by rfl) (hpl : (backTo pos (starEach es X.env)).any (·.1) = false := by rfl) :
    PE X (.Call (.Name x p) (e :: es) [] pos) (tCall sp dvs E t) := by
  intro pins s σ H Q I h
  refine wpAny_Call_Name_kw (ld_glob I hg hm ?_ hdb)
  refine PySem.W.callWith_K (h₀ := X.base) I.ok.mod.kin hk (thn (ha pos pins s σ H _ I h) fun us s1 ⟨vs, H1, I1, r, q⟩ => ⟨I1.kIn, ?_⟩) he hpl
  exact run_fn F hr hb hd hx I1 r q


structure Mk (K : PySem.W.Frag) (C f : Addr) : Prop where
  makes : PySem.W.makesIn K C = true
  init : PySem.W.findIn K (.ref C) "__init__" = some (some (.ref f))
  fn : PySem.W.isFn K (.ref f) = true
  kp : PySem.W.keepIn K (.ref C) = true

end

/-! ### keywords -/
noncomputable def PK (X : Cx) (kws : List Keyword) (t : TA) : Prop :=
  ∀ (pos : Pos) (pins : List (Addr × Obj)) (s : Shared) (σ : St) (H : Hp) (Q : List V → Hp → Prop), Inv X pins σ H s → t σ H Q → wpAny (model X.prog X.w) X.A (evalAll ((backToKw pos (keywordEach kws X.env)).map (·.2))) (AP X pins σ Q) X.xe s
section
variable {X : Cx} {CX : CXT} {k : Nat} {f C : Addr} {fd : FuncData} {ps ks : List Str} {sp : Sp} {E : XK} {x m : Str} {p pos apos kpos : Pos} {e o : Expr} {es : List Expr} {kws : List Keyword} {te ta : TE} {t tk : TA} {nm : Option Str}

structure KBinds (K : PySem.W.Frag) (fd : FuncData) (ps ks : List Str) (g : List Value → List Value → List Value) (gV : List V → List V → List V) : Prop where
  to : ∀ (s : Shared) (us ws : List Value), K.In s.heap → (g us ws).length = ps.length → BindsTo s fd ⟨us, ks.zip ws⟩ (ps.zip (g us ws))
  rel : ∀ {vs : List V} {us : List Value} {zs : List V} {ws : List Value}, Vals vs us → Vals zs ws → Vals (gV vs zs) (g us ws)
noncomputable def tCallK (sp : Sp) (gV : List V → List V → List V) (E : XK) (t tk : TA) : TE := fun σ H Q => t σ H fun vs H1 => tk σ H1 fun zs H2 => sp (gV vs zs) H2 Q E
variable {g : List Value → List Value → List Value} {gV : List V → List V → List V}
end

/-! ### a def's body keeps its promise -/
structure FnScope (N P : List Str) (sc : Scope) : Prop where
  kind : sc.kind = .function
  co : sc.isCoroutine = false
  gen : sc.isGenerator = false
  nd : N.Nodup
  pre : N.take P.length = P
  par : ∀ x ∈ P, sc.names.lookup x = some .local ∨ sc.names.lookup x = some .cell
  nofree : ∀ y ∈ sc.names, y.2 ≠ .free

theorem bindL_out {kindOf : Str → Option NameKind} {x : Str} : ∀ {binds : List (Str × Value)} {m : Str → Option Value}, (∀ v, (x, v) ∉ binds) → bindL kindOf binds m x = m x
  | [], _, _ => rfl
  | (n, v) :: r, m, h => by
    unfold bindL
    rw [bindL_out fun w hw => h w (List.mem_cons_of_mem _ hw)]
    split
    · have : x ≠ n := by rintro rfl; exact h v List.mem_cons_self
      simp [this]
    · rfl
theorem bindC_out {kindOf : Str → Option NameKind} {x : Str} : ∀ {binds : List (Str × Value)} {m : Str → Option Value}, (∀ v, (x, v) ∉ binds) → bindC kindOf binds m x = m x
  | [], _, _ => rfl
  | (n, v) :: r, m, h => by
    unfold bindC
    rw [bindC_out fun w hw => h w (List.mem_cons_of_mem _ hw)]
    split
    · rfl
    · have : x ≠ n := by rintro rfl; exact h v List.mem_cons_self
      simp [this]
theorem bindL_get {kindOf : Str → Option NameKind} {x : Str} {v : Value} : ∀ {P : List Str} {vs : List Value} {i : Nat} {m : Str → Option Value}, P.Nodup → P[i]? = some x → vs[i]? = some v → kindOf x = some .local →
    bindL kindOf (P.zip vs) m x = some v
  | [], _, _, _, _, h, _, _ => by simp at h
  | _ :: _, [], _, _, _, _, h, _ => by simp at h
  | p :: P, w :: vs, 0, m, nd, h1, h2, hk => by
    simp at h1 h2; subst h1; subst h2
    show bindL kindOf ((p, w) :: P.zip vs) m p = _
    unfold bindL
    rw [bindL_out fun v hv => (List.nodup_cons.mp nd).1 (List.of_mem_zip hv).1, if_pos hk]
    simp
  | p :: P, w :: vs, i + 1, m, nd, h1, h2, hk => by
    show bindL kindOf ((p, w) :: P.zip vs) m x = _
    unfold bindL
    exact bindL_get (i := i) (List.nodup_cons.mp nd).2 (by simpa using h1) (by simpa using h2) hk
theorem bindC_get {kindOf : Str → Option NameKind} {x : Str} {v : Value} : ∀ {P : List Str} {vs : List Value} {i : Nat} {m : Str → Option Value}, P.Nodup → P[i]? = some x → vs[i]? = some v → kindOf x ≠ some .local →
    bindC kindOf (P.zip vs) m x = some v
  | [], _, _, _, _, h, _, _ => by simp at h
  | _ :: _, [], _, _, _, _, h, _ => by simp at h
  | p :: P, w :: vs, 0, m, nd, h1, h2, hk => by
    simp at h1 h2; subst h1; subst h2
    show bindC kindOf ((p, w) :: P.zip vs) m p = _
    unfold bindC
    rw [bindC_out fun v hv => (List.nodup_cons.mp nd).1 (List.of_mem_zip hv).1, if_neg hk]
    simp
  | p :: P, w :: vs, i + 1, m, nd, h1, h2, hk => by
    show bindC kindOf ((p, w) :: P.zip vs) m x = _
    unfold bindC
    exact bindC_get (i := i) (List.nodup_cons.mp nd).2 (by simpa using h1) (by simpa using h2) hk

noncomputable def start (N : List Str) (vs : List V) : St := vs.map some ++ List.replicate (N.length - vs.length) none

noncomputable def cxOf (CX : CXT) (P : Program) (w : World) (K : PySem.W.Frag) (mg : Str → Option Value) (base : Heap) (N : List Str) (qual : Str) (scope : Scope) (f : Addr) (cd : Value) (A : Around) (outer : List Env) (s : Shared) (H : Hp) (E : XK) : Cx where
  prog := P
  w := w
  K := K
  mg := mg
  base := base
  A := A.deeper (envOfC qual scope s.heap.objs.size f cd)
  N := N
  s₀ := s
  H₀ := H
  env := envOfC qual scope s.heap.objs.size f cd
  outer := outer
  stack := envOfC qual scope s.heap.objs.size f cd :: outer
  ex := []
  calm := true
  fn := fun _ => true
  pn := []
  xe := fun e s' => wpAny (model P w) (A.deeper (envOfC qual scope s.heap.objs.size f cd)) (leaving (envOfC qual scope s.heap.objs.size f cd) e) (fun _ s'' => CX outer H s E e s'') (fun e' s'' => CX outer H s E e' s'') s'

theorem cell_has {sc : Scope} {n : Nat} {x : Str} (h : sc.names.lookup x = some .cell) : ∃ c, (cellsFrom n sc.names []).lookup x = some c := by
  have q := PySem.W.cellsFrom_some sc.names n [] (.inl h)
  exact Option.isSome_iff_exists.mp q

theorem inv_start {CX : CXT} {P : Program} {w : World} {K : PySem.W.Frag} {mg : Str → Option Value} {base : Heap} {N ps : List Str} {qual : Str} {scope : Scope} {f : Addr} {cd : Value} {A : Around} {outer : List Env} {s s1 : Shared} {H : Hp} {E : XK} {us : List Value} {vs : List V}
    (S : FnScope N ps scope) (hd : A.handled = none) (e0 : Env0 P w K mg base A outer s H) (hl : vs.length = ps.length) (r : Vals vs us)
    (x : InCallC s s.heap.objs.size (bindL (envOfC qual scope s.heap.objs.size f cd).kindOf (ps.zip us) fun _ => none) (cellsFrom (s.heap.objs.size + 1) scope.names []) (bindC (envOfC qual scope s.heap.objs.size f cd).kindOf (ps.zip us) fun _ => none) s1) :
    Inv (cxOf CX P w K mg base N qual scope f cd A outer s H E) [] (start N vs) H s1 := by
  have hpl : ps.length ≤ N.length := by have := congrArg List.length S.pre; rw [List.length_take] at this; omega
  obtain ⟨h1, tk, rfl, hk⟩ := x.done
  have noA : ∀ b : Addr, b ∉ (cxOf CX P w K mg base N qual scope f cd A outer s H E).ex := fun b z => absurd (show b ∈ ([] : List Addr) from z) (by simp)
  refine ⟨⟨e0.mod, S.kind, rfl, rfl, Nat.le_refl _, fun y z c h1 h2 => ?_, fun y hy => ?_, fun y c _ h => ?_, fun _ => hd, Around.frames_deeper e0.frames, .inr ⟨rfl, rfl⟩, fun b z => absurd z (noA b), e0.bs, e0.bsz, fun b _ _ => noA b, fun b z => absurd z (noA b), e0.funs, e0.frf⟩,
    rfl, e0.bare, Un.kept hk, ⟨_, x.toInCall.ns, fun i y v h1 h2 h3 => ?_⟩, fun y c h => ⟨_, x.cell y c h⟩, e0.hok.fresh (Nat.le_refl _), fun y c h => ?_, fun p hp => absurd (show p ∈ ([] : List (Addr × Obj)) from hp) (by simp), e0.hok.kept hk, ?_⟩
  · exact name_of_addr x.apart (PySem.mem_of_lookup h1) (PySem.mem_of_lookup h2)
  · have hy : scope.names.lookup y = some .cell ∨ scope.names.lookup y = some .free := hy
    rcases hy with hy | hy
    · exact cell_has hy
    · exact absurd rfl (S.nofree _ (PySem.mem_of_lookup hy))
  · exact Nat.le_of_lt (x.above y c (PySem.mem_of_lookup h))
  · have hi : i < vs.length := by
      unfold start at h2
      by_cases hi : i < vs.length
      · exact hi
      · rw [List.getElem?_append_right (by simpa using hi)] at h2
        rw [List.getElem?_replicate] at h2
        split at h2 <;> cases h2
    have ha : vs[i]? = some v := by
      unfold start at h2
      rw [List.getElem?_append_left (by simpa using hi), List.getElem?_map] at h2
      cases e : vs[i]? with
      | none => rw [e] at h2; cases h2
      | some a => rw [e] at h2; cases h2; rfl
    obtain ⟨u, hu, rv⟩ := r.get ha
    have hp : ps[i]? = some y := by
      rw [← S.pre, List.getElem?_take_of_lt (by omega)]; exact h1
    have ndP : ps.Nodup := by rw [← S.pre]; exact S.nd.sublist (List.take_sublist _ _)
    refine ⟨u, rv, ?_⟩
    rcases S.par y (List.mem_of_getElem? hp) with k | k
    · exact .inl ⟨k, bindL_get ndP hp hu k⟩
    · obtain ⟨c, e⟩ := cell_has (n := s.heap.objs.size + 1) k
      refine .inr ⟨.inl k, c, e, ?_⟩
      have q := x.cell y c e
      rw [bindC_get ndP hp hu (by show scope.names.lookup y ≠ _; rw [k]; decide)] at q
      exact q
  · exact e0.hok.fresh (Nat.le_of_lt (x.above y c (PySem.mem_of_lookup h)))
  · unfold start
    show _ = N.length
    rw [List.length_append, List.length_map, List.length_replicate]
    omega

theorem fn_of {CX : CXT} {P : Program} {w : World} {K : PySem.W.Frag} {mg : Str → Option Value} {base : Heap} {k : Nat} {f : Addr} {name qual : Str} {params : Arguments} {body : List Stmt} {scope : Scope} {dV kV doc pm cdv ct oc : Value} {an od : Option Addr}
    {osl : Array (Option Value)} {N ps : List Str} {sp : Sp} (lk : K.lookup f = some ⟨oc, od, .func (PySem.W.fnOf name qual params body scope dV kV doc pm an cdv ct), osl⟩) (hcd : PySem.W.codeIn K cdv qual = true) (S : FnScope N ps scope)
    (len : ∀ vs H Q E, sp vs H Q E → vs.length = ps.length)
    (hbody : ∀ (A : Around) (outer : List Env) (s : Shared) (H : Hp) (vs : List V) (Q : VK) (E : XK), Room k (A.deeper (envOfC qual scope s.heap.objs.size f cdv)) → sp vs H Q E →
      ∃ t, PSs (cxOf CX P w K mg base N qual scope f cdv A outer s H E) body t ∧ t { nx := fun _ H' => Q .non H', rt := Q } (start N vs) H) :
    FnOk P w K mg base CX (k + 1) f (PySem.W.fnOf name qual params body scope dV kV doc pm an cdv ct) ps sp := by
  refine ⟨len, fun A outer s H args us vs Q E hr e0 hb r hsp => ?_⟩
  have hl := len _ _ _ _ hsp
  have KX : K.In s.heap := e0.mod.kin.keeps fun b o e => (e0.bs b o e).1
  have lim : s.heap.NoLimit := e0.mod.nolimit.keeps fun b o e => (e0.bs b o e).1
  have hkind : ∀ y ∈ ps.zip us, scope.names.lookup y.1 = some .local ∨ (scope.names.lookup y.1 = some .cell ∧ ((cellsFrom (s.heap.objs.size + 1) scope.names []).lookup y.1).isSome = true) := fun ⟨n, v⟩ hy => by
    rcases S.par n (List.of_mem_zip hy).1 with q | q
    · exact .inl q
    · exact .inr ⟨q, PySem.W.cellsFrom_some _ _ _ (.inl q)⟩
  refine codeAny_call_function hr.depth (KX _ _ lk) rfl S.co S.gen rfl (PySem.W.codeRec_of KX hcd) (hb _ _ _ _ ?_)
  refine wpAny_newFunctionEnv_cells S.kind hkind fun env he s1 x => ?_
  subst he
  refine ⟨lim.keeps x.toInCall.keep, codeAny_func ?_⟩
  obtain ⟨t, ht, hq⟩ := hbody A outer s H vs Q E (hr.deeper _) hsp
  have I : Inv (cxOf CX P w K mg base N qual scope f cdv A outer s H E) [] (start N vs) H s1 := inv_start S hr.hd e0 hl r x
  refine wpAny_mono (ht [] s1 (start N vs) H _ I hq) (fun fl s' hs => ?_) fun e s' hs => hs
  have fin : ∀ {σ' : St} {H' : Hp} {v : V} {u : Value}, Inv (cxOf CX P w K mg base N qual scope f cdv A outer s H E) [] σ' H' s' → RelV v u → Q v H' → CE outer P w H s Q u s' :=
    fun {σ' H' v u} J rv q => ⟨v, H', J.os, J.bare, J.base, J.hok, rv, q⟩
  cases fl with
  | ret u =>
    obtain ⟨v, σ', H', J, rv, q⟩ := hs
    exact fin J rv q
  | next =>
    obtain ⟨σ', H', J, q⟩ := hs
    exact fin (v := V.non) (u := Value.none) J rfl q
  | brk =>
    obtain ⟨_, _, _, q⟩ := hs
    exact False.elim q
  | cont =>
    obtain ⟨_, _, _, q⟩ := hs
    exact False.elim q
end L2

namespace L2
open PySem PySem.Spec PyProof.Rows
section
variable {X : Cx} {x : Str} {p pos : Pos} {e : Expr} {es : List Expr} {t : TA} {id T : String} {r : List V → Hp → VK → Prop}

noncomputable def tCB (r : List V → Hp → VK → Prop) (t : TA) : TE := fun σ H Q => t σ H fun vs H1 => r vs H1 Q
theorem pe_callB (hc : CallR X (.builtin id) r) (hg : Gl X x) (hm : X.mg x = none) (hv : bootBuiltins x = some (.builtin id)) (ha : PA X (e :: es) t) (hn : x ≠ "__name__" := by decide) (hdb : (x == ("__debug__" : Str)) = false := by decide)
    (he : starEach (e :: es) X.env = (false, eval e X.env) :: starEach es X.env := by rfl) (hpl : (backTo pos (starEach es X.env)).any (·.1) = false := by rfl) : PE X (.Call (.Name x p) (e :: es) [] pos) (tCB r t) := by
  intro pins s σ H Q I h
  refine wpAny_Call_Name_kw (ld_blt I hg hm hv ?_ hn hdb)
  exact PyProof.Rows.callWith_builtin1 (thn (ha pos pins s σ H _ I h) fun us s1 ⟨vs, H1, I1, r1, q1⟩ => hc pins s1 σ H1 vs us Q I1 r1 q1) he hpl
theorem pe_callTy (hc : CallR X (.type T) r) (hg : Gl X x) (hm : X.mg x = none) (hv : bootBuiltins x = some (.type T)) (ha : PA X (e :: es) t) (hn : x ≠ "__name__" := by decide) (hdb : (x == ("__debug__" : Str)) = false := by decide)
    (he : starEach (e :: es) X.env = (false, eval e X.env) :: starEach es X.env := by rfl) (hpl : (backTo pos (starEach es X.env)).any (·.1) = false := by rfl) : PE X (.Call (.Name x p) (e :: es) [] pos) (tCB r t) := by
  intro pins s σ H Q I h
  refine wpAny_Call_Name_kw (ld_blt I hg hm hv ?_ hn hdb)
  exact PyProof.Rows.callWith_type1 (thn (ha pos pins s σ H _ I h) fun us s1 ⟨vs, H1, I1, r1, q1⟩ => hc pins s1 σ H1 vs us Q I1 r1 q1) he hpl
end
end L2

namespace HT
open PySem PyProof.Rows

noncomputable def lexLt : List Int → List Int → Bool
  | [], [] => false
  | [], _ :: _ => true
  | _ :: _, [] => false
  | x :: xs, y :: ys => if x = y then lexLt xs ys else decide (x < y)
theorem lexLt_cons (x y : Int) (xs ys : List Int) : lexLt (x :: xs) (y :: ys) = if x = y then lexLt xs ys else decide (x < y) := rfl
theorem lexLt_nil_nil : lexLt [] [] = false := rfl
theorem lexLt_nil_cons (y : Int) (ys : List Int) : lexLt [] (y :: ys) = true := rfl
theorem lexLt_cons_nil (x : Int) (xs : List Int) : lexLt (x :: xs) [] = false := rfl


section
open PySem.SeqAt
open PySem.AutoSeq1 (wpAny_loadPart')
open PySem.MeetsSeq PySem.MeetsSeq2 PySem.MeetsSeq3

end

section
variable {prog : Program} {w : World} {A : Around} {E : Value → Shared → Prop} {s : Shared}



/-! ### t[a:b], not the whole -/
noncomputable def sIx (n d : Nat) : Option Int → Nat
  | none => d
  | some v => if v < 0 then (v + (n : Int)).toNat else min v.toNat n
theorem sIx_none (n d : Nat) : sIx n d none = d := rfl

end
end HT

namespace L2
open PySem PySem.Spec PyProof.Rows

/-! ### the parts of a slice -/
noncomputable abbrev TO := St → Hp → (Option Int → Hp → Prop) → Prop
noncomputable def PO (X : Cx) (e : Option Expr) (t : TO) : Prop :=
  ∀ (pins : List (Addr × Obj)) (s : Shared) (σ : St) (H : Hp) (Q : Option Int → Hp → Prop), Inv X pins σ H s → t σ H Q →
    wpAny (model X.prog X.w) X.A (evalPart e X.env) (fun u s' => ∃ o H', Inv X pins σ H' s' ∧ IsPart u o ∧ Q o H') X.xe s
noncomputable def tNoPart : TO := fun _ H Q => Q none H
noncomputable def tPart (t : TE) : TO := fun σ H Q => t σ H fun x H1 => ∃ i, x = .int i ∧ Q (some i) H1


section
variable {X : Cx} {e : Expr} {te : TE} {lo hi : Option Expr} {tl th : TO} {pos p2 : Pos}

theorem po_some (h : PE X e te) : PO X (some e) (tPart te) := by
  intro pins s σ H Q I hw
  rw [evalPart_some]
  refine thn (h pins s σ H _ I hw) fun u s1 ⟨x, H1, I1, r1, q1⟩ => ?_
  obtain ⟨i, rfl, q⟩ := q1
  obtain ⟨t, rfl⟩ := r1
  exact ⟨some i, H1, I1, .int i t, q⟩

noncomputable def SlR (X : Cx) (r : V → Option Int → Option Int → Hp → VK → Prop) : Prop :=
  ∀ (pins : List (Addr × Obj)) (s : Shared) (σ : St) (H : Hp) (x : V) (v vl vu : Value) (lo hi : Option Int) (sl : Addr) (Q : VK), Inv X pins σ H s → RelV x v → s.heap.IsSliceOf sl vl vu .none → IsPart vl lo → IsPart vu hi → r x lo hi H Q →
    ∃ T id, typeLookup (.type T) "__getitem__" = pure (some (.builtin id)) ∧ s.TypeIs v T ∧ wpAny (model X.prog X.w) X.A (getItem v (.ref sl)) (EP X pins σ Q) X.xe s
theorem SlR.or {r r' : V → Option Int → Option Int → Hp → VK → Prop} (h : SlR X r) (h' : SlR X r') : SlR X (fun x lo hi H Q => r x lo hi H Q ∨ r' x lo hi H Q) := by
  intro pins s σ H x v vl vu lo hi sl Q I rx hs pl pu q
  rcases q with q | q
  · exact h pins s σ H x v vl vu lo hi sl Q I rx hs pl pu q
  · exact h' pins s σ H x v vl vu lo hi sl Q I rx hs pl pu q
noncomputable def tSl (r : V → Option Int → Option Int → Hp → VK → Prop) (te : TE) (tl th : TO) : TE := fun σ H Q => te σ H fun x H1 => tl σ H1 fun l H2 => th σ H2 fun u H3 => r x l u H3 Q
theorem pe_slice {r : V → Option Int → Option Int → Hp → VK → Prop} (hr : SlR X r) (he : PE X e te) (hl : PO X lo tl) (hu : PO X hi th) : PE X (.Subscript e (.Slice lo hi none p2) pos) (tSl r te tl th) := by
  intro pins s σ H Q I h
  refine Subscript_ (thn (he pins s σ H _ I h) fun v s1 ⟨x, H1, I1, r1, q1⟩ => ?_)
  refine wpAny_Slice (thn (hl pins s1 σ H1 _ I1 q1) fun vl s2 ⟨l, H2, I2, pl, q2⟩ => thn (hu pins s2 σ H2 _ I2 q2) fun vu s3 ⟨u, H3, I3, pu, q3⟩ => ?_)
  rw [evalPart_none]
  refine wpAny_pure ?_
  have I4 : Inv X pins σ H3 { s3 with heap := s3.heap.push { cls := .type "slice", data := .fields #[vl, vu, .none] } } := I3.kept (t' := s3.toks) fun b ob q => Heap.get?_push_of_some _ q
  obtain ⟨T, id, hT, ht, hg⟩ := hr pins { s3 with heap := s3.heap.push { cls := .type "slice", data := .fields #[vl, vu, .none] } } σ H3 x v vl vu l u s3.heap.objs.size Q I4 r1 (Heap.IsSliceOf.new ..) pl pu q3
  show wpAny (model X.prog X.w) X.A (subscriptTail e (.Slice lo hi none p2) v (.ref s3.heap.objs.size)) (EP X pins σ Q) X.xe { s3 with heap := s3.heap.push { cls := .type "slice", data := .fields #[vl, vu, .none] } }
  exact tail_any (ops := [.ref s3.heap.objs.size, v]) ht hT hg (by with_unfolding_all rfl)

noncomputable def cutV (xs : List V) (lo hi : Option Int) : List V := (xs.drop (HT.sIx xs.length 0 lo)).take (HT.sIx xs.length xs.length hi - HT.sIx xs.length 0 lo)
theorem cutV_length (xs : List V) (lo hi : Option Int) : (cutV xs lo hi).length ≤ xs.length := by
  unfold cutV
  rw [List.length_take, List.length_drop]
  omega
noncomputable def rSlT (K : PySem.W.Frag) : V → Option Int → Option Int → Hp → VK → Prop := fun x lo hi H Q => ∃ a xs, x = .ref a ∧ SqT K H a xs ∧
  ¬ (HT.sIx xs.length 0 lo = 0 ∧ HT.sIx xs.length xs.length hi = xs.length) ∧ ∀ p, H p = none → Q (.ref p) (upd H p (.tup (cutV xs lo hi)))

/-! ### t < u, t + u -/
noncomputable def rLtT (K : PySem.W.Frag) : R2 := fun x y H Q => ∃ a b ns ms, x = .ref a ∧ y = .ref b ∧ SqT K H a (ns.map V.int) ∧ SqT K H b (ms.map V.int) ∧ Q (.bl (HT.lexLt ns ms)) H
noncomputable def rCatT (K : PySem.W.Frag) : R2 := fun x y H Q => ∃ a b xs ys, x = .ref a ∧ y = .ref b ∧ SqT K H a xs ∧ SqT K H b ys ∧ xs ≠ [] ∧ xs.length + ys.length ≤ sizeLine ∧
  (ys = [] → Q (.ref a) H) ∧ (ys ≠ [] → ∀ p, H p = none → Q (.ref p) (upd H p (.tup (xs ++ ys))))
end
end L2

namespace L2
open PySem PySem.Spec PyProof.Rows

/-! ### places -/
noncomputable def ixN (n : Nat) (i : Int) : Option Nat := if 0 ≤ i then (if i < n then some i.toNat else none) else if -(n : Int) ≤ i then some (i + n).toNat else none
noncomputable def atI {α : Type} (xs : List α) (i : Int) : Option α := (ixN xs.length i).bind fun j => xs[j]?
theorem ixN_seq {n : Nat} {i : Int} {j : Nat} (h : ixN n i = some j) : seqIndex? i n = some j ∧ j < n ∧ -(n : Int) ≤ i ∧ i < n := by
  unfold ixN at h
  by_cases h0 : 0 ≤ i
  · rw [if_pos h0] at h
    by_cases h1 : i < n
    · rw [if_pos h1] at h
      have e : i.toNat = j := Option.some.inj h
      exact ⟨by rw [seqIndex_of h0 h1, e], by omega, by omega, h1⟩
    · rw [if_neg h1] at h; cases h
  · rw [if_neg h0] at h
    by_cases h1 : -(n : Int) ≤ i
    · rw [if_pos h1] at h
      have e : (i + n).toNat = j := Option.some.inj h
      exact ⟨by rw [seqIndex_neg (by omega) h1, e], by omega, h1, by omega⟩
    · rw [if_neg h1] at h; cases h
theorem atI_get {α : Type} {xs : List α} {i : Int} {v : α} (h : atI xs i = some v) : ∃ j, seqIndex? i xs.length = some j ∧ xs[j]? = some v ∧ j < xs.length ∧ -(xs.length : Int) ≤ i ∧ i < xs.length := by
  unfold atI at h
  cases e : ixN xs.length i with
  | none => rw [e] at h; cases h
  | some j =>
    rw [e] at h
    obtain ⟨h1, h2, h3, h4⟩ := ixN_seq e
    exact ⟨j, h1, h, h2, h3, h4⟩

/-! ### what may be subscripted -/
noncomputable def PlainIx (b : Expr) : Prop := ∀ o i, subscripted b false o i = operate [o, i] (getItem o i)
noncomputable def IxR (X : Cx) (r : R2) : Prop :=
  ∀ (value slice : Expr) (pins : List (Addr × Obj)) (s : Shared) (σ : St) (H : Hp) (x y : V) (v u : Value) (Q : VK), Inv X pins σ H s → RelV x v → RelV y u → r x y H Q →
    subscripted slice false v u = operate [v, u] (getItem v u) → wpAny (model X.prog X.w) X.A (subscriptTail value slice v u) (EP X pins σ Q) X.xe s
noncomputable def MtR (X : Cx) (id : String) (r : V → List V → Hp → VK → Prop) : Prop :=
  ∀ (pins : List (Addr × Obj)) (s : Shared) (σ : St) (H : Hp) (x : V) (xs : List V) (v : Value) (us : List Value) (Q : VK), Inv X pins σ H s → RelV x v → Vals xs us → r x xs H Q →
    wpAny (model X.prog X.w) X.A (call (.builtin id) (v :: us)) (EP X pins σ Q) X.xe s
section
variable {X : Cx} {a b : Expr} {ta tb : TE} {pos : Pos}
theorem IxR.or {r r' : R2} (h : IxR X r) (h' : IxR X r') : IxR X (fun x y H Q => r x y H Q ∨ r' x y H Q) := by
  intro value slice pins s σ H x y v u Q I rx ry q hs
  rcases q with q | q
  · exact h value slice pins s σ H x y v u Q I rx ry q hs
  · exact h' value slice pins s σ H x y v u Q I rx ry q hs
theorem pe_ix {r : R2} (hr : IxR X r) (ha : PE X a ta) (hb : PE X b tb) (hs : PlainIx b) : PE X (.Subscript a b pos) (tOp r ta tb) := by
  intro pins s σ H Q I h
  exact Subscript_ (binT ha hb I h fun v u s2 x y H2 I2 rx ry q => hr a b pins s2 σ H2 x y v u Q I2 rx ry q (hs _ _))

noncomputable def rIxL (K : PySem.W.Frag) : R2 := fun x y H Q => ∃ p xs i v, x = .ref p ∧ y = .int i ∧ SqL K H p xs ∧ atI xs i = some v ∧ Q v H
noncomputable def rIxT (K : PySem.W.Frag) : R2 := fun x y H Q => ∃ p xs i v, x = .ref p ∧ y = .int i ∧ SqT K H p xs ∧ atI xs i = some v ∧ Q v H
noncomputable def rIxS : R2 := fun x y H Q => ∃ z i c, x = .str z ∧ y = .int i ∧ z.length ≤ sizeLine ∧ atI z.cps.toList i = some c ∧ Q (.str ⟨#[c]⟩) H
theorem ix_list : IxR X (rIxL X.K) := by
  intro value slice pins s σ H x y v u Q I rx ry h hs
  obtain ⟨p, xs, i, z, rfl, rfl, hq, he, q⟩ := h
  cases rx
  obtain ⟨t, rfl⟩ := ry
  obtain ⟨its, r, pl, hz⟩ := I.list hq
  obtain ⟨j, h1, h2, h3, h4, h5⟩ := atI_get he
  obtain ⟨w, ew, rw'⟩ := r.get h2
  have hl := r.length
  have hn := line63
  have fin : EP X pins σ Q w s := ⟨z, H, I, rw', q⟩
  by_cases h0 : 0 ≤ i
  · have hj : i.toNat = j := by
      rw [seqIndex_of h0 h5] at h1
      exact Option.some.inj h1
    exact item_listR pl.isList h0 (by omega) (by rw [hj]; simpa using ew) fin hs
  · have hj : (i + (its.toArray.size : Int)).toNat = j := by
      rw [seqIndex_neg (by omega) h4] at h1
      rw [List.size_toArray, ← hl]
      exact Option.some.inj h1
    exact subscriptTail_builtinR (x := w) pl.isList.typeIs slot_list_getitem.lookup
      (wpAny_getItem_list_neg (Q := fun r s' => r = w ∧ EP X pins σ Q r s') pl.isList (by omega) (by rw [List.size_toArray] <;> omega) (by omega) (by rw [hj]; simpa using ew) ⟨rfl, fin⟩) hs
theorem ix_tup : IxR X (rIxT X.K) := by
  intro value slice pins s σ H x y v u Q I rx ry h hs
  obtain ⟨p, xs, i, z, rfl, rfl, hq, he, q⟩ := h
  cases rx
  obtain ⟨t, rfl⟩ := ry
  obtain ⟨its, r, pl, hz⟩ := I.tuple hq
  obtain ⟨j, h1, h2, h3, h4, h5⟩ := atI_get he
  obtain ⟨w, ew, rw'⟩ := r.get h2
  have hl := r.length
  have hn := line63
  have fin : EP X pins σ Q w s := ⟨z, H, I, rw', q⟩
  exact subscriptTail_builtinR (x := w) pl.typeIs slot_tuple_getitem.lookup
    (getItem_tuple (j := j) (Q := fun r s' => r = w ∧ EP X pins σ Q r s') pl (by omega) (by omega) (by rw [List.size_toArray, ← hl]; exact h1) (by simpa using ew) ⟨rfl, fin⟩) hs
theorem ix_str : IxR X rIxS := by
  intro value slice pins s σ H x y v u Q I rx ry h hs
  obtain ⟨z, i, c, rfl, rfl, hz, he, q⟩ := h
  obtain ⟨t, rfl⟩ := rx
  obtain ⟨t', rfl⟩ := ry
  obtain ⟨j, h1, h2, h3, h4, h5⟩ := atI_get he
  have hl : z.cps.toList.length = z.length := by simp [Str.length]
  rw [hl] at h1 h4 h5
  have hn := line63
  exact tail_any (typeIs_str s z t) slot_str_getitem.lookup (getItem_str (c := c) (by
    have e1 : decide (i < -(2 ^ 63 : Int)) = false := decide_eq_false (by omega)
    have e2 : decide (i ≥ 2 ^ 63) = false := decide_eq_false (by omega)
    rw [e1, e2, Bool.or_false]) (by rw [h1]; simpa using h2) ⟨.str ⟨#[c]⟩, H, I.tok _, ⟨_, rfl⟩, q⟩) hs
noncomputable def rIx (K : PySem.W.Frag) : R2 := fun x y H Q => rIxL K x y H Q ∨ rIxT K x y H Q ∨ rIxS x y H Q
theorem ix_seq : IxR X (rIx X.K) := ix_list.or (ix_tup.or ix_str)

/-! ### xs[i] = v, any sign -/
noncomputable def rSetL : V → V → V → Hp → (Hp → Prop) → Prop := fun o i v H Q => ∃ p xs k j, o = .ref p ∧ i = .int k ∧ H p = some (.lst xs) ∧ ixN xs.length k = some j ∧ Q (upd H p (.lst (xs.set j v)))

/-! ### slices -/
theorem slice_bounds (lo hi : Option Int) (n : Nat) : (sliceBounds lo hi none n).1 = ((HT.sIx n 0 lo : Nat) : Int) ∧ (sliceBounds lo hi none n).2.1 = ((HT.sIx n n hi : Nat) : Int) ∧ (sliceBounds lo hi none n).2.2 = 1 := by
  refine ⟨?_, ?_, rfl⟩
  · cases lo with
    | none => simp [sliceBounds, HT.sIx]
    | some i =>
      simp only [sliceBounds, HT.sIx, Option.getD_none, show (1 : Int) > 0 by decide, if_true]
      by_cases h : i < 0
      · simp only [h, if_true] <;> omega
      · simp only [h, if_false] <;> omega
  · cases hi with
    | none => simp [sliceBounds, HT.sIx]
    | some i =>
      simp only [sliceBounds, HT.sIx, Option.getD_none, show (1 : Int) > 0 by decide, if_true]
      by_cases h : i < 0
      · simp only [h, if_true] <;> omega
      · simp only [h, if_false] <;> omega
theorem slicePick_cut (its : List Value) (lo hi : Option Int) : slicePick its.toArray lo hi none = ((its.drop (HT.sIx its.length 0 lo)).take (HT.sIx its.length its.length hi - HT.sIx its.length 0 lo)).toArray := by
  obtain ⟨h1, h2, h3⟩ := slice_bounds lo hi its.toArray.size
  unfold slicePick
  rw [h1, h2, h3]
  simp only [sliceRange_one, pick_run, List.size_toArray] <;> rfl
noncomputable def rSlL (K : PySem.W.Frag) : V → Option Int → Option Int → Hp → VK → Prop := fun x lo hi H Q => ∃ a xs, x = .ref a ∧ SqL K H a xs ∧ ∀ p, H p = none → Q (.ref p) (upd H p (.lst (cutV xs lo hi)))
theorem sl_list : SlR X (rSlL X.K) := by
  intro pins s σ H x v vl vu lo hi sl Q I rx hs pl pu h
  obtain ⟨a, xs, rfl, hx, q⟩ := h
  cases rx
  obtain ⟨its, r, ht, hz⟩ := I.list hx
  have hlen := r.length
  refine ⟨"list", _, slot_list_getitem.lookup, ht.isList.typeIs, ?_⟩
  refine wpAny_getItem_list_slice ht.isList hs pl pu .none (by simp) ?_ (by rw [List.size_toArray] <;> omega)
  rw [slicePick_cut, ← hlen]
  refine ⟨.ref s.heap.objs.size, _, I.laid (t' := s.toks) (o := .lst (cutV xs lo hi)) (fun b ob q => Heap.get?_push_of_some _ q) (Nat.le_refl _) ?_, rfl, q _ (I.hok.fresh (Nat.le_refl _))⟩
  exact ⟨Nat.le_trans (cutV_length xs lo hi) hz, _, 0, (r.drop (HT.sIx xs.length 0 lo)).take (HT.sIx xs.length xs.length hi - HT.sIx xs.length 0 lo), Heap.get?_push_size _ rfl⟩

/-! ### in, not in: flat items -/
noncomputable def flatV : V → Bool
  | .non => true
  | .bl _ => true
  | .int _ => true
  | .str _ => true
  | _ => false
noncomputable def eqV : V → V → Bool
  | .non, .non => true
  | .bl a, .bl b => a == b
  | .bl a, .int b => (if a then 1 else 0) == b
  | .int a, .bl b => a == (if b then 1 else 0)
  | .int a, .int b => a == b
  | .str a, .str b => a == b
  | _, _ => false
theorem eqAt_V {A : Around} {s : Shared} {y x : V} {u v : Value} (ry : RelV y u) (rx : RelV x v) (fy : flatV y = true) (fx : flatV x = true) : SeqAt.EqAt A s u v (eqV y x) := by
  cases y with
  | non =>
    cases ry
    cases x with
    | non => cases rx; exact SeqAt.EqAt.same _
    | bl b => cases rx; exact SeqAt.EqAt.none_bool b
    | int b => obtain ⟨t, rfl⟩ := rx; exact SeqAt.EqAt.none_int b t
    | str b => obtain ⟨t, rfl⟩ := rx; exact SeqAt.EqAt.none_str b t
    | _ => exact absurd (show false = true from fx) Bool.false_ne_true
  | bl a =>
    cases ry
    cases x with
    | non => cases rx; exact SeqAt.EqAt.bool_none a
    | bl b => cases rx; exact SeqAt.EqAt.bool_bool a b
    | int b => obtain ⟨t, rfl⟩ := rx; exact SeqAt.EqAt.bool_int a b t
    | str b => obtain ⟨t, rfl⟩ := rx; exact SeqAt.EqAt.bool_str a b t
    | _ => exact absurd (show false = true from fx) Bool.false_ne_true
  | int a =>
    obtain ⟨t', rfl⟩ := ry
    cases x with
    | non => cases rx; exact SeqAt.EqAt.int_none a t'
    | bl b => cases rx; exact SeqAt.EqAt.int_bool a t' b
    | int b => obtain ⟨t, rfl⟩ := rx; exact SeqAt.EqAt.int_int a t' b t
    | str b => obtain ⟨t, rfl⟩ := rx; exact SeqAt.EqAt.int_str a t' b t
    | _ => exact absurd (show false = true from fx) Bool.false_ne_true
  | str a =>
    obtain ⟨t', rfl⟩ := ry
    cases x with
    | non => cases rx; exact SeqAt.EqAt.str_none a t'
    | bl b => cases rx; exact SeqAt.EqAt.str_bool a t' b
    | int b => obtain ⟨t, rfl⟩ := rx; exact SeqAt.EqAt.str_int a t' b t
    | str b => obtain ⟨t, rfl⟩ := rx; exact SeqAt.EqAt.str_str a t' b t
    | _ => exact absurd (show false = true from fx) Bool.false_ne_true
  | _ => exact absurd (show false = true from fy) Bool.false_ne_true
noncomputable def eqU (x : V) (u : Value) : Bool := match u with
  | .none => eqV .non x
  | .bool b => eqV (.bl b) x
  | .int i _ => eqV (.int i) x
  | .str z _ => eqV (.str z) x
  | _ => false
theorem eqU_of {x y : V} {u : Value} (r : RelV y u) (f : flatV y = true) : eqU x u = eqV y x := by
  cases y with
  | non => cases r; rfl
  | bl b => cases r; rfl
  | int i => obtain ⟨t, rfl⟩ := r; rfl
  | str z => obtain ⟨t, rfl⟩ := r; rfl
  | _ => exact absurd (show false = true from f) Bool.false_ne_true
theorem any_eqU {x : V} : ∀ {xs : List V} {us : List Value}, Vals xs us → xs.all flatV = true → us.any (eqU x) = xs.any fun y => eqV y x
  | _, _, .nil, _ => rfl
  | y :: xs, u :: us, .cons r t, f => by
    rw [List.all_cons, Bool.and_eq_true] at f
    rw [List.any_cons, List.any_cons, eqU_of r f.1, any_eqU t f.2]
theorem mem_eqAt {A : Around} {s : Shared} {x : V} {v : Value} (rx : RelV x v) (fx : flatV x = true) : ∀ {xs : List V} {us : List Value}, Vals xs us → xs.all flatV = true → ∀ u ∈ us, SeqAt.EqAt A s u v (eqU x u)
  | _, _, .nil, _ => fun u hu => by cases hu
  | y :: xs, u :: us, .cons r t, f => fun u' hu => by
    rw [List.all_cons, Bool.and_eq_true] at f
    rcases List.mem_cons.mp hu with rfl | hu
    · rw [eqU_of r f.1]; exact eqAt_V r rx f.1 fx
    · exact mem_eqAt rx fx t f.2 u' hu
noncomputable def inV (x : V) (xs : List V) : Bool := xs.any fun y => eqV y x
noncomputable def rIn (K : PySem.W.Frag) (neg : Bool) : R2 := fun x y H Q => ∃ p xs, y = .ref p ∧ (SqL K H p xs ∨ SqT K H p xs) ∧ flatV x = true ∧ xs.all flatV = true ∧ Q (.bl (if neg then !inV x xs else inV x xs)) H
theorem op_in_seq : OpR X (compareOp .In) (rIn X.K false) := by
  intro pins s σ H x y v u Q I rx ry h
  obtain ⟨p, xs, rfl, hq, fx, fs, q⟩ := h
  cases ry
  rcases hq with hq | hq
  · obtain ⟨its, r, pl, hz⟩ := I.list hq
    refine SeqAt.in_listAt (eqU x) pl.isList (fun w hw => mem_eqAt rx fx r fs w (by simpa using hw)) ⟨.bl _, H, I, rfl, ?_⟩
    rw [show its.toArray.any (eqU x) = its.any (eqU x) by simp, any_eqU r fs]
    exact q
  · obtain ⟨its, r, pl, hz⟩ := I.tuple hq
    refine SeqAt.in_tupleAt (eqU x) pl (fun w hw => mem_eqAt rx fx r fs w (by simpa using hw)) ⟨.bl _, H, I, rfl, ?_⟩
    rw [show its.toArray.any (eqU x) = its.any (eqU x) by simp, any_eqU r fs]
    exact q
theorem op_notIn_seq : OpR X (compareOp .NotIn) (rIn X.K true) := by
  intro pins s σ H x y v u Q I rx ry h
  obtain ⟨p, xs, rfl, hq, fx, fs, q⟩ := h
  cases ry
  rcases hq with hq | hq
  · obtain ⟨its, r, pl, hz⟩ := I.list hq
    refine SeqAt.notIn_listAt (eqU x) pl.isList (fun w hw => mem_eqAt rx fx r fs w (by simpa using hw)) ⟨.bl _, H, I, rfl, ?_⟩
    rw [show its.toArray.any (eqU x) = its.any (eqU x) by simp, any_eqU r fs]
    exact q
  · obtain ⟨its, r, pl, hz⟩ := I.tuple hq
    refine SeqAt.notIn_tupleAt (eqU x) pl (fun w hw => mem_eqAt rx fx r fs w (by simpa using hw)) ⟨.bl _, H, I, rfl, ?_⟩
    rw [show its.toArray.any (eqU x) = its.any (eqU x) by simp, any_eqU r fs]
    exact q
theorem op_notIn_str : OpR X (compareOp .NotIn) (fun x y H Q => ∃ i j, x = .str i ∧ y = .str j ∧ Q (.bl (!(!(Builtin.Str.occurrences j i 0 j.length 1).isEmpty))) H) := by
  intro pins s σ H x y v u Q I rx ry h
  obtain ⟨i, j, rfl, rfl, q⟩ := h
  obtain ⟨t, rfl⟩ := rx
  obtain ⟨t', rfl⟩ := ry
  exact notIn_str ⟨.bl _, H, I, rfl, q⟩

/-! ### len, list(x), tuple(x) of any list or tuple that is read -/
theorem call_len_seq : CallR X (.builtin "len") (fun xs H Q => ∃ p ys, xs = [.ref p] ∧ (SqL X.K H p ys ∨ SqT X.K H p ys) ∧ Q (.int ys.length) H) := by
  intro pins s σ H xs us Q I r h
  obtain ⟨p, ys, rfl, hq, q⟩ := h
  obtain ⟨u, rfl, rx⟩ := vals1 r
  cases rx
  have hn := line63
  rcases hq with hq | hq
  · obtain ⟨its, r', pl, hz⟩ := I.list hq
    have hlen := r'.length
    exact Calls.call_len_list pl.isList (by simp only [List.size_toArray] <;> omega) ⟨.int ys.length, H, I.tok _, ⟨s.toks + 1, by rw [List.size_toArray, hlen]⟩, q⟩
  · obtain ⟨its, r', pl, hz⟩ := I.tuple hq
    have hlen := r'.length
    exact len_tuple pl (by simp only [List.size_toArray] <;> omega) ⟨.int ys.length, H, I.tok _, ⟨s.toks + 1, by rw [List.size_toArray, hlen]⟩, q⟩
theorem call_len_str : CallR X (.builtin "len") (fun xs H Q => ∃ z, xs = [.str z] ∧ z.length ≤ sizeLine ∧ Q (.int z.length) H) := by
  intro pins s σ H xs us Q I r h
  obtain ⟨z, rfl, hz, q⟩ := h
  obtain ⟨u, rfl, t, rfl⟩ := vals1 r
  have hn := line63
  exact len_str (by omega) ⟨.int z.length, H, I.tok _, ⟨_, rfl⟩, q⟩
theorem CallR.or {f : Value} {r r' : List V → Hp → VK → Prop} (h : CallR X f r) (h' : CallR X f r') : CallR X f (fun xs H Q => r xs H Q ∨ r' xs H Q) := by
  intro pins s σ H xs us Q I rs q
  rcases q with q | q
  · exact h pins s σ H xs us Q I rs q
  · exact h' pins s σ H xs us Q I rs q

/-! ### the call of a builtin's method: o.m(..) -/
noncomputable def tyV (K : PySem.W.Frag) (T : String) (x : V) (H : Hp) : Prop := match x with
  | .str _ => T = "str"
  | .int _ => T = "int"
  | .ref p => (T = "list" ∧ ∃ xs, SqL K H p xs) ∨ (T = "tuple" ∧ ∃ o, K.lookup p = some o ∧ o.cls = .type "tuple" ∧ o.dict = none) ∨
      (T = "dict" ∧ ((∃ kvs, HK H p kvs) ∨ ∃ kvs, HTt H p kvs)) ∨ (T = "set" ∧ ∃ S n, H p = some (.set S n))
  | _ => False
theorem tyV_is {pins : List (Addr × Obj)} {σ : St} {H : Hp} {s : Shared} {T : String} {x : V} {v : Value} (I : Inv X pins σ H s) (r : RelV x v) (ty : tyV X.K T x H) :
    s.TypeIs v T ∧ ∀ a, v = .ref a → ∃ ob, s.heap.get? a = some ob ∧ ob.dict = none := by
  cases x with
  | str z =>
    obtain ⟨t, rfl⟩ := r
    cases (show T = "str" from ty)
    exact ⟨typeIs_str s z t, fun _ e => nomatch e⟩
  | int i =>
    obtain ⟨t, rfl⟩ := r
    cases (show T = "int" from ty)
    exact ⟨typeIs_int s i t, fun _ e => nomatch e⟩
  | ref p =>
    cases r
    rcases ty with ⟨rfl, xs, hq⟩ | ⟨rfl, o, hk, hc, hd⟩ | ⟨rfl, hk⟩ | ⟨rfl, S, n, hk⟩
    · obtain ⟨its, _, pl, _⟩ := I.list hq
      refine ⟨pl.isList.typeIs, fun a e => ?_⟩
      cases e
      obtain ⟨o, n, e, c, hd, _⟩ := pl
      exact ⟨o, e, hd⟩
    · refine ⟨⟨o, I.kIn p o hk, hc⟩, fun a e => ?_⟩
      cases e
      exact ⟨o, I.kIn _ o hk, hd⟩
    · have z : ∃ o, s.heap.get? p = some o ∧ o.ExactDict := by
        rcases hk with ⟨kvs, ep, hk⟩ | ⟨kvs, ep, bs, hk⟩
        · obtain ⟨_, _, _, _, o, _, e, ex, _⟩ := I.hok p _ hk
          exact ⟨o, e, ex⟩
        · obtain ⟨_, _, _, _, o, _, e, ex, _⟩ := I.hok p _ hk
          exact ⟨o, e, ex⟩
      obtain ⟨o, e, ex⟩ := z
      refine ⟨⟨o, e, ex.1⟩, fun a e2 => ?_⟩
      cases e2
      exact ⟨o, e, ex.2.1⟩
    · obtain ⟨o, _, _, _, e, ex, _⟩ := I.hok p _ hk
      refine ⟨⟨o, e, ex.1⟩, fun a e2 => ?_⟩
      cases e2
      exact ⟨o, e, ex.2.1⟩
  | _ => exact False.elim ty
noncomputable def tBM0 (K : PySem.W.Frag) (T : String) (r : V → List V → Hp → VK → Prop) (to : TE) : TE := fun σ H Q => to σ H fun x H1 => tyV K T x H1 ∧ r x [] H1 Q
noncomputable def tBM (K : PySem.W.Frag) (T : String) (r : V → List V → Hp → VK → Prop) (to : TE) (t : TA) : TE := fun σ H Q => to σ H fun x H1 => tyV K T x H1 ∧ t σ H1 fun xs H2 => r x xs H2 Q
variable {o e : Expr} {es : List Expr} {to : TE} {t : TA} {name : Str} {apos cpos : Pos} {T id : String} {r : V → List V → Hp → VK → Prop}
theorem pe_bm (pa : PlainAttrs T) (slot : Slot T name id) (hty : typeOf (.builtin id) = pure (.type "method_descriptor")) (hm : MtR X id r) (ho : PE X o to) (ha : PA X (e :: es) t)
    (hbase : attributeBase o name X.env (eval o X.env) = eval o X.env := by rfl)
    (hfew : ((backTo cpos (starEach (e :: es) X.env)).all (fun x => !x.1) && (backToKw cpos (keywordEach [] X.env)).all (fun x => x.1.isSome)
      && decide ((e :: es).length + ([] : List Keyword).length + (if ([] : List Keyword).isEmpty then 0 else 1) < 30)) = true := by rfl)
    (hline : (apos.endLine == cpos.line) = true := by rfl) (hs : starEach (e :: es) X.env = (false, eval e X.env) :: starEach es X.env := by rfl) (hplain : (backTo cpos (starEach es X.env)).any (·.1) = false := by rfl) :
    PE X (.Call (.Attribute o name apos) (e :: es) [] cpos) (tBM X.K T r to t) := by
  intro pins s σ H Q I h
  refine wpAny_Call_method_late hbase hfew hline rfl (thn (ho pins s σ H _ I h) fun v s1 ⟨x, H1, I1, r1, ty, q1⟩ => ?_)
  obtain ⟨h1, h2⟩ := tyV_is I1 r1 ty
  refine ⟨T, id, pa, slot, hty, h1, h2, ?_⟩
  have hA := ha cpos pins s1 σ H1 _ I1 q1
  rw [hs] at hA ⊢
  refine Calls.callWith_builtin (by show (false || (backTo cpos (starEach es X.env)).any (·.1)) = false; rw [hplain] <;> rfl) (Calls.evalArgs_plain ?_)
  exact thn hA fun us s2 ⟨vs, H2, I2, r2, q2⟩ => hm pins s2 σ H2 x vs v us Q I2 r1 r2 q2
/- xs.append(e), list.index on a module's tuple .. are MtR facts of 06m -/
end
end L2

namespace L2
open PySem PySem.Spec PyProof.Rows

noncomputable def MtM (X : Cx) (id : String) (r : V → List V → Hp → VK → Prop) : Prop :=
  ∀ (pins : List (Addr × Obj)) (s : Shared) (σ : St) (H : Hp) (x : V) (xs : List V) (v : Value) (us : List Value) (Q : VK), Inv X pins σ H s → RelV x v → Vals xs us → r x xs H Q →
    wpAny (model X.prog X.w) X.A (call (.builtin id) (v :: us)) (EP X pins σ Q) X.xe s

/-! ### lists of values -/
theorem Vals.one : ∀ {x : V} {us : List Value}, Vals [x] us → ∃ u, us = [u] ∧ RelV x u
  | _, _, .cons r .nil => ⟨_, rfl, r⟩

section
variable {X : Cx} {pins : List (Addr × Obj)} {σ : St} {H : Hp} {s : Shared} {l b : Addr} {xs ys zs : List V}

/-! ### the two steps: a tracked list is rewritten, a new list is laid -/
theorem Inv.lset {its its' : List Value} {n : Nat} {f : Array Value → Array Value} {t' : Nat} (I : Inv X pins σ H s) (hH : H l = some (.lst xs))
    (e : s.heap.get? l = some { cls := .type "list", data := .seq its.toArray n }) (hf : f its.toArray = its'.toArray) (hv : Vals ys its') (hz : ys.length ≤ sizeLine) :
    Inv X pins σ (upd H l (.lst ys)) { s with heap := s.heap.update l (Obj.mapSeq f), toks := t' } := by
  have q := PySem.IsL.update e f
  rw [hf] at q
  refine I.write (x := l) (e := l) (by rw [hH]; exact trivial) (.inl rfl) (fun b' u hb hu => (Heap.get?_update_other s.heap (Obj.mapSeq f) (Ne.symm hb)).trans hu) ⟨_, q⟩ ?_
  exact ⟨hz, its', _, hv, q⟩
theorem Inv.lnew {its : List Value} {t' : Nat} (I : Inv X pins σ H s) (hv : Vals ys its) (hz : ys.length ≤ sizeLine) :
    Inv X pins σ (upd H s.heap.objs.size (.lst ys)) { s with heap := s.heap.push { cls := .type "list", data := .seq its.toArray }, toks := t' } :=
  I.laid (fun _ _ q => Heap.get?_push_of_some _ q) (Nat.le_refl _) ⟨hz, its, 0, hv, Heap.get?_push_size _ rfl⟩
theorem Inv.fresh (I : Inv X pins σ H s) : H s.heap.objs.size = none := I.hok.fresh (Nat.le_refl _)
theorem Inv.lstM (I : Inv X pins σ H s) (hH : H l = some (.lst xs)) : xs.length ≤ sizeLine ∧ ∃ (its : List Value) (n : Nat), Vals xs its ∧ xs.length = its.length ∧ s.heap.get? l = some { cls := .type "list", data := .seq its.toArray n } := by
  obtain ⟨z, its, n, r, e⟩ := I.hok l _ hH
  exact ⟨z, its, n, r, r.length, e⟩

end

section
variable {X : Cx}

/-! ### methods -/
noncomputable def rAppend : V → List V → Hp → VK → Prop := fun x vs H Q => ∃ l xs y, x = .ref l ∧ vs = [y] ∧ H l = some (.lst xs) ∧ xs.length < sizeLine ∧ Q .non (upd H l (.lst (xs ++ [y])))
theorem mt_append : MtM X "list.append" rAppend := by
  intro pins s σ H x vs v us Q I rx rv h
  obtain ⟨l, xs, y, rfl, rfl, hH, hz, q⟩ := h
  cases rx
  obtain ⟨u, rfl, ru⟩ := rv.one
  obtain ⟨z, its, n, r, hl, e⟩ := I.lstM hH
  refine call_meets F.slot_list_append ⟨_, e, rfl⟩ F.entry_list_append (F.args_list_append_2 _ _) (PySem.list_append l its.toArray n u (by rw [List.size_toArray]; omega)) ⟨e, ?_⟩
  refine ⟨.non, _, I.lset (its' := its ++ [u]) hH e (by simp) (r.append (.cons ru .nil)) ?_, rfl, q⟩
  rw [List.length_append, List.length_singleton]
  omega

noncomputable def rExtend : V → List V → Hp → VK → Prop := fun x vs H Q => ∃ l b xs zs, x = .ref l ∧ vs = [.ref b] ∧ H l = some (.lst xs) ∧ H b = some (.lst zs) ∧ xs.length + zs.length ≤ sizeLine ∧ Q .non (upd H l (.lst (xs ++ zs)))

noncomputable def rPop : V → List V → Hp → VK → Prop := fun x vs H Q => ∃ l xs y, x = .ref l ∧ vs = [] ∧ H l = some (.lst xs) ∧ xs[xs.length - 1]? = some y ∧ Q y (upd H l (.lst xs.dropLast))

noncomputable def rPopAt : V → List V → Hp → VK → Prop := fun x vs H Q => ∃ l xs i k y, x = .ref l ∧ vs = [.int i] ∧ H l = some (.lst xs) ∧ -(2 ^ 63) ≤ i ∧ i < 2 ^ 63 ∧ seqIndex? i xs.length = some k ∧ xs[k]? = some y ∧ Q y (upd H l (.lst (xs.eraseIdx k)))

noncomputable def rReverse : V → List V → Hp → VK → Prop := fun x vs H Q => ∃ l xs, x = .ref l ∧ vs = [] ∧ H l = some (.lst xs) ∧ Q .non (upd H l (.lst xs.reverse))

noncomputable def rClear : V → List V → Hp → VK → Prop := fun x vs H Q => ∃ l xs, x = .ref l ∧ vs = [] ∧ H l = some (.lst xs) ∧ Q .non (upd H l (.lst []))

/-! ### list + list, list += list, list * int -/
noncomputable def rCat : R2 := fun x y H Q => ∃ l b xs zs, x = .ref l ∧ y = .ref b ∧ H l = some (.lst xs) ∧ H b = some (.lst zs) ∧ xs.length + zs.length ≤ sizeLine ∧ ∀ p, H p = none → Q (.ref p) (upd H p (.lst (xs ++ zs)))
noncomputable def rRep : R2 := fun x y H Q => ∃ l k xs, x = .ref l ∧ y = .int k ∧ H l = some (.lst xs) ∧ -(2 ^ 63) ≤ k ∧ k < 2 ^ 63 ∧ xs.length * k.toNat ≤ sizeLine ∧
  ∀ p, H p = none → Q (.ref p) (upd H p (.lst (List.replicate k.toNat xs).flatten))

/-! ### del xs[i] -/
end

/-! ### xs[a:b] = ys -/
section
variable {prog : Program} {w : World} {A : Around} {E : Value → Shared → Prop} {s : Shared}
end

section
variable {X : Cx}
end
end L2

namespace L2
open PySem PySem.Spec PyProof.Rows

/-! ### lists of pairs as tables -/
section
variable {κ : Type} [DecidableEq κ]
noncomputable def valV (kvs : List (κ × V)) (k : κ) : Option V := (kvs.find? fun kv => decide (kv.1 = k)).map (·.2)
noncomputable def putK (kvs : List (κ × V)) (k : κ) (v : V) : List (κ × V) :=
  if (kvs.any fun kv => decide (kv.1 = k)) = true then kvs.map (fun kv => if kv.1 = k then (kv.1, v) else kv) else kvs ++ [(k, v)]
noncomputable def dropK (kvs : List (κ × V)) (k : κ) : List (κ × V) := kvs.filter fun kv => decide (kv.1 ≠ k)

theorem valV_nil {k : κ} : valV ([] : List (κ × V)) k = none := rfl
theorem valV_pos {p : κ × V} {r : List (κ × V)} {k : κ} (e : p.1 = k) : valV (p :: r) k = some p.2 := by simp [valV, List.find?_cons, e]
theorem valV_neg {p : κ × V} {r : List (κ × V)} {k : κ} (e : ¬ p.1 = k) : valV (p :: r) k = valV r k := by simp [valV, List.find?_cons, e]
theorem valV_any (k : κ) : ∀ kvs : List (κ × V), (kvs.any fun kv => decide (kv.1 = k)) = (valV kvs k).isSome
  | [] => rfl
  | p :: r => by
    rw [List.any_cons]
    by_cases e : p.1 = k
    · simp only [valV_pos e, decide_eq_true e, Bool.true_or, Option.isSome_some]
    · rw [valV_neg e, decide_eq_false e, Bool.false_or]; exact valV_any k r
theorem length_putK (kvs : List (κ × V)) (k : κ) (v : V) : (putK kvs k v).length ≤ kvs.length + 1 := by
  unfold putK
  split
  · rw [List.length_map]; omega
  · rw [List.length_append, List.length_cons, List.length_nil]; omega

theorem RelO.isSome_eq {o : Option V} {u : Option Value} (r : RelO o u) : o.isSome = u.isSome := by
  cases o with
  | none => cases u with
    | none => rfl
    | some _ => exact (show False from r).elim
  | some _ => cases u with
    | none => exact (show False from r).elim
    | some _ => rfl
theorem RelO.getD {o : Option V} {u : Option Value} {d : V} {d' : Value} (r : RelO o u) (rd : RelV d d') : RelV (o.getD d) (u.getD d') := by
  cases o with
  | none => cases u with
    | none => exact rd
    | some _ => exact (show False from r).elim
  | some _ => cases u with
    | none => exact (show False from r).elim
    | some _ => exact r

theorem KV.val {kvs : List (κ × V)} {vs : List (κ × Value)} (r : KV kvs vs) (k : κ) : RelO (valV kvs k) (valueAt vs k) := by
  unfold KV at r
  induction r with
  | nil => exact True.intro
  | @cons p q ps qs h t ih =>
    obtain ⟨h1, h2⟩ := h
    by_cases e : p.1 = k
    · have e' : q.1 = k := h1.symm.trans e
      have b : valueAt (q :: qs) k = some q.2 := by simp [valueAt, List.find?_cons, e']
      rw [valV_pos e, b]; exact h2
    · have e' : ¬ q.1 = k := fun z => e (h1.trans z)
      have b : valueAt (q :: qs) k = valueAt qs k := by simp [valueAt, List.find?_cons, e']
      rw [valV_neg e, b]; exact ih
theorem KV.any {kvs : List (κ × V)} {vs : List (κ × Value)} (r : KV kvs vs) (k : κ) : (kvs.any fun kv => decide (kv.1 = k)) = vs.any fun kv => decide (kv.1 = k) := by
  unfold KV at r
  induction r with
  | nil => rfl
  | cons h t ih => rw [List.any_cons, List.any_cons, ih, h.1]
theorem KV.repl {kvs : List (κ × V)} {vs : List (κ × Value)} (r : KV kvs vs) (k : κ) {y : V} {u : Value} (ry : RelV y u) :
    KV (kvs.map fun kv => if kv.1 = k then (kv.1, y) else kv) (vs.map fun kv => if kv.1 = k then (kv.1, u) else kv) := by
  unfold KV at r ⊢
  induction r with
  | nil => exact .nil
  | @cons p q ps qs h t ih =>
    rw [List.map_cons, List.map_cons]
    refine .cons ?_ ih
    obtain ⟨h1, h2⟩ := h
    by_cases e : p.1 = k
    · rw [if_pos e, if_pos (h1.symm.trans e)]; exact ⟨h1, ry⟩
    · rw [if_neg e, if_neg (fun z => e (h1.trans z))]; exact ⟨h1, h2⟩
theorem KV.put {kvs : List (κ × V)} {vs : List (κ × Value)} (r : KV kvs vs) (k : κ) {y : V} {u : Value} (ry : RelV y u) : KV (putK kvs k y) (stored vs k u) := by
  unfold putK stored
  rw [r.any k]
  by_cases e : (vs.any fun kv => decide (kv.1 = k)) = true
  · rw [if_pos e, if_pos e]; exact r.repl k ry
  · rw [if_neg e, if_neg e]; exact Paired.snoc r ⟨rfl, ry⟩
theorem KV.drop {kvs : List (κ × V)} {vs : List (κ × Value)} (r : KV kvs vs) (k : κ) : KV (dropK kvs k) (without vs k) := by
  unfold KV at r ⊢
  unfold dropK without
  induction r with
  | nil => exact .nil
  | @cons p q ps qs h t ih =>
    obtain ⟨h1, h2⟩ := h
    rw [List.filter_cons, List.filter_cons]
    by_cases e : p.1 = k
    · have a : ¬ decide (p.1 ≠ k) = true := by simp [e]
      have b : ¬ decide (q.1 ≠ k) = true := by simp [h1.symm.trans e]
      rw [if_neg a, if_neg b]; exact ih
    · have e' : ¬ q.1 = k := fun z => e (h1.trans z)
      have a : decide (p.1 ≠ k) = true := by simp [e]
      have b : decide (q.1 ≠ k) = true := by simp [e']
      rw [if_pos a, if_pos b]; exact .cons ⟨h1, h2⟩ ih
theorem KV.length {kvs : List (κ × V)} {vs : List (κ × Value)} (r : KV kvs vs) : kvs.length = vs.length := Paired.length r
theorem dropK_le (kvs : List (κ × V)) (k : κ) : (dropK kvs k).length ≤ kvs.length := List.length_filter_le _ _
end


/-! ### a tracked dict, its keys ints and texts or tuples of these -/
theorem kV_is {P : Program} {w : World} {k : Key} {u : Value} (r : RelV (kV k) u) : (mixKind P w).is k u = true := by
  cases k with
  | inl i => obtain ⟨t, e⟩ := (show ∃ t, u = Value.int i t from r); subst e; exact mixKind_int P w i t
  | inr x => obtain ⟨t, e⟩ := (show ∃ t, u = Value.str x t from r); subst e; exact mixKind_str P w x t
theorem items_are {P : Program} {w : World} : ∀ {ks : List Key} {us : List Value}, Vals (ks.map kV) us → ItemsAre (mixKind P w) ks us
  | [], _, r => by rw [List.map_nil] at r; cases r; exact .nil
  | k :: ks, _, r => by
    rw [List.map_cons] at r
    cases r with
    | cons h t => exact .cons (kV_is h) (items_are t)

noncomputable abbrev KT (H : Hp) : List (List Key × V) → List (List Key × Addr × Value) → Prop := Paired fun p q => p.1 = q.1 ∧ H q.2.1 = some (.tup (p.1.map kV)) ∧ RelV p.2 q.2.2
theorem KT.val {H : Hp} {kvs : List (List Key × V)} {xs : List (List Key × Addr × Value)} (r : KT H kvs xs) (k : List Key) : RelO (valV kvs k) ((atKey xs k).map (·.2)) := by
  induction r with
  | nil => exact True.intro
  | @cons p q ps qs h t ih =>
    obtain ⟨h1, _, h2⟩ := h
    by_cases e : p.1 = k
    · have e' : q.1 = k := h1.symm.trans e
      have b : atKey (q :: qs) k = some q.2 := by simp [atKey, List.find?_cons, e']
      rw [valV_pos e, b]; exact h2
    · have e' : ¬ q.1 = k := fun z => e (h1.trans z)
      have b : atKey (q :: qs) k = atKey qs k := by simp [atKey, List.find?_cons, e']
      rw [valV_neg e, b]; exact ih
theorem KT.repl {H : Hp} {kvs : List (List Key × V)} {xs : List (List Key × Addr × Value)} (r : KT H kvs xs) (k : List Key) {y : V} {u : Value} (ry : RelV y u) :
    KT H (kvs.map fun kv => if kv.1 = k then (kv.1, y) else kv) (xs.map (putAt k u)) := by
  induction r with
  | nil => exact .nil
  | @cons p q ps qs h t ih =>
    rw [List.map_cons, List.map_cons]
    refine .cons ?_ ih
    obtain ⟨h1, h2, h3⟩ := h
    unfold putAt
    by_cases e : p.1 = k
    · rw [if_pos e, if_pos (h1.symm.trans e)]; exact ⟨h1, h2, ry⟩
    · rw [if_neg e, if_neg (fun z => e (h1.trans z))]; exact ⟨h1, h2, h3⟩
theorem KT.put {H : Hp} {kvs : List (List Key × V)} {xs : List (List Key × Addr × Value)} (r : KT H kvs xs) (k : List Key) {b : Addr} {y : V} {u : Value} (hb : H b = some (.tup (k.map kV))) (ry : RelV y u) :
    KT H (putK kvs k y) (storedH xs k b u) := by
  have e : (kvs.any fun kv => decide (kv.1 = k)) = (atKey xs k).isSome := by
    rw [valV_any, (r.val k).isSome_eq, Option.isSome_map]
  unfold putK storedH
  rw [e]
  by_cases q : (atKey xs k).isSome = true
  · rw [if_pos q, if_pos q]; exact r.repl k ry
  · rw [if_neg q, if_neg q]; exact Paired.snoc r ⟨rfl, hb, ry⟩
theorem KT.keeps {H H' : Hp} {kvs : List (List Key × V)} {xs : List (List Key × Addr × Value)} (r : KT H kvs xs) (ht : ∀ b ys, H b = some (.tup ys) → H' b = some (.tup ys)) : KT H' kvs xs :=
  Paired.mapP r fun _ _ z => ⟨z.1, ht _ _ z.2.1, z.2.2⟩

section
variable {P : Program} {w : World} {H : Hp} {h : Heap} {a : Addr}
theorem rd_of {u : HO} (ok : HOk P w H h) (e : Rd H a u) : ObjOk P w H h a u := e.ok ok
theorem dk_rd {kvs : List (Key × V)} (ok : HOk P w H h) (e : RdK H a kvs) : kvs.length ≤ sizeLine ∧ (a == sysModules) = false ∧ ∃ vs, KV kvs vs ∧ h.DictOf (mixKind P w) a vs :=
  let ⟨ep, e⟩ := e; let ⟨z, y, vs, r, d⟩ := (show ObjOk P w H h a (.dK kvs ep) from rd_of ok e); ⟨z, y, vs, r, d.dictOf⟩
theorem dk_of {kvs : List (Key × V)} (ok : HOk P w H h) (e : HK H a kvs) : kvs.length ≤ sizeLine ∧ (a == sysModules) = false ∧ ∃ vs, KV kvs vs ∧ h.DictOf (mixKind P w) a vs := dk_rd ok e.rd
theorem key_of {ks : List Key} (ok : HOk P w H h) (e : H a = some (.tup (ks.map kV))) : (tupleKind (mixKind P w)).is h ks a := by
  obtain ⟨_, its, r, o, h1, h2, n, h3⟩ := (show ObjOk P w H h a (.tup (ks.map kV)) from ok a _ e)
  exact ⟨o, its.toArray, n, h1, h2, h3, by simpa using items_are r⟩
theorem dt_rd {kvs : List (List Key × V)} (ok : HOk P w H h) (e : RdT H a kvs) : kvs.length ≤ sizeLine ∧ (a == sysModules) = false ∧
    ∃ xs, KT H kvs xs ∧ h.DictOfH (tupleKind (mixKind P w)) a xs := by
  obtain ⟨ep, bs, e⟩ := e
  obtain ⟨z, y, xs, r, o, es, h1, h2, h3, h4, h5, _⟩ := (show ObjOk P w H h a (.dT kvs ep bs) from rd_of ok e)
  refine ⟨z, y, xs, r, o, es, ep, h1, h2, h3, h4, fun x hx => ?_, h5⟩
  have all : ∀ {l : List (List Key × V)} {m : List (List Key × Addr × Value)}, KT H l m → ∀ x ∈ m, (tupleKind (mixKind P w)).is h x.1 x.2.1 := by
    intro l m q
    induction q with
    | nil => intro x hx; exact nomatch hx
    | @cons p q ps qs hq t ih =>
      intro x hx
      rcases List.mem_cons.mp hx with e | hx
      · subst e
        exact key_of ok (by rw [← hq.1]; exact hq.2.1)
      · exact ih x hx
  exact all r x hx
theorem dt_of {kvs : List (List Key × V)} (ok : HOk P w H h) (e : HTt H a kvs) : kvs.length ≤ sizeLine ∧ (a == sysModules) = false ∧
    ∃ xs, KT H kvs xs ∧ h.DictOfH (tupleKind (mixKind P w)) a xs := dt_rd ok e.rd
end

noncomputable def DGet (H : Hp) (a : Addr) (y : V) (r : Option V) : Prop :=
  (∃ kvs k, RdK H a kvs ∧ y = kV k ∧ r = valV kvs k) ∨ ∃ kvs k b, RdT H a kvs ∧ y = .ref b ∧ H b = some (.tup (k.map kV)) ∧ r = valV kvs k
noncomputable def DPut (H : Hp) (a : Addr) (y v : V) (R : Hp → Prop) : Prop :=
  (∃ kvs k, HK H a kvs ∧ y = kV k ∧ kvs.length < sizeLine ∧ ∀ ep, R (upd H a (.dK (putK kvs k v) ep))) ∨
  ∃ kvs k b, HTt H a kvs ∧ y = .ref b ∧ H b = some (.tup (k.map kV)) ∧ kvs.length < sizeLine ∧ ∀ ep ep0 bs, H a = some (.dT kvs ep0 bs) → R (upd H a (.dT (putK kvs k v) ep (putB kvs bs k b)))
theorem DGet.k {H : Hp} {a : Addr} {kvs : List (Key × V)} {k : Key} (e : HK H a kvs) : DGet H a (kV k) (valV kvs k) := .inl ⟨kvs, k, e.rd, rfl, rfl⟩
theorem DGet.t {H : Hp} {a b : Addr} {kvs : List (List Key × V)} {k : List Key} (e : HTt H a kvs) (eb : H b = some (.tup (k.map kV))) : DGet H a (.ref b) (valV kvs k) := .inr ⟨kvs, k, b, e.rd, rfl, eb, rfl⟩
theorem DPut.k {H : Hp} {a : Addr} {kvs : List (Key × V)} {k : Key} {v : V} {R : Hp → Prop} (e : HK H a kvs) (hl : kvs.length < sizeLine) (h : ∀ ep, R (upd H a (.dK (putK kvs k v) ep))) : DPut H a (kV k) v R := .inl ⟨kvs, k, e, rfl, hl, h⟩
theorem DPut.t {H : Hp} {a b : Addr} {kvs : List (List Key × V)} {k : List Key} {v : V} {R : Hp → Prop} (e : HTt H a kvs) (eb : H b = some (.tup (k.map kV))) (hl : kvs.length < sizeLine) (h : ∀ ep ep0 bs, H a = some (.dT kvs ep0 bs) → R (upd H a (.dT (putK kvs k v) ep (putB kvs bs k b)))) :
    DPut H a (.ref b) v R := .inr ⟨kvs, k, b, e, rfl, eb, hl, h⟩


section
variable {X : Cx} {pins : List (Addr × Obj)} {σ : St} {H : Hp} {s : Shared} {a : Addr} {y v : V} {u r : Value} {o : Option V} {A : Around} {E : Value → Shared → Prop}

theorem Inv.big (I : Inv X pins σ H s) : sysModules < s.heap.objs.size := by
  have h : mainGlobals < s.heap.objs.size := (I.mod.glob.keeps I.bk).lt
  exact Nat.lt_trans (by decide) h

theorem d_getItem {Q : Value → Shared → Prop} (hu : A.units + 1 < cLine) (I : Inv X pins σ H s) (g : DGet H a y (some v)) (ry : RelV y u) (h : ∀ w' s', Inv X pins σ H s' → RelV v w' → Q w' s') :
    wpAny (model X.prog X.w) A (getItem (.ref a) u) Q E s := by
  rcases g with ⟨kvs, k, e, ey, l⟩ | ⟨kvs, k, b, e, ey, eb, l⟩
  · subst ey
    obtain ⟨z, hd, vs, rel, dd⟩ := dk_rd I.hok e
    obtain ⟨w', hw, rw'⟩ := RelO.some_of (v := v) (o := valueAt vs k) (by rw [l]; exact rel.val k)
    exact wpAny_getItem_of (kV_is ry) dd.mapOf hw (h w' _ (I.tok _) rw')
  · subst ey
    cases (show u = Value.ref b from ry)
    obtain ⟨z, hd, xs, rel, dd⟩ := dt_rd I.hok e
    obtain ⟨w', hw, rw'⟩ := RelO.some_of (v := v) (o := (atKey xs k).map (·.2)) (by rw [l]; exact rel.val k)
    obtain ⟨p, hp, hp2⟩ := Option.map_eq_some_iff.mp hw
    refine wpAny_getItem_heap (tupleKind_room_in1 hu) (key_of I.hok eb) dd hp ?_
    rw [hp2]
    exact h w' _ (I.tok _) rw'
theorem d_in {Q : Value → Shared → Prop} (hu : A.units + 1 < cLine) (I : Inv X pins σ H s) (g : DGet H a y o) (ry : RelV y u) (h : ∀ s', Inv X pins σ H s' → Q (.bool o.isSome) s') :
    wpAny (model X.prog X.w) A (compareOp .In u (.ref a)) Q E s := by
  rcases g with ⟨kvs, k, e, ey, l⟩ | ⟨kvs, k, b, e, ey, eb, l⟩
  · subst ey
    obtain ⟨z, hd, vs, rel, dd⟩ := dk_rd I.hok e
    refine wpAny_in_of (kV_is ry) hd dd.mapOf ?_
    rw [← (rel.val k).isSome_eq, ← l]
    exact h _ (I.tok _)
  · subst ey
    cases (show u = Value.ref b from ry)
    obtain ⟨z, hd, xs, rel, dd⟩ := dt_rd I.hok e
    refine wpAny_in_heap (tupleKind_room_in1 hu) (key_of I.hok eb) hd dd ?_
    have q := (rel.val k).isSome_eq
    rw [Option.isSome_map] at q
    rw [← q, ← l]
    exact h _ (I.tok _)
theorem d_notIn {Q : Value → Shared → Prop} (hu : A.units + 1 < cLine) (I : Inv X pins σ H s) (g : DGet H a y o) (ry : RelV y u) (h : ∀ s', Inv X pins σ H s' → Q (.bool (!o.isSome)) s') :
    wpAny (model X.prog X.w) A (compareOp .NotIn u (.ref a)) Q E s := by
  rcases g with ⟨kvs, k, e, ey, l⟩ | ⟨kvs, k, b, e, ey, eb, l⟩
  · subst ey
    obtain ⟨z, hd, vs, rel, dd⟩ := dk_rd I.hok e
    refine wpAny_notIn_of (kV_is ry) hd dd.mapOf ?_
    rw [← (rel.val k).isSome_eq, ← l]
    exact h _ (I.tok _)
  · subst ey
    cases (show u = Value.ref b from ry)
    obtain ⟨z, hd, xs, rel, dd⟩ := dt_rd I.hok e
    refine wpAny_notIn_heap (tupleKind_room_in1 hu) (key_of I.hok eb) hd dd ?_
    have q := (rel.val k).isSome_eq
    rw [Option.isSome_map] at q
    rw [← q, ← l]
    exact h _ (I.tok _)
theorem d_write {h' : Heap} {t' : Nat} {ob : HO} (I : Inv X pins σ H s) (mu : Mut (H a)) (hs : Heap.SameBut a s.heap h') (he : ∃ q, h'.get? a = some q) (new : ObjOk X.prog X.w (upd H a ob) h' a ob) :
    Inv X pins σ (upd H a ob) { s with heap := h', toks := t' } :=
  I.write (x := a) (e := a) mu (.inl rfl) (fun b q hb z => (hs.2 b hb).trans z) he new
theorem dk_new {P : Program} {w : World} {h' : Heap} {kvs : List (Key × V)} {vs : List (Key × Value)} (z : kvs.length ≤ sizeLine) (hd : (a == sysModules) = false) (rel : KV kvs vs) (dd : h'.DictOf (mixKind P w) a vs) :
    ∃ ep, ∀ H' : Hp, ObjOk P w H' h' a (.dK kvs ep) := let ⟨ep, dd⟩ := dd.dictAt; ⟨ep, fun _ => ⟨z, hd, vs, rel, dd⟩⟩
theorem d_setItem {R : Hp → Prop} {Q : Unit → Shared → Prop} (hu : A.units + 1 < cLine) (I : Inv X pins σ H s) (g : DPut H a y v R) (ry : RelV y u) (rv : RelV v r) (h : ∀ H' s', R H' → Inv X pins σ H' s' → Q () s') :
    wpAny (model X.prog X.w) A (setItem (.ref a) u r) Q E s := by
  rcases g with ⟨kvs, k, e, ey, l, eH⟩ | ⟨kvs, k, b, e, ey, eb, l, eH⟩
  · subst ey
    obtain ⟨z, hd, vs, rel, dd⟩ := dk_of I.hok e
    have hz : vs.length ≤ sizeLine := by rw [← rel.length]; exact z
    have hl : (putK kvs k v).length ≤ sizeLine := by have := length_putK kvs k v; omega
    refine wpAny_setItem_pairs (hsz := hz) (kV_is ry) dd fun h' dd' hs => ?_
    have he : ∃ q, h'.get? a = some q := let ⟨q, _, _, hq, _⟩ := dd'; ⟨q, hq⟩
    obtain ⟨ep, ok⟩ := dk_new hl hd (rel.put k rv) dd'
    exact h _ _ (eH ep) (d_write I (by obtain ⟨e0, e⟩ := e; rw [e]; exact True.intro) hs he (ok _))
  · subst ey
    cases (show u = Value.ref b from ry)
    obtain ⟨z, hd, xs, rel, dd⟩ := dt_of I.hok e
    have hz : xs.length ≤ sizeLine := by rw [← Paired.length rel]; exact z
    have hl : (putK kvs k v).length ≤ sizeLine := by have := length_putK kvs k v; omega
    refine wpAny_setItem_heap (hsz := hz) (tupleKind_room_in1 hu) (key_of I.hok eb) dd fun h' dd' hs => ?_
    obtain ⟨q, es, ep, hq, h2, h3, h4, _, h5⟩ := dd'
    obtain ⟨e0, bs, e⟩ := e
    have hb : (xs.map fun x => x.2.1) = bs := by
      obtain ⟨_, _, xs', r', _, _, w1, _, w3, w4, _, w6⟩ := (show ObjOk X.prog X.w H s.heap a (.dT kvs e0 bs) from I.hok a _ e)
      obtain ⟨_, _, _, y1, _, y3, y4, _⟩ := dd
      rw [w1] at y1; cases y1
      rw [w3] at y3; cases y3
      have : xs'.map (fun x => x.2.1) = xs.map fun x => x.2.1 := by
        have z := congrArg (List.map DictEntry.key) (w4.symm.trans y4)
        rw [List.map_map, List.map_map] at z
        have inj : ∀ {l m : List (List Key × Addr × Value)}, l.map (DictEntry.key ∘ entryOfKey (tupleKind (mixKind X.prog X.w))) = m.map (DictEntry.key ∘ entryOfKey (tupleKind (mixKind X.prog X.w))) → (l.map fun x => x.2.1) = m.map fun x => x.2.1 := by
          intro l
          induction l with
          | nil => intro m z; cases m with
            | nil => rfl
            | cons _ _ => cases z
          | cons x l ih => intro m z; cases m with
            | nil => cases z
            | cons y m =>
              rw [List.map_cons, List.map_cons] at z ⊢
              injection z with z1 z2
              have z1' : Value.ref x.2.1 = Value.ref y.2.1 := z1
              injection z1' with z1'
              rw [z1', ih z2]
        exact inj z
      rw [← this]; exact w6
    have hb2 : ((storedH xs k b r).map fun x => x.2.1) = putB kvs bs k b := by
      have ee : (kvs.any fun kv => decide (kv.1 = k)) = (atKey xs k).isSome := by
        rw [valV_any, (rel.val k).isSome_eq, Option.isSome_map]
      unfold putB storedH
      rw [ee]
      by_cases qq : (atKey xs k).isSome = true
      · rw [if_pos qq, if_pos qq, List.map_map, ← hb]
        refine List.map_congr_left fun x _ => ?_
        show (putAt k r x).2.1 = x.2.1
        unfold putAt
        split <;> rfl
      · rw [if_neg qq, if_neg qq, List.map_append, hb]; rfl
    refine h _ _ (eH ep e0 bs e) (d_write I (by rw [e]; exact True.intro) hs ⟨q, hq⟩ ⟨hl, hd, _, (rel.put k eb rv).keeps fun c ys ec => ?_, q, es, hq, h2, h3, h4, h5, hb2⟩)
    rw [upd_ne (ne_of ec e (fun z => nomatch z))]
    exact ec
end

section
variable {X : Cx} {pins : List (Addr × Obj)} {σ : St} {H : Hp} {s : Shared} {a : Addr} {kvs : List (Key × V)} {k : Key} {u : Value} {A : Around} {E : Value → Shared → Prop}
theorem d_pop {v : V} {more : List Value} {Q : Value → Shared → Prop} (I : Inv X pins σ H s) (e : HK H a kvs) (ry : RelV (kV k) u) (l : valV kvs k = some v) (hm : more = [] ∨ ∃ x, more = [x])
    (h : ∀ ep w' s', Inv X pins σ (upd H a (.dK (dropK kvs k) ep)) s' → RelV v w' → Q w' s') : wpAny (model X.prog X.w) A (call (.builtin "dict.pop") (.ref a :: u :: more)) Q E s := by
  obtain ⟨z, hd, vs, rel, dd⟩ := dk_of I.hok e
  obtain ⟨w', hw, rw'⟩ := RelO.some_of (v := v) (o := valueAt vs k) (by rw [← l]; exact rel.val k)
  have hp : (keyPart u).isSome = true := by
    cases k with
    | inl i => obtain ⟨t, q⟩ := (show ∃ t, u = Value.int i t from ry); subst q; rfl
    | inr x => obtain ⟨t, q⟩ := (show ∃ t, u = Value.str x t from ry); subst q; rfl
  have ha : argsOk "dict.pop" ⟨.ref a :: u :: more, []⟩ := by
    rcases hm with q | ⟨x, q⟩
    · subst q; exact PySem.F.args_dict_pop_2 _ _
    · subst q; exact PySem.F.args_dict_pop_3 _ _ _
  refine call_meetsIn PySem.F.slot_dict_pop dd.typeIs PySem.F.entry_dict_pop ha (meets_dict_pop_there (mixKind X.prog X.w) a (kV_is ry) more hm hp)
    ⟨vs, w', dd, by rw [← rel.length]; exact z, hw, fun h' dd' hs => ?_⟩
  have he : ∃ q, h'.get? a = some q := let ⟨q, _, _, hq, _⟩ := dd'; ⟨q, hq⟩
  obtain ⟨ep, ok⟩ := dk_new (Nat.le_trans (dropK_le kvs k) z) hd (rel.drop k) dd'
  exact h ep w' _ (d_write I (by obtain ⟨e0, e⟩ := e; rw [e]; exact True.intro) hs he (ok _)) rw'
end


/-! ### readings and rules -/
noncomputable def NoSl (i : Expr) : Prop := ∀ ov iv, subscripted i false ov iv = operate [ov, iv] (getItem ov iv)
theorem subD_of {prog : Program} {w : World} {A : Around} {E : Value → Shared → Prop} {s : Shared} {env : Env} {value slice : Expr} {pos : Pos} {T id : String} {Q : Value → Shared → Prop}
    (hl : typeLookup (.type T) "__getitem__" = pure (some (.builtin id))) (hs : NoSl slice)
    (h : wpAny (model prog w) A (eval value env) (fun o s₁ => wpAny (model prog w) A (eval slice env) (fun i s₂ => s₂.TypeIs o T ∧ wpAny (model prog w) A (getItem o i) Q E s₂) E s₁) E s) :
    wpAny (model prog w) A (eval (.Subscript value slice pos) env) Q E s := by
  refine Subscript_ (wpAny_mono h (fun o s₁ h₁ => wpAny_mono h₁ (fun i s₂ h₂ => ?_) fun _ _ x => x) fun _ _ x => x)
  obtain ⟨hT, h₂⟩ := h₂
  unfold subscriptTail
  refine wpAny_bind ?_
  rw [getitemInPython_of_ne hT.not_modules]
  refine wpAny_bind (wpAny_specialOf hT hl ?_)
  have fin : wpAny (model prog w) A (subscripted slice false o i) (fun r s₃ => wpAny (model prog w) A (letTemporaryGo value o r >>= fun _ => pure r) Q E s₃) E s₂ := by
    rw [hs o i]
    exact wpAny_operating (wpAny_mono h₂ (fun r s₃ h₃ => wpAny_bind (wpAny_letTemporaryGo (wpAny_pure h₃))) fun _ _ x => x)
  first
    | exact wpAny_pure (wpAny_bind fin)
    | exact wpAny_bind (wpAny_pure (wpAny_bind fin))
    | exact wpAny_bind fin

theorem dict_typeIs {X : Cx} {pins : List (Addr × Obj)} {σ : St} {H : Hp} {s : Shared} {a : Addr} {y : V} {o : Option V} (I : Inv X pins σ H s) (g : DGet H a y o) : s.TypeIs (.ref a) "dict" := by
  rcases g with ⟨kvs, k, e, _, _⟩ | ⟨kvs, k, b, e, _, _, _⟩
  · obtain ⟨_, _, vs, _, dd⟩ := dk_rd I.hok e
    exact dd.typeIs
  · obtain ⟨_, _, xs, _, dd⟩ := dt_rd I.hok e
    exact dd.typeIs

noncomputable def tDGet (td ty : TE) : TE := fun σ H Q => td σ H fun x H1 => ty σ H1 fun y H2 => ∃ a v, x = .ref a ∧ DGet H2 a y (some v) ∧ Q v H2
noncomputable def tDIn (ty td : TE) : TE := fun σ H Q => ty σ H fun y H1 => td σ H1 fun x H2 => ∃ a o, x = .ref a ∧ DGet H2 a y o ∧ Q (.bl o.isSome) H2
noncomputable def tDNotIn (ty td : TE) : TE := fun σ H Q => ty σ H fun y H1 => td σ H1 fun x H2 => ∃ a o, x = .ref a ∧ DGet H2 a y o ∧ Q (.bl (!o.isSome)) H2
noncomputable def sDPut (td ty tv : TE) : TS := fun D σ H => tv σ H fun v H1 => td σ H1 fun x H2 => ty σ H2 fun y H3 => ∃ a, x = .ref a ∧ DPut H3 a y v (D.nx σ)
noncomputable def sDAug (td ty tv : TE) (rd : V → V → Hp → VK → Prop) : TS := fun D σ H => td σ H fun x H1 => ty σ H1 fun y H2 => ∃ a v, x = .ref a ∧ DGet H2 a y (some v) ∧
  tv σ H2 fun y2 H3 => rd v y2 H3 fun z H4 => DPut H4 a y z (D.nx σ)
noncomputable def sDDel (td ty : TE) : TS := fun D σ H => td σ H fun x H1 => ty σ H1 fun y H2 => ∃ a kvs k, x = .ref a ∧ HK H2 a kvs ∧ y = kV k ∧ (valV kvs k).isSome = true ∧ ∀ ep, D.nx σ (upd H2 a (.dK (dropK kvs k) ep))

section
variable {X : Cx} {o i e value : Expr} {pos pos' tpos : Pos} {td ty tv : TE}
theorem pe_dget (hu : X.A.units + 1 < cLine) (ho : PE X o td) (hi : PE X i ty) (hs : NoSl i) : PE X (.Subscript o i pos) (tDGet td ty) := by
  intro pins s σ H Q I h
  refine subD_of PySem.F.slot_dict_getitem.lookup hs (thn (ho pins s σ H _ I h) fun u s1 ⟨x, H1, I1, rx, q1⟩ => thn (hi pins s1 σ H1 _ I1 q1) fun iv s2 ⟨y, H2, I2, ry, a, v, ex, g, q2⟩ => ?_)
  subst ex
  obtain rfl : u = Value.ref a := rx
  exact ⟨dict_typeIs I2 g, d_getItem hu I2 g ry fun w' s3 I3 rw' => ⟨v, H2, I3, rw', q2⟩⟩
theorem ps_dput (hu : X.A.units + 1 < cLine) (ho : PE X o td) (hi : PE X i ty) (hv : PE X value tv) (hs : swapsWith value (some (.Subscript o i pos')) pos.line X.env = pure false) :
    PS X (.Assign [.Subscript o i pos'] value pos) (sDPut td ty tv) := by
  intro pins s σ H D I h
  refine wpAny_Assign_Subscript (thn (hv pins s σ H _ I h) fun r s1 ⟨v, H1, I1, rv, q1⟩ => thn (ho pins s1 σ H1 _ I1 q1) fun u s2 ⟨x, H2, I2, rx, q2⟩ => thn (hi pins s2 σ H2 _ I2 q2) fun iv s3 ⟨y, H3, I3, ry, a, ex, g⟩ => ?_) hs
  subst ex
  obtain rfl : u = Value.ref a := rx
  exact d_setItem hu I3 g ry rv fun H4 s4 q3 I4 => ⟨σ, H4, I4, q3⟩
end


/-! ### displays -/
theorem dk_empty {P : Program} {w : World} {H : Hp} (h : Heap) (hb : sysModules < h.objs.size) : ObjOk P w H (h.push { cls := .type "dict", data := .dict #[] }) h.objs.size (.dK [] 0) :=
  ⟨Nat.zero_le _, beq_eq_false_iff_ne.mpr (Ne.symm (Nat.ne_of_lt hb)), [], .nil, _, #[], Heap.get?_push_size _ rfl, ⟨rfl, rfl, rfl⟩, rfl, fun _ he => by simp at he, Pairs.nil, List.nodup_nil⟩
theorem dt_empty {P : Program} {w : World} {H : Hp} (h : Heap) (hb : sysModules < h.objs.size) : ObjOk P w H (h.push { cls := .type "dict", data := .dict #[] }) h.objs.size (.dT [] 0 []) :=
  ⟨Nat.zero_le _, beq_eq_false_iff_ne.mpr (Ne.symm (Nat.ne_of_lt hb)), [], .nil, _, #[], Heap.get?_push_size _ rfl, ⟨rfl, rfl, rfl⟩, rfl, rfl, List.nodup_nil, rfl⟩
noncomputable def tDNewK : TE := fun _ H Q => ∀ p, H p = none → Q (.ref p) (upd H p (.dK [] 0))
noncomputable def tDNewT : TE := fun _ H Q => ∀ p, H p = none → Q (.ref p) (upd H p (.dT [] 0 []))
section
variable {X : Cx} {pos : Pos}
theorem pe_dnewK : PE X (.Dict [] [] pos) tDNewK := fun pins s σ H Q I h =>
  wpAny_Dict_empty ⟨.ref s.heap.objs.size, _, I.laid (a := s.heap.objs.size) (o := .dK [] 0) (t' := s.toks) (fun _ _ q => Heap.get?_push_of_some _ q) (Nat.le_refl _) (dk_empty s.heap I.big), rfl, h _ (I.hok.fresh (Nat.le_refl _))⟩
theorem pe_dnewT : PE X (.Dict [] [] pos) tDNewT := fun pins s σ H Q I h =>
  wpAny_Dict_empty ⟨.ref s.heap.objs.size, _, I.laid (a := s.heap.objs.size) (o := .dT [] 0 []) (t' := s.toks) (fun _ _ q => Heap.get?_push_of_some _ q) (Nat.le_refl _) (dt_empty s.heap I.big), rfl, h _ (I.hok.fresh (Nat.le_refl _))⟩
end

noncomputable def tPairs : List (TE × TE) → St → Hp → (List (V × V) → Hp → Prop) → Prop
  | [], _, H, Q => Q [] H
  | (tk, tv) :: r, σ, H, Q => tk σ H fun x H1 => tv σ H1 fun y H2 => tPairs r σ H2 fun ps H3 => Q ((x, y) :: ps) H3
noncomputable abbrev VV : List (V × V) → List (Value × Value) → Prop := Paired fun p q => RelV p.1 q.1 ∧ RelV p.2 q.2
noncomputable def PPs (X : Cx) (pos : Pos) (keys : List (Option Expr)) (values : List Expr) (trs : List (TE × TE)) : Prop :=
  ∀ (pins : List (Addr × Obj)) (s : Shared) (σ : St) (H : Hp) (Q : List (V × V) → Hp → Prop), Inv X pins σ H s → tPairs trs σ H Q →
    wpAny (model X.prog X.w) X.A (evalPairs (pairTrees keys values X.env pos)) (fun vs s' => ∃ ps H', Inv X pins σ H' s' ∧ VV ps vs ∧ Q ps H') X.xe s
theorem pps_nil {X : Cx} {pos : Pos} : PPs X pos [] [] [] := fun pins s σ H Q I h => pairTrees_nil_walk ⟨[], H, I, .nil, h⟩
theorem pps_cons {X : Cx} {pos : Pos} {k v : Expr} {ks : List (Option Expr)} {vs : List Expr} {tk tv : TE} {trs : List (TE × TE)} (hk : PE X k tk) (hv : PE X v tv) (hr : PPs X pos ks vs trs) :
    PPs X pos (some k :: ks) (v :: vs) ((tk, tv) :: trs) := fun pins s σ H Q I h =>
  pairTrees_cons_walk (thn (hk pins s σ H _ I h) fun u s1 ⟨x, H1, I1, rx, q1⟩ => thn (hv pins s1 σ H1 _ I1 q1) fun w2 s2 ⟨y, H2, I2, ry, q2⟩ =>
    thn (hr pins s2 σ H2 _ I2 q2) fun ws s3 ⟨ps, H3, I3, rel, q3⟩ => ⟨(x, y) :: ps, H3, I3, .cons ⟨rx, ry⟩ rel, q3⟩)

noncomputable def mergeK (kvs more : List (Key × V)) : List (Key × V) := more.foldl (fun acc kv => putK acc kv.1 kv.2) kvs
theorem KV.merge : ∀ {more : List (Key × V)} {rs : List (Key × Value)} {kvs : List (Key × V)} {vs : List (Key × Value)}, KV more rs → KV kvs vs → KV (mergeK kvs more) (merged vs rs) := by
  intro more rs kvs vs r
  unfold KV at r
  induction r generalizing kvs vs with
  | nil => intro q; exact q
  | @cons p q ps qs h t ih =>
    intro r0
    have e : KV (putK kvs p.1 p.2) (stored vs q.1 q.2) := by
      have := r0.put p.1 h.2
      rw [← h.1]; exact this
    exact ih e
theorem length_mergeK : ∀ (more kvs : List (Key × V)), (mergeK kvs more).length ≤ kvs.length + more.length
  | [], kvs => by show kvs.length ≤ kvs.length + 0; omega
  | p :: r, kvs => by
    have h1 := length_mergeK r (putK kvs p.1 p.2)
    have h2 := length_putK kvs p.1 p.2
    show (mergeK (putK kvs p.1 p.2) r).length ≤ _
    rw [List.length_cons]; omega
theorem carries_of {P : Program} {w : World} : ∀ {kvs : List (Key × V)} {ws : List (Value × Value)}, VV (kvs.map fun kv => (kV kv.1, kv.2)) ws → ∃ rs, Carries (mixKind P w) ws rs ∧ KV kvs rs
  | [], _, r => by rw [List.map_nil] at r; cases r; exact ⟨[], True.intro, .nil⟩
  | p :: kvs, _, r => by
    rw [List.map_cons] at r
    cases r with
    | @cons a b as bs h t =>
      obtain ⟨rs, c, q⟩ := carries_of (P := P) (w := w) t
      obtain ⟨b1, b2⟩ := b
      exact ⟨(p.1, b2) :: rs, ⟨kV_is h.1, rfl, c⟩, .cons ⟨rfl, h.2⟩ q⟩
noncomputable def tDisp (trs : List (TE × TE)) : TE := fun σ H Q => ∀ p, H p = none → tPairs trs σ (upd H p (.dK [] 0)) fun ps H2 => H2 p = some (.dK [] 0) ∧ ∃ kvs : List (Key × V), ps = kvs.map (fun kv => (kV kv.1, kv.2)) ∧ kvs.length ≤ 15 ∧ ∀ ep, Q (.ref p) (upd H2 p (.dK (mergeK [] kvs) ep))
theorem pe_disp {X : Cx} {pos : Pos} {keys : List (Option Expr)} {values : List Expr} {trs : List (TE × TE)} (h : PPs X pos keys values trs) (hall : keys.all (·.isSome) = true) (hl : keys.length = values.length) (h0 : keys ≠ [])
    (h15 : keys.length ≤ 15) : PE X (.Dict keys values pos) (tDisp trs) := by
  intro pins s σ H Q I q
  have hn := I.hok.fresh (Nat.le_refl s.heap.objs.size)
  have I1 := I.laid (a := s.heap.objs.size) (o := .dK [] 0) (h' := s.heap.push { cls := .type "dict", data := .dict #[] }) (t' := s.toks) (fun _ _ q => Heap.get?_push_of_some _ q) (Nat.le_refl _) (dk_empty s.heap I.big)
  refine wpAny_Dict_walk (knd := mixKind X.prog X.w) hall hl h0 h15 (thn (h pins _ σ _ _ I1 (q _ hn)) fun ws s2 ⟨ps, H2, I2, rel, e, kvs, ep, lk, q2⟩ => ?_)
  subst ep
  obtain ⟨rs, c, rk⟩ := carries_of (P := X.prog) (w := X.w) rel
  obtain ⟨z, hd, vs0, r0, dd⟩ := dk_of I2.hok ⟨_, e⟩
  cases r0
  refine ⟨rs, c, dd, fun h' dd' hs => ?_⟩
  have hz : (mergeK [] kvs).length ≤ sizeLine := by
    have h1 := length_mergeK kvs []
    rw [List.length_nil] at h1
    rw [sizeLine_eq]; omega
  have he : ∃ q, h'.get? s.heap.objs.size = some q := let ⟨q, _, _, hq, _⟩ := dd'; ⟨q, hq⟩
  obtain ⟨ep, ok⟩ := dk_new hz hd (rk.merge .nil) dd'
  exact ⟨.ref s.heap.objs.size, _, d_write I2 (by rw [e]; exact True.intro) hs he (ok _), rfl, q2 ep⟩


/-! ### methods -/
structure M1 (X : Cx) (o : Expr) (m : Str) (apos : Pos) (e : Expr) (cpos : Pos) : Prop where
  base : attributeBase o m X.env (eval o X.env) = eval o X.env
  few : ((backTo cpos (starEach [e] X.env)).all (fun x => !x.1) && (backToKw cpos (keywordEach [] X.env)).all (fun x => x.1.isSome)
    && decide (([e] : List Expr).length + ([] : List Keyword).length + (if ([] : List Keyword).isEmpty then 0 else 1) < 30)) = true
  line : (apos.endLine == cpos.line) = true
  trees : backTo cpos (starEach [e] X.env) = [(false, eval e X.env)]
structure M2 (X : Cx) (o : Expr) (m : Str) (apos : Pos) (e f : Expr) (cpos : Pos) : Prop where
  base : attributeBase o m X.env (eval o X.env) = eval o X.env
  few : ((backTo cpos (starEach [e, f] X.env)).all (fun x => !x.1) && (backToKw cpos (keywordEach [] X.env)).all (fun x => x.1.isSome)
    && decide (([e, f] : List Expr).length + ([] : List Keyword).length + (if ([] : List Keyword).isEmpty then 0 else 1) < 30)) = true
  line : (apos.endLine == cpos.line) = true
  trees : backTo cpos (starEach [e, f] X.env) = [(false, eval e X.env), (false, eval f X.env)]

noncomputable def IsD (H : Hp) (a : Addr) : Prop := (∃ kvs, RdK H a kvs) ∨ ∃ kvs, RdT H a kvs
theorem isD_at {X : Cx} {pins : List (Addr × Obj)} {σ : St} {H : Hp} {s : Shared} {a : Addr} (I : Inv X pins σ H s) (d : IsD H a) :
    s.TypeIs (.ref a) "dict" ∧ (∀ b, Value.ref a = .ref b → ∃ ob, s.heap.get? b = some ob ∧ ob.dict = none) ∧ (a == sysModules) = false := by
  rcases d with ⟨kvs, e⟩ | ⟨kvs, e⟩
  · obtain ⟨_, hd, vs, _, dd⟩ := dk_rd I.hok e
    refine ⟨dd.typeIs, fun b q => ?_, hd⟩
    cases q
    obtain ⟨ob, _, _, h1, h2, _⟩ := dd
    exact ⟨ob, h1, h2.2.1⟩
  · obtain ⟨_, hd, xs, _, dd⟩ := dt_rd I.hok e
    refine ⟨dd.typeIs, fun b q => ?_, hd⟩
    cases q
    obtain ⟨ob, _, _, h1, h2, _⟩ := dd
    exact ⟨ob, h1, h2.2.1⟩

section
variable {X : Cx} {pins : List (Addr × Obj)} {σ : St} {H : Hp} {s : Shared} {a : Addr} {y d : V} {u r : Value} {o : Option V} {A : Around} {E : Value → Shared → Prop}
theorem d_get1 {Q : Value → Shared → Prop} (hu : A.units + 1 < cLine) (I : Inv X pins σ H s) (g : DGet H a y o) (ry : RelV y u) (h : ∀ w' s', Inv X pins σ H s' → RelV (o.getD .non) w' → Q w' s') :
    wpAny (model X.prog X.w) A (call (.builtin "dict.get") [.ref a, u]) Q E s := by
  rcases g with ⟨kvs, k, e, ey, l⟩ | ⟨kvs, k, b, e, ey, eb, l⟩
  · subst ey
    obtain ⟨z, hd, vs, rel, dd⟩ := dk_rd I.hok e
    refine call_meetsIn PySem.F.slot_dict_get dd.typeIs PySem.F.entry_dict_get (PySem.F.args_dict_get_2 _ _) (meets_dict_get (mixKind X.prog X.w) a (kV_is ry) hd) ⟨_, dd.mapOf, h _ _ (I.tok _) ?_⟩
    rw [l]
    exact (rel.val k).getD rfl
  · subst ey
    cases (show u = Value.ref b from ry)
    obtain ⟨z, hd, xs, rel, dd⟩ := dt_rd I.hok e
    refine call_meetsIn PySem.F.slot_dict_get dd.typeIs PySem.F.entry_dict_get (PySem.F.args_dict_get_2 _ _) (meetsH_dict_get (tupleKind (mixKind X.prog X.w)) a b hd) ⟨tupleKind_room_in1 hu, k, xs, key_of I.hok eb, dd, h _ _ (I.tok _) ?_⟩
    rw [l]
    exact (rel.val k).getD rfl
theorem d_get2 {Q : Value → Shared → Prop} (hu : A.units + 1 < cLine) (I : Inv X pins σ H s) (g : DGet H a y o) (ry : RelV y u) (rd : RelV d r) (h : ∀ w' s', Inv X pins σ H s' → RelV (o.getD d) w' → Q w' s') :
    wpAny (model X.prog X.w) A (call (.builtin "dict.get") [.ref a, u, r]) Q E s := by
  rcases g with ⟨kvs, k, e, ey, l⟩ | ⟨kvs, k, b, e, ey, eb, l⟩
  · subst ey
    obtain ⟨z, hd, vs, rel, dd⟩ := dk_rd I.hok e
    refine call_meetsIn PySem.F.slot_dict_get dd.typeIs PySem.F.entry_dict_get (PySem.F.args_dict_get_3 _ _ _) (meets_dict_get_default (mixKind X.prog X.w) a (kV_is ry) hd r) ⟨_, dd.mapOf, h _ _ (I.tok _) ?_⟩
    rw [l]
    exact (rel.val k).getD rd
  · subst ey
    cases (show u = Value.ref b from ry)
    obtain ⟨z, hd, xs, rel, dd⟩ := dt_rd I.hok e
    refine call_meetsIn PySem.F.slot_dict_get dd.typeIs PySem.F.entry_dict_get (PySem.F.args_dict_get_3 _ _ _) (meetsH_dict_get_default (tupleKind (mixKind X.prog X.w)) a b hd r) ⟨tupleKind_room_in1 hu, k, xs, key_of I.hok eb, dd, h _ _ (I.tok _) ?_⟩
    rw [l]
    exact (rel.val k).getD rd
end

noncomputable def tDGet1 (td ty : TE) : TE := fun σ H Q => td σ H fun x H1 => ∃ a, x = .ref a ∧ IsD H1 a ∧ ty σ H1 fun y H2 => ∃ o, DGet H2 a y o ∧ Q (o.getD .non) H2
noncomputable def tDGet2 (td ty tx : TE) : TE := fun σ H Q => td σ H fun x H1 => ∃ a, x = .ref a ∧ IsD H1 a ∧ ty σ H1 fun y H2 => tx σ H2 fun z H3 => ∃ o, DGet H3 a y o ∧ Q (o.getD z) H3
noncomputable def tDPop1 (td ty : TE) : TE := fun σ H Q => td σ H fun x H1 => ∃ a, x = .ref a ∧ IsD H1 a ∧ ty σ H1 fun y H2 => ∃ kvs k v, HK H2 a kvs ∧ y = kV k ∧ valV kvs k = some v ∧ ∀ ep, Q v (upd H2 a (.dK (dropK kvs k) ep))
noncomputable def tDPop2 (td ty tx : TE) : TE := fun σ H Q => td σ H fun x H1 => ∃ a, x = .ref a ∧ IsD H1 a ∧ ty σ H1 fun y H2 => tx σ H2 fun z H3 => ∃ kvs k, HK H3 a kvs ∧ y = kV k ∧
  (∀ v ep, valV kvs k = some v → Q v (upd H3 a (.dK (dropK kvs k) ep))) ∧ (valV kvs k = none → Q z H3)
section
variable {X : Cx} {o e f : Expr} {apos cpos : Pos} {td ty tx : TE}
theorem pe_dpop1 (ho : PE X o td) (he : PE X e ty) (m : M1 X o "pop" apos e cpos) : PE X (.Call (.Attribute o "pop" apos) [e] [] cpos) (tDPop1 td ty) := by
  intro pins s σ H Q I h
  refine wpAny_Call_method m.base m.few m.line PySem.F.plainAttrs_dict PySem.F.slot_dict_pop PySem.F.type_dict_pop (thn (ho pins s σ H _ I h) fun u s1 ⟨x, H1, I1, rx, a, ex, d, q1⟩ => ?_)
  subst ex
  obtain rfl : u = Value.ref a := rx
  obtain ⟨t1, t2, _⟩ := isD_at I1 d
  refine ⟨t1, t2, ?_⟩
  rw [m.trees]
  refine Calls.callWith_builtin rfl (Calls.evalArgs_plain (Calls.spliced_cons (thn (he pins s1 σ H1 _ I1 q1) fun iv s2 ⟨y, H2, I2, ry, kvs, k, v, ea, ey, l, q2⟩ => Calls.spliced_nil ?_)))
  subst ey
  exact d_pop I2 ea ry l (.inl rfl) fun ep w' s3 I3 rw' => ⟨v, _, I3, rw', q2 ep⟩
end

/-! ### dict(d): a copy -/
section
variable {X : Cx} {pins : List (Addr × Obj)} {σ : St} {H : Hp} {s : Shared} {a : Addr} {kvs : List (Key × V)} {A : Around} {E : Value → Shared → Prop}
theorem d_copyOf {Q : Value → Shared → Prop} (I : Inv X pins σ H s) (e : RdK H a kvs) (h : ∀ p ep s', H p = none → Inv X pins σ (upd H p (.dK kvs ep)) s' → Q (.ref p) s') : wpAny (model X.prog X.w) A (call (.type "dict") [.ref a]) Q E s := by
  obtain ⟨z, hd, vs, rel, dd⟩ := dk_rd I.hok e
  refine kt_call_dict hd dd (by rw [← rel.length]; exact z) fun h' dd' hs => ?_
  obtain ⟨ep, ok⟩ := dk_new z (beq_eq_false_iff_ne.mpr (Ne.symm (Nat.ne_of_lt I.big))) rel dd'
  refine h _ ep _ (I.hok.fresh (Nat.le_refl _)) (I.laid (a := s.heap.objs.size) (o := .dK kvs ep) (t' := s.toks) (fun b q hq => ?_) (Nat.le_refl _) (ok _))
  exact (hs.2 b (Nat.ne_of_lt (Heap.lt_size hq))).trans (Heap.get?_push_of_some _ hq)
end


section
variable {X : Cx} {pins : List (Addr × Obj)} {σ : St} {H : Hp} {s : Shared} {a : Addr} {y : V} {u : Value} {A : Around} {E : Value → Shared → Prop}
end
end L2

namespace Att
open PySem PySem.W PySem.Calls PyProof.Rows

/-! ### the script -/
theorem ints_of_wellAll {P : Params} {h : Heap} : ∀ (ns : List Int) (vs : List Value), WellAll P h vs (ns.map WData.int) → IntsAre vs ns := by
  intro ns
  induction ns with
  | nil =>
    intro vs w
    rw [List.map_nil] at w
    cases w
    exact .nil
  | cons n ns ih =>
    intro vs w
    rw [List.map_cons] at w
    cases w with
    | cons a b =>
      cases a
      exact .cons _ _ (ih _ b)

theorem script_of {l : OpenLaw} {n : Nat} (hn : l.most = some n) {P : Params} {h : Heap} {args : List WData} {vals : List Value}
    (hpre : l.row.toRowW.claim.pre args = true) (hwl : WellAll P h vals args) :
    ∃ a vs ns, vals = [Value.ref a] ∧ args = [WData.list (ns.map WData.int)] ∧ h.get? a = some { cls := .type "list", data := .seq vs.toArray } ∧ IntsAre vs ns ∧ ns.length ≤ n := by
  have hsh : WShape.hasAll [] args [.list .int] = true := (pre_splitW hpre).1
  have hc : l.pre.holds [] { args := args } = true := (pre_splitW hpre).2
  obtain ⟨d, r, rfl, h1, h2⟩ := hasAllW_cons hsh
  obtain rfl := hasAllW_nil h2
  obtain ⟨xs, rfl, h3⟩ := hasW_list h1
  obtain ⟨ns, rfl⟩ := items_int h3
  have hlen : ns.length ≤ n := by
    unfold OpenLaw.pre at hc
    have h4 : (WTm.not (.lt (.lit (.int (n : Int))) (.len (.arg 0)))).holds [] { args := [.list (ns.map .int)] } = true := by
      have h4 := (holds_andW hc).1
      rw [hn] at h4
      exact h4
    have h5 := condW_of h4 (w_not (w_lt w_lit (w_len_list (w_arg rfl))))
    rw [List.length_map] at h5
    refine Nat.le_of_not_lt fun q => ?_
    have q' : (n : Int) < ((ns.length : Nat) : Int) := by omega
    first
      | (rw [decide_eq_true q'] at h5; exact absurd h5 (by decide))
      | (simp at h5; omega)
  cases hwl with
  | cons w1 w2 =>
    cases w2
    cases w1 with
    | list ho hall => exact ⟨_, _, ns, rfl, rfl, ho, ints_of_wellAll ns _ hall, hlen⟩

theorem post_true (l : OpenLaw) (args : List WData) : l.row.toRowW.claim.post args (.bool true) args = true :=
  postW_of (r := l.row.toRowW) (X := (true == true))
    (show WShape.has [] (.bool true) .bool = true by first | rfl | decide | simp [WShape.has, WShape.arms, WShape.armsAll])
    (show (WTm.eq .res (.lit (.bool true))).value [] { args := args, res := some (.bool true), after := args } = some (.bool (true == true)) from w_eq_bool (w_res rfl) w_lit) rfl

/-! ### the attachment: holds_open's last premise (the goal 'hc' behind k_head) from a wpAny of the law's body -/

theorem attach_call {l : OpenLaw} {n : Nat} {q : Program} {loose : List Str} {XP : (Str → Option Value) → Heap → Prop} {YP : World → Heap → Prop} {d : DefRec}
    (hn : l.most = some n) (hdf : d.params.defaults = [])
    (call : ∀ (w : World) (s₀ s₁ : Shared) (mg mb : Str → Option Value) (fa : Addr) (o : Obj) (pm cd doc : Value) (a : Addr) (vs : List Value) (ns : List Int),
      Ground q loose [] XP w s₀ mg mb s₁.heap → YP w s₁.heap →
      s₁.heap.get? fa = some o → o.data = .func (docDef d.name d.params d.body d.scope pm cd doc) → s₁.heap.CodeRec cd d.name → mg d.name = some (.ref fa) →
      s₁.heap.get? a = some { cls := .type "list", data := .seq vs.toArray } → IntsAre vs ns → ns.length ≤ n → s₁.gens = #[] →
      codeAny (model l.prog w) callerA (.call (.ref fa) ⟨[.ref a], []⟩) (fun r s' => r = .ok (.ret (.bool true)) ∧ OldK s₁.heap s'.heap ∧ s'.os = s₁.os ∧ AllBare s'.gens) s₁) :
    WalkO q loose XP YP l.row.toRowW d [] (fun f vs => PySem.call f vs) := by
  intro w s₀ s₁ mg mb G Y fa o pm cd doc dV kV ho hd hcd hD hmg hg args vals as hpre hlay hrd hwl hlo
  obtain rfl : dV = .none := Dflts.none hD hdf
  obtain rfl : kV = .none := Dflts.noKw hD
  obtain ⟨a, vs, ns, rfl, rfl, hobj, hints, hlen⟩ := script_of hn hpre hwl
  refine enter_call (codeAny_mono (call w s₀ s₁ mg mb fa o pm cd doc a vs ns G Y ho (fd_plain hd) hcd hmg hobj hints hlen hg) fun r s' hq => ?_)
  obtain ⟨rfl, h2, h3, h4⟩ := hq
  exact ⟨.inl ⟨.bool true, .bool true, [], rfl, fun _ => rfl, .bool true, post_true l _, fun _ => ⟨List.Pairwise.nil, fun _ hm => (nomatch hm)⟩⟩, h2, h3, h4⟩


/-! ### rules over ANY heap (no ledger) from facts about the written part K: the library's own take a ledger (News) for what they write -/
section
variable {prog : Program} {w : World} {A : Around} {E : Value → Shared → Prop} {s : Shared} {K : Frag}





/-! the whole heap as the ledger: makes every rule that writes through a ledger a rule over any heap -/
noncomputable def noObjs (h : Heap) : Heap := { h with objs := #[] }
noncomputable def ledger (h : Heap) (L d : Addr) : List (Addr × Obj) := (List.range h.objs.size).filterMap fun a => if a = L ∨ a = d then none else (h.get? a).map fun o => (a, o)

end
end Att

namespace L2
open PySem PySem.Spec PyProof.Rows

theorem vals_ints : ∀ {vs : List Value} {ns : List Int}, IntsAre vs ns → Vals (ns.map V.int) vs
  | _, _, .nil => .nil
  | _, _, .cons n t h => .cons ⟨t, rfl⟩ (vals_ints h)

noncomputable def Only (H : Hp) : Prop := ∀ b, H b = none ∨ ∃ o xs, H b = some (.frz o (.lst xs))

theorem law_call {P : Program} {w : World} {K : PySem.W.Frag} {mg mb : Str → Option Value} {CX : CXT} {k : Nat} {fa a : Addr} {fd : FuncData} {x : Str} {sp : Sp} {s₁ : Shared} {vs : List Value} {ns : List Int}
    (KX : K.In s₁.heap) (hns : s₁.heap.Ns mainGlobals mg) (hb : s₁.heap.Ns builtinsNs mb) (hbb : ∀ x : Str, x ≠ "__name__" → mb x = bootBuiltins x) (hlim : s₁.heap.NoLimit) (hg : s₁.gens = #[])
    (ha : s₁.heap.get? a = some { cls := .type "list", data := .seq vs.toArray }) (hi : IntsAre vs ns) (hl : ns.length ≤ sizeLine) (hr : Room k callerA)
    (F : ∀ base : Heap, K.In base → base.Ns mainGlobals mg → FnOk P w K mg base CX k fa fd [x] sp) (hbind : ∀ (s : Shared) (u : Value), BindsTo s fd ⟨[u], []⟩ [(x, u)])
    (hsp : ∀ H : Hp, Only H → SqL K H a (ns.map V.int) → sp [.ref a] H (fun v _ => v = .bl true) fun _ _ _ => False)
    (hCX : ∀ H e s', CX [] H s₁ (fun _ _ _ => False) e s' → False) :
    codeAny (model P w) callerA (.call (.ref fa) ⟨[.ref a], []⟩) (fun r s' => r = .ok (.ret (.bool true)) ∧ OldK s₁.heap s'.heap ∧ s'.os = s₁.os ∧ AllBare s'.gens) s₁ := by
  have rv := vals_ints hi
  have lenV := hi.length
  -- from an abstract heap in which nothing but the script may be tracked
  have core : ∀ H : Hp, Only H → SqL K H a (ns.map V.int) → HOk P w H s₁.heap → (∀ b, H b ≠ none → b = a) → (H a ≠ none → K.lookup a = none) →
      codeAny (model P w) callerA (.call (.ref fa) ⟨[.ref a], []⟩) (fun r s' => r = .ok (.ret (.bool true)) ∧ OldK s₁.heap s'.heap ∧ s'.os = s₁.os ∧ AllBare s'.gens) s₁ := by
    intro H hO hS hok hA hK
    have base_of : ∀ {b : Addr} {o : Obj}, s₁.heap.get? b = some o → H b = none → (hidT s₁.heap H).get? b = some o := fun e n => hidT_get e n
    have noA : ∀ {b : Addr} {o : Obj} {es : Array DictEntry} {ep : Nat}, s₁.heap.get? b = some o → o.data = .dict es ep → H b = none := fun {b o es ep} e d => by
      cases q : H b with
      | none => rfl
      | some u =>
        have e' : b = a := hA b (by rw [q]; simp)
        subst e'
        rw [ha] at e; cases e
        have d' : Data.seq vs.toArray _ = Data.dict es ep := d
        cases d'
    have nsK : ∀ {b : Addr} {m : Str → Option Value}, s₁.heap.Ns b m → (hidT s₁.heap H).Ns b m := fun {b m} ⟨o, es, ep, e, d, r⟩ => ⟨o, es, ep, base_of e (noA e d), d, r⟩
    have hKb : K.In (hidT s₁.heap H) := fun b o e => base_of (KX b o e) (by
      cases q : H b with
      | none => rfl
      | some u =>
        have e' : b = a := hA b (by rw [q]; simp)
        subst e'
        rw [hK (by rw [q]; simp)] at e; cases e)
    have hM : Mod K mg (hidT s₁.heap H) := ⟨hKb, nsK hns, ⟨mb, nsK hb, hbb⟩, let ⟨mc, h1, h2⟩ := hlim; ⟨mc, nsK h1, h2⟩⟩
    have e0 : Env0 P w K mg (hidT s₁.heap H) callerA [] s₁ H := ⟨rfl, hM, fun b o e => of_hidT e, Nat.le_of_eq (hidT_size _ _), trivial, fun b hb => absurd (show b ∈ ([] : List Addr) from hb) (by simp), hok, .of_eq hg⟩
    refine codeAny_mono ((F _ hKb (nsK hns)).run callerA [] s₁ H ⟨[.ref a], []⟩ [.ref a] [.ref a] _ _ hr e0 (hbind s₁ (.ref a)) (.cons rfl .nil) (hsp H hO hS)) fun r s' h => ?_
    cases r with
    | error e => exact (hCX H e s' h).elim
    | ok fl =>
      cases fl with
      | next => exact False.elim h
      | brk => exact False.elim h
      | cont => exact False.elim h
      | ret u =>
        obtain ⟨v, H', os, bare, un, hok', r', q⟩ := h
        have q' : v = .bl true := q
        subst q'
        obtain rfl : u = Value.bool true := r'
        refine ⟨rfl, OldK.of_keep fun b o e => ?_, os, bare⟩
        cases q : H b with
        | none => exact un.keep b o e q (by intro z; exact absurd (show b ∈ ([] : List Addr) from z) (by simp)) (by simp)
        | some u =>
          rcases hO b with z | ⟨ob, xs, z⟩
          · rw [q] at z; cases z
          · have z2 := un.frzs b ob _ z
            obtain ⟨e1, _⟩ := hok b _ z
            obtain ⟨e2, _⟩ := hok' b _ z2
            rw [e] at e1; cases e1
            exact e2
  cases hk : K.lookup a with
  | some o =>
    -- the script is one of the module's own objects
    have e := KX a o hk
    rw [ha] at e
    cases e
    refine core (fun _ => none) (fun _ => .inl rfl) (.inr ⟨_, vs.toArray, _, hk, rfl, rfl, rfl, by rw [List.size_toArray, lenV]; exact hl, by simpa using rv⟩) (fun b u z => by have z' : (none : Option HO) = some u := z; cases z') (fun b z => absurd rfl z) fun z => absurd rfl z
  | none =>
    refine core (fun b => if b = a then some (.frz { cls := .type "list", data := .seq vs.toArray } (.lst (ns.map V.int))) else none) (fun b => ?_) (.inl (.inr ⟨{ cls := .type "list", data := .seq vs.toArray }, if_pos rfl⟩)) (fun b u z => ?_) (fun b z => ?_) fun _ => hk
    · by_cases hb : b = a
      · exact .inr ⟨_, _, if_pos hb⟩
      · exact .inl (if_neg hb)
    · by_cases hb : b = a
      · have z' := (if_pos hb).symm.trans z
        cases z'
        subst hb
        exact ⟨ha, by rw [List.length_map]; exact hl, vs, _, rv, ha⟩
      · have z' := (if_neg hb).symm.trans z
        cases z'
    · by_cases hb : b = a
      · exact hb
      · exact absurd (if_neg hb) z
end L2

namespace L2
open PySem PySem.Spec PyProof.Rows

noncomputable abbrev KOf {K : PySem.W.Frag} {h : Heap} (_ : K.In h) : PySem.W.Frag := K

theorem walk_of {l : PySem.W.OpenLaw} {n k : Nat} {q : Program} {loose : List Str} {XP : (Str → Option Value) → Heap → Prop} {YP : World → Heap → Prop} {d : DefRec} {K : Params → PySem.W.Frag} {CX : World → CXT} {sp : World → Sp} {x : Str}
    (hn : l.most = some n) (hn2 : n ≤ sizeLine) (hdf : d.params.defaults = []) (hr : Room k callerA)
    (hY : ∀ (w : World) (h : Heap), YP w h → (K w.params).In h)
    (F : ∀ (w : World) (mg : Str → Option Value) (fa : Addr) (h : Heap), (K w.params).In h → h.Ns mainGlobals mg → mg d.name = some (.ref fa) →
      ∃ fd : FuncData, (∀ (s : Shared) (u : Value), BindsTo s fd ⟨[u], []⟩ [(x, u)]) ∧
        ∀ base : Heap, (K w.params).In base → base.Ns mainGlobals mg → FnOk l.prog w (K w.params) mg base (CX w) k fa fd [x] (sp w))
    (hsp : ∀ (w : World) (H : Hp) (a : Addr) (ns : List Int), ns.length ≤ n → Only H → SqL (K w.params) H a (ns.map V.int) → sp w [.ref a] H (fun v _ => v = .bl true) fun _ _ _ => False)
    (hCX : ∀ (w : World) (H : Hp) (s : Shared) (e : Value) (s' : Shared), CX w [] H s (fun _ _ _ => False) e s' → False) :
    PySem.W.WalkO q loose XP YP l.row.toRowW d [] (fun f vs => PySem.call f vs) := by
  refine Att.attach_call hn hdf fun w s₀ s₁ mg mb fa o pm cd doc a vs ns G Y ho hd hcd hmg hobj hints hlen hg => ?_
  have KX := hY w _ Y
  obtain ⟨fd, hb, hF⟩ := F w mg fa _ KX G.T.g hmg
  exact law_call KX G.T.g G.T.b G.T.builtins G.T.nolimit hg hobj hints (Nat.le_trans hlen hn2) hr hF hb (fun H hO hS => hsp w H a ns hlen hO hS) fun H e s' => hCX w H s₁ e s'
theorem walk_ofK {l : PySem.W.OpenLaw} {n k : Nat} {q : Program} {loose : List Str} {XP : (Str → Option Value) → Heap → Prop} {YP : World → Heap → Prop} {d : DefRec} {K : Params → PySem.W.Frag} {CX : CXT} {sp : PySem.W.Frag → Sp} {x : Str}
    (hn : l.most = some n) (hn2 : n ≤ sizeLine) (hdf : d.params.defaults = []) (hr : Room k callerA)
    (hY : ∀ (w : World) (h : Heap), YP w h → (K w.params).In h)
    (F : ∀ (w : World) (mg : Str → Option Value) (fa : Addr) (h : Heap), (K w.params).In h → h.Ns mainGlobals mg → mg d.name = some (.ref fa) →
      ∃ fd : FuncData, (∀ (s : Shared) (u : Value), BindsTo s fd ⟨[u], []⟩ [(x, u)]) ∧
        ∀ base : Heap, (K w.params).In base → base.Ns mainGlobals mg → FnOk l.prog w (K w.params) mg base CX k fa fd [x] (sp (K w.params)))
    (hsp : ∀ (K : PySem.W.Frag) (H : Hp) (a : Addr) (ns : List Int), ns.length ≤ n → Only H → SqL K H a (ns.map V.int) → sp K [.ref a] H (fun v _ => v = .bl true) fun _ _ _ => False)
    (hCX : ∀ (H : Hp) (s : Shared) (e : Value) (s' : Shared), CX [] H s (fun _ _ _ => False) e s' → False) :
    PySem.W.WalkO q loose XP YP l.row.toRowW d [] (fun f vs => PySem.call f vs) :=
  walk_of (K := K) (CX := fun _ => CX) (sp := fun w => sp (K w.params)) hn hn2 hdf hr hY F (fun w H a ns h1 h2 h3 => hsp (K w.params) H a ns h1 h2 h3) fun _ H s e s' => hCX H s e s'
end L2

/- THE LAST THEOREM (shape; LID, My.* are yours):
   My.Adr: a structure of the addresses that your layer names (classes, functions); My.Txt K t: a structure (Prop) of the equations over K;
   My.txt_mk : {K} {implicit addresses ..} (e1 : nsIn K mainGlobals "law" = some (some (.ref f))) (e2 : K.lookup f = some ⟨oc, od, .func (fnOf "law" "law" params body scope dV kV doc pm an cdv ct), sl⟩) (e3 : codeIn K cdv "law" = true) .. : ∃ t, My.Txt K t

set_option maxRecDepth 100000 in
set_option maxHeartbeats 0 in
theorem PySem.Challenge.cw_LID_holds : PySem.Challenge.rw_LID.Holds := by
  w_on; o_law; k_head; (case hw => w_witness2)
  k_fill
  refine L2.walk_of (l := PySem.Challenge.rw_LID) (n := 63) (k := 40) (x := "script") (CX := fun w => ..) (sp := fun _ => My.sp_law) rfl (by decide) rfl ⟨rfl, by decide, by decide⟩ (fun w h Y => PySem.W.kIn_of Y) ?F ?S ?C
  case F =>
    intro w mg fa h KX G hmg
    have T : ∃ t, My.Txt (L2.KOf KX) t := by
      dsimp only [L2.KOf]                          -- K must stand as «<heap const> w.params» for k_is
      refine' My.txt_mk ?e1 ?e2 ?e3 ..
      (case e1 => PySem.W.k_is)                    -- in the order: a name -> its address -> its object -> its parts
      (case e2 => PySem.W.k_is)
      ..
    obtain ⟨t, T⟩ := T
    have e0 := hmg.symm.trans (PySem.W.mg_of KX G T.law)
    cases e0                                       -- fa is the law's own address
    exact ⟨_, fun s u => .of_eq rfl, fun base kb nb => My.law_fn T kb nb⟩     -- if «.of_eq rfl» comes too early: refine' ⟨_, ?b, fun base kb nb => My.law_fn T kb nb⟩; exact fun s u => .of_eq rfl
  case S => exact fun w H a ns hl hO hS => ..
  case C => exact ..
(the tactic k_is has no namespace: write k_is) -/

/-! SHORT WORDS over the layer: a def of the text, its body, what a loop and a test want. -/
namespace L2
open PySem PySem.Spec PyProof.Rows

/-! ### the text by places -/
noncomputable def inClass (s : Stmt) (j : Nat) : Stmt := match s with
  | .ClassDef _ _ _ body _ _ _ _ _ _ _ => body.getD j (.Pass ⟨0, 0, 0, 0⟩)
  | _ => .Pass ⟨0, 0, 0, 0⟩
noncomputable def defArgs (s : Stmt) : Arguments := match s with
  | .FunctionDef _ a _ _ _ _ _ _ _ _ => a
  | _ => { posonlyargs := [], args := [], vararg := none, kwonlyargs := [], kw_defaults := [], kwarg := none, defaults := [] }
noncomputable def defBody (s : Stmt) : List Stmt := match s with
  | .FunctionDef _ _ b _ _ _ _ _ _ _ => b
  | _ => []
noncomputable def defScope (s : Stmt) : Scope := match s with
  | .FunctionDef _ _ _ _ _ _ sc _ _ _ => sc
  | _ => { kind := .function, names := [], isGenerator := false, isCoroutine := false }

/-! ### no exception leaves a def -/
noncomputable abbrev CX0 : CXT := fun _ _ _ _ _ _ => False
noncomputable abbrev E0 : XK := fun _ _ _ => False
theorem pass0 {X : Cx} : Passes CX0 X E0 := fun _ _ _ _ _ _ _ h => h.elim

/-! ### a def (or method) of the text as it stands behind the top -/
structure Fun (K : PySem.W.Frag) (x qual : Str) (st : Stmt) (f : Addr) (fd : FuncData) : Prop where
  ex : ∃ (oc : Value) (od : Option Addr) (kV doc pm : Value) (an : Option Addr) (cdv ct : Value) (osl : Array (Option Value)),
    fd = PySem.W.fnOf x qual (defArgs st) (defBody st) (defScope st) .none kV doc pm an cdv ct ∧ K.lookup f = some ⟨oc, od, .func fd, osl⟩ ∧ PySem.W.codeIn K cdv qual = true
  kp : PySem.W.keepIn K (.ref f) = true
section
variable {P : Program} {w : World} {K : PySem.W.Frag} {mg : Str → Option Value} {base : Heap}
theorem Fun.ok {x qual : Str} {st : Stmt} {f : Addr} {fd : FuncData} {N ps : List Str} {k : Nat} {sp : Sp} (F : Fun K x qual st f fd) (S : FnScope N ps (defScope st)) (len : ∀ vs H Q E, sp vs H Q E → vs.length = ps.length)
    (hbody : ∀ (cdv : Value) (A : Around) (outer : List Env) (s : Shared) (H : Hp) (vs : List V) (Q : VK) (E : XK), Room k (A.deeper (envOfC qual (defScope st) s.heap.objs.size f cdv)) → sp vs H Q E →
      ∃ t, PSs (cxOf CX0 P w K mg base N qual (defScope st) f cdv A outer s H E).nox (defBody st) t ∧ t { nx := fun _ H' => Q .non H', rt := Q } (start N vs) H) : FnOk P w K mg base CX0 (k + 1) f fd ps sp := by
  obtain ⟨oc, od, kV, doc, pm, an, cdv, ct, osl, rfl, lk, hcd⟩ := F.ex
  refine fn_of lk hcd S len fun A outer s H vs Q E hr hsp => ?_
  obtain ⟨t, h, q⟩ := hbody cdv A outer s H vs Q E hr hsp
  exact ⟨t, h.nox, q⟩
theorem Fun.binds {x qual : Str} {st : Stmt} {f : Addr} {fd : FuncData} {ps : List Str} (F : Fun K x qual st f fd)
    (h : ∀ (kV doc pm : Value) (an : Option Addr) (cdv ct : Value) (us : List Value), us.length = ps.length → bindArgs (PySem.W.fnOf x qual (defArgs st) (defBody st) (defScope st) .none kV doc pm an cdv ct) ⟨us, []⟩ = pure (ps.zip us)) : Binds K fd ps [] := by
  obtain ⟨oc, od, kV, doc, pm, an, cdv, ct, osl, rfl, lk, hcd⟩ := F.ex
  exact .all (h kV doc pm an cdv ct)
theorem fun_mk {x qual : Str} {st : Stmt} {f : Addr} {oc : Value} {od an : Option Addr} {osl : Array (Option Value)} {kV doc pm cdv ct : Value} (l : K.lookup f = some ⟨oc, od, .func (PySem.W.fnOf x qual (defArgs st) (defBody st) (defScope st) .none kV doc pm an cdv ct), osl⟩)
    (c : PySem.W.codeIn K cdv qual = true) (k : PySem.W.keepIn K (.ref f) = true) : Fun K x qual st f (PySem.W.fnOf x qual (defArgs st) (defBody st) (defScope st) .none kV doc pm an cdv ct) := ⟨⟨oc, od, kV, doc, pm, an, cdv, ct, osl, rfl, l, c⟩, k⟩
end
theorem hu_of {A : Around} {k : Nat} (hr : Room k A) : A.units + 1 < cLine := Nat.lt_of_le_of_lt (Nat.add_le_add_left (by decide : 1 ≤ 64) _) hr.units

/-! ### expressions in short: the name that stands in the i-th slot -/
section
variable {X : Cx}
end

/-! ### tests -/

/-! ### heaps -/
noncomputable def Same (H H' : Hp) : Prop := ∀ b o, H b = some o → H' b = some o
theorem Same.refl (H : Hp) : Same H H := fun _ _ h => h
theorem Same.trans {H H1 H2 : Hp} (a : Same H H1) (b : Same H1 H2) : Same H H2 := fun c o h => b c o (a c o h)
theorem Same.free {H H' : Hp} (e : Same H H') {l : Addr} (h : H' l = Option.none) : H l = Option.none := by
  cases q : H l with
  | none => rfl
  | some o =>
    rw [e l o q] at h
    cases h

/-! ### a dict's pairs: keys that differ -/
section
variable {κ : Type} [DecidableEq κ]
end
end L2

/-! MORE RULES over the hand layer: weakening, a list comprehension -/
namespace L2
open PySem PySem.Spec PyProof.Rows

theorem PE.imp {X : Cx} {e : Expr} {t t' : TE} (h : PE X e t) (w : ∀ σ H Q, t' σ H Q → t σ H Q) : PE X e t' := fun pins s σ H Q I q => h pins s σ H Q I (w σ H Q q)
theorem PT.imp {X : Cx} {e : Expr} {t t' : TT} (h : PT X e t) (w : ∀ σ H Q, t' σ H Q → t σ H Q) : PT X e t' := fun pins s σ H Q I q => h pins s σ H Q I (w σ H Q q)
theorem PW.imp {X : Cx} {e : Expr} {t t' : TT} (h : PW X e t) (w : ∀ σ H Q, t' σ H Q → t σ H Q) : PW X e t' := fun wh pins s σ H Q I q => h wh pins s σ H Q I (w σ H Q q)
theorem PA.imp {X : Cx} {e : List Expr} {t t' : TA} (h : PA X e t) (w : ∀ σ H Q, t' σ H Q → t σ H Q) : PA X e t' := fun pos pins s σ H Q I q => h pos pins s σ H Q I (w σ H Q q)
theorem PS.imp {X : Cx} {e : Stmt} {t t' : TS} (h : PS X e t) (w : ∀ D σ H, t' D σ H → t D σ H) : PS X e t' := fun pins s σ H D I q => h pins s σ H D I (w D σ H q)
theorem PSs.imp {X : Cx} {e : List Stmt} {t t' : TS} (h : PSs X e t) (w : ∀ D σ H, t' D σ H → t D σ H) : PSs X e t' := fun pins s σ H D I q => h pins s σ H D I (w D σ H q)
theorem PG.imp {X : Cx} {e : Expr} {t t' : TG} (h : PG X e t) (w : ∀ v σ H Q, t' v σ H Q → t v σ H Q) : PG X e t' := fun pins s σ H v u Q I r q => h pins s σ H v u Q I r (w v σ H Q q)
theorem PGs.imp {X : Cx} {e : List Expr} {t t' : TGs} (h : PGs X e t) (w : ∀ v σ H Q, t' v σ H Q → t v σ H Q) : PGs X e t' := fun pins s σ H vs us Q I r q => h pins s σ H vs us Q I r (w vs σ H Q q)
theorem PI.imp {X : Cx} {tg e : Expr} {t t' : TI} (h : PI X tg e t) (w : ∀ σ H R, t' σ H R → t σ H R) : PI X tg e t' := fun pins s σ H R I q => h pins s σ H R I (w σ H R q)

/-! ### a list comprehension -/
noncomputable def clOf (cells : List (Str × Addr)) : List (Str × NameKind) → List (Str × Addr) → List (Str × Addr)
  | [], cs => cs
  | (n, k) :: r, cs => clOf cells r (if k = .free then (n, (cells.lookup n).getD 0) :: cs else cs)
noncomputable def rlF (env : Env) : Str × NameKind → Str × NameKind := fun (n, k) => if (k == NameKind.free && env.scope.kind == .function && env.kindOf n == some .cell) then (n, NameKind.cell) else (n, k)

inductive BSrc where
  | own | cap (j : Nat) | acc
noncomputable def bSlot (σ : St) (acc : Addr) : BSrc → Option V
  | .own => none
  | .cap j => (σ[j]?).join
  | .acc => some (.ref acc)
noncomputable def bSt (src : List BSrc) (σ : St) (acc : Addr) : St := src.map (bSlot σ acc)
noncomputable abbrev Cx.block (X : Cx) (N' : List Str) (scope : Scope) (C : Addr) (s₀ : Shared) (H₀ : Hp) (ex : List Addr) : Cx :=
  { X with N := N', env := compEnvC scope (clOf X.env.cells scope.names []) C X.env, s₀ := s₀, H₀ := H₀, outer := X.stack, stack := X.stack, ex := ex, fn := fun _ => false, pn := [], xe := fun _ _ => False }
structure CompScope (X : Cx) (N' : List Str) (scope : Scope) (src : List BSrc) : Prop where
  kind : scope.kind = .function
  nocell : ∀ y ∈ scope.names, y.2 ≠ .cell
  names : ∀ y ∈ scope.names, y.2 = .local → scope.names.lookup y.1 = some .local
  free : ∀ y ∈ scope.names, y.2 = .free → X.env.kindOf y.1 = some .cell ∨ X.env.kindOf y.1 = some .free
  len : src.length = N'.length
  cap : ∀ (k j : Nat) (x : Str), src[k]? = some (.cap j) → N'[k]? = some x → X.N[j]? = some x ∧ (X.env.kindOf x = some .cell ∨ X.env.kindOf x = some .free) ∧ scope.names.lookup x = some .free
  acc : ∀ (k : Nat) (x : Str), src[k]? = some .acc → N'[k]? = some x → scope.names.lookup x = none

section
variable {X : Cx} {N' : List Str} {scope : Scope} {src : List BSrc} {pins : List (Addr × Obj)} {σ : St} {H : Hp} {s : Shared} {C acc : Addr} {fp : List Addr}

noncomputable def tComp (src : List BSrc) (wi : TI) (g : TG) (tt : TT) (te : TE) : TE := fun σ H Q => wi σ H fun J H1 => ∀ acc, H1 acc = none →
  ∃ W : Nat → Nat → St → Hp → Prop, (∃ m, W 0 m (bSt src σ acc) (upd H1 acc (.lst []))) ∧ ∀ i m σ' H, W i m σ' H → (J.stop i H ∧ Q (.ref acc) H) ∨
    (J.go i H ∧ ∀ x H', J.yld i H x H' → g x σ' H' fun σ2 H2 => tt σ2 H2 fun b H3 => if b = true then te σ2 H3 fun y H4 => rAppend (.ref acc) [y] H4 fun _ H5 => ∃ m', m' < m ∧ W (i + 1) m' σ2 H5 else ∃ m', m' < m ∧ W (i + 1) m' σ2 H3)
noncomputable def PTs (X : Cx) (ifs : List Expr) (t : TT) : Prop :=
  ∀ (pins : List (Addr × Obj)) (s : Shared) (σ : St) (H : Hp) (Q : Bool → Hp → Prop), Inv X pins σ H s → t σ H Q →
    wpAny (model X.prog X.w) X.A (forIn ifs true fun c r => if r = true then do let ok ← isTrue c X.env (eval c X.env); pure (ForInStep.yield ok) else pure (ForInStep.yield r)) (TP X pins σ Q) X.xe s
noncomputable def tTrue : TT := fun _ H Q => Q true H



end
end L2

/-! EXCEPTIONS: what a raised thing is, and that a frame which it leaves keeps all else -/
namespace L2
open PySem PySem.Spec PyProof.Rows
noncomputable def without (h : Heap) (xs : List Addr) : Heap := { objs := (Array.range h.objs.size).map fun a => if a ∈ xs then { cls := .none, data := .freed } else (h.objs[a]?).getD { cls := .none, data := .freed } }
structure Raised (h : Heap) (e : Addr) (cls : Value) (dx tb : Option Addr) : Prop where
  obj : ∃ oe vs, h.get? e = some oe ∧ oe.cls = cls ∧ oe.dict = dx ∧ oe.data = .fields vs ∧ vs[1]? = some (match tb with | none => .none | some T => .ref T)
  tr : ∀ T, tb = some T → T ≠ e ∧ ∃ oT ts fl, h.get? T = some oT ∧ oT.data = .fields ts ∧ ts[3]? = some fl
noncomputable def tbl' : Option Addr → List Addr
  | none => []
  | some T => [T]
structure Noted (l : List Addr) (h h' : Heap) (e : Addr) (cls : Value) (dx tb : Option Addr) (T : Addr) : Prop where
  keep : ∀ b o, b ≠ e → b ∉ tbl' tb → b ∉ l → h.get? b = some o → h'.get? b = some o
  slot : ∀ b o, b ∈ l → h.get? b = some o → ∃ sl, h'.get? b = some { o with slots := sl }
  new : h.get? T = none ∨ some T = tb
  r : Raised h' e cls dx (some T)
section
variable {M : Model} {A : Around} {E : Value → Shared → Prop} {s : Shared} {base : Heap} {env : Env} {outer : List Env} {L e : Addr} {cls : Value} {dx tb : Option Addr} {Q : Unit → Shared → Prop}
end
end L2

namespace L2
open PySem PySem.Spec PyProof.Rows
noncomputable def CX1 (P : Program) (w : World) : CXT := fun outer H s E e s' => ∃ (a : Addr) (cls : Value) (dx : Option Addr) (T : Addr) (H' : Hp), e = .ref a ∧ s'.os = s.os ∧ AllBare s'.gens ∧ Un (frs outer) [] H H' s.heap s'.heap ∧ HOk P w H' s'.heap ∧
  Raised s'.heap a cls dx (some T) ∧ s.heap.get? a = none ∧ s.heap.get? T = none ∧ H' a = none ∧ H' T = none ∧ E cls dx H'
noncomputable def Throws (X : Cx) (EX : XK) : Prop := ∀ (pins : List (Addr × Obj)) (σ : St) (H : Hp) (s : Shared) (e : Addr) (cls : Value) (dx tb : Option Addr), Inv X pins σ H s → Raised s.heap e cls dx tb → X.s₀.heap.get? e = none → H e = none →
  (∀ T, tb = some T → X.s₀.heap.get? T = none ∧ H T = none) → EX cls dx H → X.xe (.ref e) s
end L2

/-! raise C(e), C an own class of exceptions without an __init__ of its own -/
namespace L2
open PySem PySem.Spec PyProof.Rows
abbrev VEB : List Value := [.type "ValueError", .type "Exception", .type "BaseException", .type "object"]
noncomputable def tRaise (EX : XK) (C : Addr) (t : TA) : TS := fun _ σ H => t σ H fun vs H1 => vs.length ≤ sizeLine ∧ EX (.ref C) none H1
end L2

namespace L2
open PySem PySem.Spec PyProof.Rows
noncomputable abbrev EXT := Value → Option Addr → St → Hp → Prop
noncomputable def ThrowsT (X : Cx) (EX : EXT) : Prop := ∀ (pins : List (Addr × Obj)) (σ : St) (H : Hp) (s : Shared) (e : Addr) (cls : Value) (dx : Option Addr) (T : Addr), Inv X pins σ H s → Raised s.heap e cls dx (some T) → X.s₀.heap.get? e = none → H e = none →
  X.s₀.heap.get? T = none → H T = none → (∀ p ∈ X.pn ++ pins, p.1 ≠ e ∧ p.1 ≠ T) → (e ≠ X.env.locals ∧ T ≠ X.env.locals) → (∀ x c, X.env.cells.lookup x = some c → c ≠ e ∧ c ≠ T) → EX cls dx σ H → X.xe (.ref e) s
noncomputable def PassX (X : Cx) (EX : EXT) : Prop := ∀ (pins : List (Addr × Obj)) (σ : St) (H : Hp) (s : Shared) (e : Value) (s' : Shared), Inv X pins σ H s → CX1 X.prog X.w X.stack H s (fun cls od H' => EX cls od σ H') e s' → X.xe e s'
noncomputable def tCallX (sp : Sp) (EX : EXT) (t : TA) : TE := fun σ H Q => t σ H fun vs H1 => sp vs H1 Q fun cls od H' => EX cls od σ H'
end L2

/-! try: what was raised comes back, is noted, and a handler takes it -/
namespace L2
open PySem PySem.Spec PyProof.Rows
structure Air (X : Cx) (pins : List (Addr × Obj)) (H : Hp) (s : Shared) (e : Addr) (cls : Value) (dx : Option Addr) (T : Addr) : Prop where
  r : Raised s.heap e cls dx (some T)
  e0 : X.s₀.heap.get? e = none
  eH : H e = none
  t0 : X.s₀.heap.get? T = none
  tH : H T = none
  pe : ∀ p ∈ X.pn ++ pins, p.1 ≠ e ∧ p.1 ≠ T
  le : e ≠ X.env.locals ∧ T ≠ X.env.locals
  ce : ∀ x c, X.env.cells.lookup x = some c → c ≠ e ∧ c ≠ T
section
variable {X : Cx} {pins : List (Addr × Obj)} {σ : St} {H : Hp} {s : Shared} {e T : Addr} {cls : Value} {dx : Option Addr}
end
/-! contexts: within try, within a handler's suite -/
noncomputable abbrev Cx.inTry (X : Cx) (pn : List (Addr × Obj)) (xe : Value → Shared → Prop) : Cx := { X with pn := pn, xe := xe }
noncomputable abbrev Cx.inSuite (X : Cx) (a : Addr) : Cx := { X with A := X.A.mark (some (.ref a)), calm := false, xe := fun _ _ => False }
section
variable {X : Cx} {pins : List (Addr × Obj)} {σ : St} {H : Hp} {s : Shared} {e T : Addr} {cls : Value} {dx : Option Addr} {xe : Value → Shared → Prop}
noncomputable def excAt (a C : Addr) (dx : Option Addr) : Heap → Prop := fun h => ∃ o, h.get? a = some o ∧ o.cls = .ref C ∧ o.dict = dx ∧ PySem.W.notCls o = true
end
end L2

namespace L2
open PySem PySem.Spec PyProof.Rows
structure Hd where
  x : Str
  np : Pos
  nm : Option (Str × Nat)
  b0 : Stmt
  suite : List Stmt
  pos : Pos
  B : Addr
  t : TS
noncomputable def Hd.ast (h : Hd) : ExceptHandler := .ExceptHandler (some (.Name h.x h.np)) (h.nm.map (·.1)) (h.b0 :: h.suite) h.pos
noncomputable def Ends.but (D : Ends) (i : Nat) : Ends := { nx := fun σ H => D.nx (σ.set i none) H, bk := fun σ H => D.bk (σ.set i none) H, ct := fun σ H => D.ct (σ.set i none) H, rt := D.rt }
noncomputable def Hd.run (h : Hd) (C : Addr) (dx : Option Addr) (D : Ends) (σ : St) (H : Hp) : Prop := match h.nm with
  | none => h.t D σ H
  | some (_, i) => ∀ a, H a = none → h.t (D.but i) (σ.set i (some (.ref a))) (upd H a (.ext (excAt a C dx)))
noncomputable def pickH (K : PySem.W.Frag) (C : Addr) : List Hd → Option Hd
  | [] => none
  | h :: r => match PySem.W.mroIn K C (.ref h.B) with
    | some true => some h
    | some false => pickH K C r
    | none => none
structure Hd.Ok (X : Cx) (h : Hd) : Prop where
  gl : Gl X h.x
  mg : X.mg h.x = some (.ref h.B)
  ty : PySem.W.typeIn X.K (.ref h.B) = some (.type "type")
  cl : PySem.W.isClsIn X.K h.B = true
  bs : PySem.W.mroIn X.K h.B (.type "BaseException") = some true
  db : (h.x == ("__debug__" : Str)) = false
  nm : ∀ n i, h.nm = some (n, i) → X.N.Nodup ∧ X.N[i]? = some n ∧ Loc X.env.scope n ∧ X.env.kindOf n = some .local ∧ X.env.scope.names.lookup n = some .local
  su : ∀ a, PSs (X.inSuite a) (h.b0 :: h.suite) h.t
section
variable {X : Cx} {pins : List (Addr × Obj)} {σ : St} {H : Hp} {s : Shared} {e T C : Addr} {dx : Option Addr} {D : Ends}
noncomputable def tTry (K : PySem.W.Frag) (tb : EXT → TS) (hs : List Hd) : TS := fun D σ H => tb (fun cls dx σ' H' => ∃ C h, cls = .ref C ∧ pickH K C hs = some h ∧ h.run C dx D σ' H') D σ H
end
end L2

/-! isinstance of an exception -/
namespace L2
open PySem PySem.Spec PySem.Calls PyProof.Rows Builtin.ObjectAttr Builtin.Getset_descriptor
structure ExcKit (K : PySem.W.Frag) (C : Addr) : Prop where
  cl : PySem.W.isClsIn K C = true
  ga : PySem.W.findIn K (.ref C) "__getattribute__" = some (some (.builtin "BaseException.__getattribute__"))
  gt : PySem.W.findIn K (.ref C) "__getattr__" = some none
  ca : PySem.W.findIn K (.ref C) "__class__" = some (some (.builtin "object.__class__"))
  gs : PySem.W.specialIn K (.builtin "object.__class__") "__get__" = some (some (.builtin "getset_descriptor.__get__"))
  tk : PySem.W.takesIn K (.builtin "object.__class__") = some true
  ob : PySem.W.mroIn K C (.type "object") = some true
  be : PySem.W.mroIn K C (.type "BaseException") = some true
section
variable {prog : Program} {w : World} {A : Around} {E : Value → Shared → Prop} {s : Shared} {K : PySem.W.Frag} {x C : Addr} {dx : Option Addr}
end
section
variable {X : Cx}
noncomputable def rIsX (K : PySem.W.Frag) (c : V) (cv : Value) : List V → Hp → VK → Prop := fun xs H Q => ∃ a C dx b, xs = [.ref a, c] ∧ H a = some (.ext (excAt a C dx)) ∧ ExcKit K C ∧ PySem.W.kitOne K (.ref C) cv = some b ∧ Q (.bl b) H
noncomputable def rIsXT (K : PySem.W.Frag) (Bs : List Addr) : List V → Hp → VK → Prop := fun xs H Q => ∃ a C dx p b, xs = [.ref a, .ref p] ∧ H a = some (.ext (excAt a C dx)) ∧ ExcKit K C ∧ H p = some (.tup (Bs.map V.ref)) ∧ PySem.W.kitAny K (.ref C) (Bs.map Value.ref) = some b ∧ Q (.bl b) H
end
end L2

/-! a comprehension whose block may raise -/
namespace L2
open PySem PySem.Spec PyProof.Rows
section
variable {X : Cx} {pins : List (Addr × Obj)} {σ : St} {H : Hp} {s s' : Shared}
end
noncomputable abbrev Cx.blockX (X : Cx) (N' : List Str) (scope : Scope) (C : Addr) (s₀ : Shared) (H₀ : Hp) (ex : List Addr) (xe : Value → Shared → Prop) : Cx :=
  { X with N := N', env := compEnvC scope (clOf X.env.cells scope.names []) C X.env, s₀ := s₀, H₀ := H₀, outer := X.stack, stack := X.stack, ex := ex, fn := fun _ => false, pn := [], xe := xe }
section
variable {X : Cx} {N' : List Str} {scope : Scope} {src : List BSrc} {pins : List (Addr × Obj)} {σ : St} {H : Hp} {s : Shared} {C acc : Addr} {fp : List Addr}

noncomputable def tCompX (src : List BSrc) (wi : TI) (g : TG) (tt : TT) (te : EXT → TE) (EX : EXT) : TE := fun σ H Q => wi σ H fun J H1 => ∀ acc, H1 acc = none →
  ∃ W : Nat → Nat → St → Hp → Prop, (∃ m, W 0 m (bSt src σ acc) (upd H1 acc (.lst []))) ∧ ∀ i m σ' H, W i m σ' H → (J.stop i H ∧ Q (.ref acc) H) ∨
    (J.go i H ∧ ∀ x H', J.yld i H x H' → g x σ' H' fun σ2 H2 => tt σ2 H2 fun b H3 => if b = true then te (fun cls od _ H' => EX cls od σ H') σ2 H3 fun y H4 => rAppend (.ref acc) [y] H4 fun _ H5 => ∃ m', m' < m ∧ W (i + 1) m' σ2 H5 else ∃ m', m' < m ∧ W (i + 1) m' σ2 H3)
end
end L2

/-! VALUES WITHOUT A HEAP. A datum D is a tree; F is the part of the abstract heap that is never changed again; what a slot owns may still be changed. -/
namespace DL
open PySem L2
variable {K : PySem.W.Frag}

inductive D where
  | non | bl (b : Bool) | int (i : Int) | str (x : Str)
  | tup (xs : List D) | lst (xs : List D)
  | dK (ks : List Key) (vs : List D) | dT (ks : List (List Key)) (vs : List D)
  | exc (c : Str) (ks : List Str) (vs : List D)
noncomputable def ClsIs (K : PySem.W.Frag) (c : Str) (C : Addr) : Prop := PySem.W.nsIn K mainGlobals c = some (some (.ref C))

noncomputable def KB (F : Hp) (kvs : List (List Key × V)) (bs : List Addr) : Prop := Paired (fun (p : List Key × V) (b : Addr) => F b = some (.tup (p.1.map kV))) kvs bs
mutual
inductive Rep (K : PySem.W.Frag) (F : Hp) : D → V → Prop where
  | non : Rep K F .non .non
  | bl (b : Bool) : Rep K F (.bl b) (.bl b)
  | int (i : Int) : Rep K F (.int i) (.int i)
  | str (x : Str) : Rep K F (.str x) (.str x)
  | tup {a : Addr} {xs : List D} {vs : List V} (h : F a = some (.tup vs)) (r : Reps K F xs vs) : Rep K F (.tup xs) (.ref a)
  | lst {a : Addr} {xs : List D} {vs : List V} (h : SqL K F a vs) (r : Reps K F xs vs) : Rep K F (.lst xs) (.ref a)
  | dK {a : Addr} {ks : List Key} {ds : List D} {kvs : List (Key × V)} {ep : Nat} (h : F a = some (.dK kvs ep)) (e : kvs.map (·.1) = ks) (r : Reps K F ds (kvs.map (·.2))) : Rep K F (.dK ks ds) (.ref a)
  | dT {a : Addr} {ks : List (List Key)} {ds : List D} {kvs : List (List Key × V)} {ep : Nat} {bs : List Addr} (h : F a = some (.dT kvs ep bs)) (kb : KB F kvs bs) (e : kvs.map (·.1) = ks) (r : Reps K F ds (kvs.map (·.2))) : Rep K F (.dT ks ds) (.ref a)
  | exc {a C : Addr} {c : Str} (cl : ClsIs K c C) (h : F a = some (.ext (excAt a C none))) : Rep K F (.exc c [] []) (.ref a)
  | exd {a C dx : Addr} {c : Str} {ks : List Str} {ds : List D} {fs : List (Str × V)} (cl : ClsIs K c C) (h : F a = some (.ext (excAt a C (some dx)))) (hx : F dx = some (.xd fs)) (e : fs.map (·.1) = ks) (r : Reps K F ds (fs.map (·.2))) : Rep K F (.exc c ks ds) (.ref a)
inductive Reps (K : PySem.W.Frag) (F : Hp) : List D → List V → Prop where
  | nil : Reps K F [] []
  | cons {d : D} {v : V} {ds : List D} {vs : List V} (h : Rep K F d v) (t : Reps K F ds vs) : Reps K F (d :: ds) (v :: vs)
end

theorem KB.mono {F F' : Hp} (s : Same F F') {kvs : List (List Key × V)} {bs : List Addr} (h : KB F kvs bs) : KB F' kvs bs := Paired.mapP h fun _ _ z => s _ _ z
theorem rdMono {F F' : Hp} (s : Same F F') {a : Addr} {u : HO} (h : Rd F a u) : Rd F' a u := by
  rcases h with h | ⟨o, h⟩
  · exact .inl (s _ _ h)
  · exact .inr ⟨o, s _ _ h⟩
theorem sqL_mono {F F' : Hp} (s : Same F F') {a : Addr} {xs : List V} (h : SqL K F a xs) : SqL K F' a xs := by
  rcases h with h | h
  · exact .inl (rdMono s h)
  · exact .inr h
theorem sqT_mono {F F' : Hp} (s : Same F F') {a : Addr} {xs : List V} (h : SqT K F a xs) : SqT K F' a xs := by
  rcases h with h | h
  · exact .inl (rdMono s h)
  · exact .inr h
theorem tupSq {F : Hp} {a : Addr} {vs : List V} (h : F a = some (.tup vs)) : SqT K F a vs := .inl (.inl h)
mutual
theorem Rep.mono {F F' : Hp} (s : Same F F') : ∀ {d : D} {v : V}, Rep K F d v → Rep K F' d v
  | _, _, .non => .non
  | _, _, .bl b => .bl b
  | _, _, .int i => .int i
  | _, _, .str x => .str x
  | _, _, .tup h r => .tup (s _ _ h) (Reps.mono s r)
  | _, _, .lst h r => .lst (sqL_mono s h) (Reps.mono s r)
  | _, _, .dK h e r => .dK (s _ _ h) e (Reps.mono s r)
  | _, _, .dT h kb e r => .dT (s _ _ h) (kb.mono s) e (Reps.mono s r)
  | _, _, .exc cl h => .exc cl (s _ _ h)
  | _, _, .exd cl h hx e r => .exd cl (s _ _ h) (s _ _ hx) e (Reps.mono s r)
theorem Reps.mono {F F' : Hp} (s : Same F F') : ∀ {ds : List D} {vs : List V}, Reps K F ds vs → Reps K F' ds vs
  | _, _, .nil => .nil
  | _, _, .cons h t => .cons (Rep.mono s h) (Reps.mono s t)
end
theorem Reps.length {F : Hp} : ∀ {ds : List D} {vs : List V}, Reps K F ds vs → ds.length = vs.length
  | _, _, .nil => rfl
  | _, _, .cons _ t => by rw [List.length_cons, List.length_cons, Reps.length t]
theorem Reps.append {F : Hp} : ∀ {ds es : List D} {vs us : List V}, Reps K F ds vs → Reps K F es us → Reps K F (ds ++ es) (vs ++ us)
  | _, _, _, _, .nil, q => q
  | _, _, _, _, .cons h t, q => .cons h (t.append q)
theorem Reps.snoc {F : Hp} {ds : List D} {vs : List V} {d : D} {v : V} (r : Reps K F ds vs) (h : Rep K F d v) : Reps K F (ds ++ [d]) (vs ++ [v]) := r.append (.cons h .nil)
theorem Reps.get {F : Hp} : ∀ {ds : List D} {vs : List V} {i : Nat} {d : D}, Reps K F ds vs → ds[i]? = some d → ∃ v, vs[i]? = some v ∧ Rep K F d v
  | _, _, _, _, .nil, e => by simp at e
  | _, _, 0, _, .cons h t, e => by simp at e; subst e; exact ⟨_, rfl, h⟩
  | _, _, i + 1, d, .cons h t, e => by
    obtain ⟨v, h1, h2⟩ := Reps.get (i := i) (d := d) t (by simpa using e)
    exact ⟨v, by simpa using h1, h2⟩
theorem Reps.take {F : Hp} : ∀ {ds : List D} {vs : List V} (n : Nat), Reps K F ds vs → Reps K F (ds.take n) (vs.take n)
  | _, _, 0, _ => .nil
  | _, _, _ + 1, .nil => .nil
  | _, _, n + 1, .cons h t => .cons h (t.take n)
theorem Reps.drop {F : Hp} : ∀ {ds : List D} {vs : List V} (n : Nat), Reps K F ds vs → Reps K F (ds.drop n) (vs.drop n)
  | _, _, 0, r => r
  | _, _, _ + 1, .nil => .nil
  | _, _, n + 1, .cons h t => t.drop n

inductive SV where
  | fz (d : D) | ol (xs : List D) | oK (ks : List Key) (vs : List D) | oT (ks : List (List Key)) (vs : List D) | oN (ks : List Key) (xss : List (List D))
@[simp] noncomputable def SV.toD : SV → D
  | .fz d => d
  | .ol xs => .lst xs
  | .oK ks vs => .dK ks vs
  | .oT ks vs => .dT ks vs
  | .oN ks xss => .dK ks (xss.map D.lst)
noncomputable abbrev Nodes := List (Addr × HO)
inductive Kids (K : PySem.W.Frag) (F : Hp) : List (List D) → List V → Nodes → Prop where
  | nil : Kids K F [] [] []
  | cons {xs : List D} {xss : List (List D)} {b : Addr} {vs : List V} {ws : List V} {ns : Nodes} (r : Reps K F xs vs) (t : Kids K F xss ws ns) : Kids K F (xs :: xss) (.ref b :: ws) ((b, .lst vs) :: ns)
inductive Shape (K : PySem.W.Frag) (F : Hp) : SV → V → Nodes → Prop where
  | fz {d : D} {v : V} (h : Rep K F d v) : Shape K F (.fz d) v []
  | ol {a : Addr} {xs : List D} {vs : List V} (r : Reps K F xs vs) : Shape K F (.ol xs) (.ref a) [(a, .lst vs)]
  | oK {a : Addr} {ks : List Key} {ds : List D} {kvs : List (Key × V)} {ep : Nat} (e : kvs.map (·.1) = ks) (r : Reps K F ds (kvs.map (·.2))) : Shape K F (.oK ks ds) (.ref a) [(a, .dK kvs ep)]
  | oT {a : Addr} {ks : List (List Key)} {ds : List D} {kvs : List (List Key × V)} {ep : Nat} {bs : List Addr} (kb : KB F kvs bs) (e : kvs.map (·.1) = ks) (r : Reps K F ds (kvs.map (·.2))) : Shape K F (.oT ks ds) (.ref a) [(a, .dT kvs ep bs)]
  | oN {a : Addr} {ks : List Key} {xss : List (List D)} {kvs : List (Key × V)} {ns : Nodes} {ep : Nat} (e : kvs.map (·.1) = ks) (r : Kids K F xss (kvs.map (·.2)) ns) : Shape K F (.oN ks xss) (.ref a) ((a, .dK kvs ep) :: ns)
theorem Kids.mono {F F' : Hp} (s : Same F F') : ∀ {xss : List (List D)} {ws : List V} {ns : Nodes}, Kids K F xss ws ns → Kids K F' xss ws ns
  | _, _, _, .nil => .nil
  | _, _, _, .cons r t => .cons (r.mono s) (t.mono s)
theorem Shape.mono {F F' : Hp} (s : Same F F') {sv : SV} {v : V} {ns : Nodes} (h : Shape K F sv v ns) : Shape K F' sv v ns := by
  cases h with
  | fz h => exact .fz (h.mono s)
  | ol r => exact .ol (r.mono s)
  | oK e r => exact .oK e (r.mono s)
  | oT kb e r => exact .oT (kb.mono s) e (r.mono s)
  | oN e r => exact .oN e (r.mono s)

noncomputable def addL (F : Hp) : Nodes → Hp
  | [] => F
  | p :: r => upd (addL F r) p.1 p.2
noncomputable abbrev adr (ns : Nodes) : List Addr := ns.map (·.1)
theorem addL_old {F : Hp} {b : Addr} : ∀ {ns : Nodes}, b ∉ adr ns → addL F ns b = F b
  | [], _ => rfl
  | p :: r, h => by
    have h1 : b ≠ p.1 := fun e => h (by rw [e]; exact List.mem_cons_self)
    have h2 : b ∉ adr r := fun e => h (List.mem_cons_of_mem _ e)
    show upd (addL F r) p.1 p.2 b = F b
    rw [upd_ne h1, addL_old h2]
theorem addL_new {F : Hp} {p : Addr × HO} : ∀ {ns : Nodes}, (adr ns).Nodup → p ∈ ns → addL F ns p.1 = some p.2
  | [], _, h => nomatch h
  | q :: r, nd, h => by
    obtain ⟨n1, n2⟩ := List.nodup_cons.mp nd
    show upd (addL F r) q.1 q.2 p.1 = some p.2
    rcases List.mem_cons.mp h with e | e
    · subst e; exact upd_same
    · rw [upd_ne fun z => n1 (List.mem_map.mpr ⟨p, e, z⟩)]
      exact addL_new n2 e
theorem addL_same {F : Hp} {ns : Nodes} (h : ∀ p ∈ ns, F p.1 = none) : Same F (addL F ns) := fun b o e => by
  by_cases hb : b ∈ adr ns
  · obtain ⟨p, hp, ep⟩ := List.mem_map.mp hb
    subst ep
    rw [h p hp] at e; cases e
  · rw [addL_old hb]; exact e
theorem addL_le {F H : Hp} {ns : Nodes} (nd : (adr ns).Nodup) (le : Same F H) (h : ∀ p ∈ ns, H p.1 = some p.2) : Same (addL F ns) H := fun b o e => by
  by_cases hb : b ∈ adr ns
  · obtain ⟨p, hp, ep⟩ := List.mem_map.mp hb
    subst ep
    rw [addL_new nd hp] at e
    cases e
    exact h p hp
  · rw [addL_old hb] at e; exact le b o e
theorem addL_fro {Z : Hp × Hp} {F : Hp} {ns : Nodes} (nd : (adr ns).Nodup) (fro : ∀ (b : Addr) (o : HO), F b = some o → Z.2 b = some o ∨ Z.1 b = none) (hz : ∀ p ∈ ns, Z.1 p.1 = none) : ∀ (b : Addr) (o : HO), addL F ns b = some o → Z.2 b = some o ∨ Z.1 b = none := fun b o e => by
  by_cases hb : b ∈ adr ns
  · obtain ⟨p, hp, ep⟩ := List.mem_map.mp hb
    subst ep
    exact .inr (hz p hp)
  · rw [addL_old hb] at e; exact fro b o e
theorem Kids.rep {F F' : Hp} (s : Same F F') : ∀ {xss : List (List D)} {ws : List V} {ns : Nodes}, Kids K F xss ws ns → (∀ p ∈ ns, F' p.1 = some p.2) → Reps K F' (xss.map D.lst) ws
  | _, _, _, .nil, _ => .nil
  | _, _, _, .cons r t, h => .cons (.lst (.inl (.inl (h _ List.mem_cons_self))) (r.mono s)) (t.rep s fun p hp => h p (List.mem_cons_of_mem _ hp))
theorem Shape.rep {F : Hp} {sv : SV} {v : V} {ns : Nodes} (h : Shape K F sv v ns) (nd : (adr ns).Nodup) (hn : ∀ p ∈ ns, F p.1 = none) : Rep K (addL F ns) sv.toD v := by
  have s := addL_same hn
  have a : ∀ p ∈ ns, addL F ns p.1 = some p.2 := fun p hp => addL_new nd hp
  cases h with
  | fz h => exact h
  | ol r => exact .lst (.inl (.inl (a (_, _) List.mem_cons_self))) (r.mono s)
  | oK e r => exact .dK (a (_, _) List.mem_cons_self) e (r.mono s)
  | oT kb e r => exact .dT (a (_, _) List.mem_cons_self) (kb.mono s) e (r.mono s)
  | oN e r => exact .dK (a (_, _) List.mem_cons_self) e (r.rep s fun p hp => a p (List.mem_cons_of_mem _ hp))

noncomputable abbrev DSt := List (Option SV)
structure Ent (K : PySem.W.Frag) where
  h : Hp
  f : Hp
  x : EXT
noncomputable abbrev ent (H F : Hp) : Ent K := ⟨H, F, fun _ _ _ _ => False⟩
structure Exn where
  c : Str
  ks : List Str := []
  vs : List D := []
noncomputable def ExcRep (K : PySem.W.Frag) (F : Hp) (e : Exn) (cls : Value) (od : Option Addr) : Prop := ∃ C, ClsIs K e.c C ∧ cls = .ref C ∧ match od with
  | none => e.ks = [] ∧ e.vs = []
  | some dx => ∃ fs : List (Str × V), F dx = some (.xd fs) ∧ fs.map (·.1) = e.ks ∧ Reps K F e.vs (fs.map (·.2))
structure SR (Z : Ent K) (F H : Hp) (σ : St) (δ : DSt) (own : Nat → Nodes) : Prop where
  le : Same F H
  fro : ∀ (b : Addr) (o : HO), F b = some o → Z.f b = some o ∨ Z.h b = none
  old : Same Z.h H
  len : σ.length = δ.length
  at' : ∀ (i : Nat) (sv : SV), δ[i]? = some (some sv) → ∃ v, σ[i]? = some (some v) ∧ Shape K F sv v (own i)
  nod : ∀ i : Nat, (adr (own i)).Nodup
  ok : ∀ (i : Nat) (p : Addr × HO), p ∈ own i → F p.1 = none ∧ Z.h p.1 = none ∧ H p.1 = some p.2
  sep : ∀ (i j : Nat) (p q : Addr × HO), i ≠ j → p ∈ own i → q ∈ own j → p.1 ≠ q.1
inductive RV where
  | tmp (sv : SV) | bw (i : Nat)
structure TmpOk (Z : Ent K) (F H : Hp) (own : Nat → Nodes) (sv : SV) (v : V) (ns : Nodes) : Prop where
  sh : Shape K F sv v ns
  nd : (adr ns).Nodup
  ok : ∀ p ∈ ns, F p.1 = none ∧ Z.h p.1 = none ∧ H p.1 = some p.2
  sep : ∀ (i : Nat) (p q : Addr × HO), p ∈ ns → q ∈ own i → p.1 ≠ q.1
noncomputable def RVRep (Z : Ent K) (F H : Hp) (σ : St) (own : Nat → Nodes) : RV → V → Prop
  | .tmp sv, v => ∃ ns, TmpOk Z F H own sv v ns
  | .bw i, v => σ[i]? = some (some v)

theorem TmpOk.fz {Z : Ent K} {F H : Hp} {own : Nat → Nodes} {d : D} {v : V} (h : Rep K F d v) : TmpOk Z F H own (.fz d) v [] :=
  ⟨.fz h, List.nodup_nil, fun _ h => (nomatch h), fun _ _ _ h => (nomatch h)⟩

theorem same_new {H : Hp} {p : Addr} {o : HO} (h : H p = none) : Same H (upd H p o) := fun b u e => by
  rw [upd_ne fun z => by rw [z, h] at e; cases e]; exact e
theorem SR.grow {Z : Ent K} {F H H' : Hp} {σ : St} {δ : DSt} {own : Nat → Nodes} (s : SR Z F H σ δ own) (h : Same H H') : SR Z F H' σ δ own :=
  ⟨s.le.trans h, s.fro, s.old.trans h, s.len, s.at', s.nod, fun i p hp => let ⟨a, b, c⟩ := s.ok i p hp; ⟨a, b, h _ _ c⟩, s.sep⟩
theorem SR.addF {Z : Ent K} {F H : Hp} {σ : St} {δ : DSt} {own : Nat → Nodes} {ns : Nodes} (s : SR Z F H σ δ own) (nd : (adr ns).Nodup) (hn : ∀ p ∈ ns, F p.1 = none) (hH : ∀ p ∈ ns, H p.1 = some p.2) (hz : ∀ p ∈ ns, Z.h p.1 = none)
    (hs : ∀ (i : Nat) (p q : Addr × HO), p ∈ ns → q ∈ own i → p.1 ≠ q.1) : SR Z (addL F ns) H σ δ own := by
  have sm := addL_same hn
  refine ⟨addL_le nd s.le hH, addL_fro (Z := (Z.h, Z.f)) nd s.fro hz, s.old, s.len, fun i sv e => ?_, s.nod, fun i p hp => ?_, s.sep⟩
  · obtain ⟨v, h1, h2⟩ := s.at' i sv e
    exact ⟨v, h1, h2.mono sm⟩
  · obtain ⟨a, b, c⟩ := s.ok i p hp
    refine ⟨?_, b, c⟩
    rw [addL_old fun hb => ?_]
    · exact a
    · obtain ⟨q, hq, e⟩ := List.mem_map.mp hb
      exact hs i q p hq hp e
theorem SR.settle {Z : Ent K} {F H : Hp} {σ : St} {δ : DSt} {own : Nat → Nodes} {sv : SV} {v : V} {ns : Nodes} (s : SR Z F H σ δ own) (t : TmpOk Z F H own sv v ns) :
    ∃ F1, Same F F1 ∧ SR Z F1 H σ δ own ∧ Rep K F1 sv.toD v :=
  ⟨addL F ns, addL_same fun p hp => (t.ok p hp).1, s.addF t.nd (fun p hp => (t.ok p hp).1) (fun p hp => (t.ok p hp).2.2) (fun p hp => (t.ok p hp).2.1) t.sep, t.sh.rep t.nd fun p hp => (t.ok p hp).1⟩

noncomputable def put (own : Nat → Nodes) (i : Nat) (ns : Nodes) : Nat → Nodes := fun j => if j = i then ns else own j
theorem put_same {own : Nat → Nodes} {i : Nat} {ns : Nodes} : put own i ns i = ns := if_pos rfl
theorem put_ne {own : Nat → Nodes} {i j : Nat} {ns : Nodes} (h : j ≠ i) : put own i ns j = own j := if_neg h
theorem SR.freeze {Z : Ent K} {F H : Hp} {σ : St} {δ : DSt} {own : Nat → Nodes} {i : Nat} {sv : SV} (s : SR Z F H σ δ own) (e : δ[i]? = some (some sv)) :
    ∃ F1 v, Same F F1 ∧ σ[i]? = some (some v) ∧ Rep K F1 sv.toD v ∧ SR Z F1 H σ (δ.set i (some (.fz sv.toD))) (put own i []) := by
  obtain ⟨v, h1, h2⟩ := s.at' i sv e
  have hn : ∀ p ∈ own i, F p.1 = none := fun p hp => (s.ok i p hp).1
  have sm := addL_same hn
  have hi : i < δ.length := (List.getElem?_eq_some_iff.mp e).1
  refine ⟨addL F (own i), v, sm, h1, h2.rep (s.nod i) hn, ⟨addL_le (s.nod i) s.le fun p hp => (s.ok i p hp).2.2, addL_fro (Z := (Z.h, Z.f)) (s.nod i) s.fro fun p hp => (s.ok i p hp).2.1, s.old, by rw [List.length_set]; exact s.len, fun j sw ej => ?_, fun j => ?_, fun j p hp => ?_, fun j k p q hjk hp hq => ?_⟩⟩
  · by_cases hj : j = i
    · subst hj
      rw [List.getElem?_set_self hi] at ej
      cases ej
      rw [put_same]
      exact ⟨v, h1, .fz (h2.rep (s.nod j) hn)⟩
    · rw [List.getElem?_set_ne (Ne.symm hj)] at ej
      obtain ⟨w, g1, g2⟩ := s.at' j sw ej
      rw [put_ne hj]
      exact ⟨w, g1, g2.mono sm⟩
  · by_cases hj : j = i
    · subst hj; rw [put_same]; exact List.nodup_nil
    · rw [put_ne hj]; exact s.nod j
  · by_cases hj : j = i
    · subst hj; rw [put_same] at hp; exact nomatch hp
    · rw [put_ne hj] at hp
      obtain ⟨a, b, c⟩ := s.ok j p hp
      refine ⟨?_, b, c⟩
      rw [addL_old fun hb => ?_]
      · exact a
      · obtain ⟨q, hq, z⟩ := List.mem_map.mp hb
        exact s.sep i j q p (Ne.symm hj) hq hp z
  · by_cases hj : j = i
    · subst hj; rw [put_same] at hp; exact nomatch hp
    · by_cases hk : k = i
      · subst hk; rw [put_same] at hq; exact nomatch hq
      · rw [put_ne hj] at hp
        rw [put_ne hk] at hq
        exact s.sep j k p q hjk hp hq
theorem SR.store {Z : Ent K} {F H : Hp} {σ : St} {δ : DSt} {own : Nat → Nodes} {i : Nat} {sv : SV} {v : V} {ns : Nodes} (s : SR Z F H σ δ own) (t : TmpOk Z F H own sv v ns) (hi : i < σ.length) :
    SR Z F H (σ.set i (some v)) (δ.set i (some sv)) (put own i ns) := by
  refine ⟨s.le, s.fro, s.old, by rw [List.length_set, List.length_set]; exact s.len, fun j sw ej => ?_, fun j => ?_, fun j p hp => ?_, fun j k p q hjk hp hq => ?_⟩
  · by_cases hj : j = i
    · subst hj
      have hd : j < δ.length := by
        have := (List.getElem?_eq_some_iff.mp ej).1
        simpa using this
      rw [List.getElem?_set_self hd] at ej
      cases ej
      rw [put_same, List.getElem?_set_self hi]
      exact ⟨v, rfl, t.sh⟩
    · rw [List.getElem?_set_ne (Ne.symm hj)] at ej
      rw [put_ne hj, List.getElem?_set_ne (Ne.symm hj)]
      exact s.at' j sw ej
  · by_cases hj : j = i
    · subst hj; rw [put_same]; exact t.nd
    · rw [put_ne hj]; exact s.nod j
  · by_cases hj : j = i
    · subst hj; rw [put_same] at hp; exact t.ok p hp
    · rw [put_ne hj] at hp; exact s.ok j p hp
  · by_cases hj : j = i
    · subst hj
      rw [put_same] at hp
      rw [put_ne (Ne.symm hjk)] at hq
      exact t.sep k p q hp hq
    · by_cases hk : k = i
      · subst hk
        rw [put_same] at hq
        rw [put_ne hj] at hp
        exact Ne.symm (t.sep j q p hq hp)
      · rw [put_ne hj] at hp
        rw [put_ne hk] at hq
        exact s.sep j k p q hjk hp hq
theorem SR.change {Z : Ent K} {F H : Hp} {σ : St} {δ : DSt} {own : Nat → Nodes} {i : Nat} {sv sv' : SV} {a : Addr} {o o' : HO} {v : V} {ns' : Nodes} (s : SR Z F H σ δ own) (e : δ[i]? = some (some sv)) (hv : σ[i]? = some (some v))
    (ha : (a, o) ∈ own i) (hs : Shape K F sv' v ns') (hns : ∀ p ∈ ns', p = (a, o') ∨ (p ∈ own i ∧ p.1 ≠ a)) (nd : (adr ns').Nodup) : SR Z F (upd H a o') σ (δ.set i (some sv')) (put own i ns') := by
  obtain ⟨fa, ha0, hHa⟩ := s.ok i (a, o) ha
  have hi : i < δ.length := (List.getElem?_eq_some_iff.mp e).1
  refine ⟨fun b u eb => ?_, s.fro, fun b u eb => ?_, by rw [List.length_set]; exact s.len, fun j sw ej => ?_, fun j => ?_, fun j p hp => ?_, fun j k p q hjk hp hq => ?_⟩
  · rw [upd_ne fun z => by rw [z] at eb; rw [fa] at eb; cases eb]; exact s.le b u eb
  · rw [upd_ne fun z => by rw [z] at eb; rw [ha0] at eb; cases eb]; exact s.old b u eb
  · by_cases hj : j = i
    · subst hj
      rw [List.getElem?_set_self hi] at ej
      cases ej
      rw [put_same]
      exact ⟨v, hv, hs⟩
    · rw [List.getElem?_set_ne (Ne.symm hj)] at ej
      rw [put_ne hj]
      exact s.at' j sw ej
  · by_cases hj : j = i
    · subst hj; rw [put_same]; exact nd
    · rw [put_ne hj]; exact s.nod j
  · by_cases hj : j = i
    · subst hj
      rw [put_same] at hp
      rcases hns p hp with z | ⟨z, ne⟩
      · subst z; exact ⟨fa, ha0, upd_same⟩
      · obtain ⟨x, y, w⟩ := s.ok j p z
        exact ⟨x, y, by rw [upd_ne ne]; exact w⟩
    · rw [put_ne hj] at hp
      obtain ⟨x, y, w⟩ := s.ok j p hp
      exact ⟨x, y, by rw [upd_ne (s.sep j i p (a, o) hj hp ha)]; exact w⟩
  · have own' : ∀ r ∈ ns', ∃ r' ∈ own i, r.1 = r'.1 := fun r hr => by
      rcases hns r hr with z | ⟨z, _⟩
      · subst z; exact ⟨(a, o), ha, rfl⟩
      · exact ⟨r, z, rfl⟩
    by_cases hj : j = i
    · subst hj
      rw [put_same] at hp
      rw [put_ne (Ne.symm hjk)] at hq
      obtain ⟨r', hr', er⟩ := own' p hp
      rw [er]
      exact s.sep j k r' q hjk hr' hq
    · by_cases hk : k = i
      · subst hk
        rw [put_same] at hq
        rw [put_ne hj] at hp
        obtain ⟨r', hr', er⟩ := own' q hq
        rw [er]
        exact s.sep j k p r' hjk hp hr'
      · rw [put_ne hj] at hp
        rw [put_ne hk] at hq
        exact s.sep j k p q hjk hp hq
end DL

namespace DL
open PySem L2
variable {K : PySem.W.Frag}

noncomputable abbrev FE := DSt → Option (RV × DSt)
noncomputable abbrev FT := DSt → Option (Bool × DSt)
noncomputable abbrev FA := DSt → Option (List RV × DSt)
noncomputable abbrev FD := DSt → Option (List D × DSt)
@[simp] noncomputable def SV.nested : SV → Bool
  | .oN _ _ => true
  | _ => false
@[simp] noncomputable def rdv : RV → DSt → Option D
  | .tmp sv, _ => some sv.toD
  | .bw i, δ => (δ[i]?.join).bind fun sv => if sv.nested then none else some sv.toD
@[simp] noncomputable def frz : RV → DSt → Option (D × DSt)
  | .tmp sv, δ => some (sv.toD, δ)
  | .bw i, δ => (δ[i]?.join).bind fun sv => some (sv.toD, δ.set i (some (.fz sv.toD)))
theorem join_some {δ : DSt} {i : Nat} {sv : SV} (h : δ[i]?.join = some sv) : δ[i]? = some (some sv) := by
  cases e : δ[i]? with
  | none => rw [e] at h; cases h
  | some o => rw [e] at h; cases o with
    | none => cases h
    | some s => cases h; rfl

noncomputable def liftE (Z : Ent K) (f : FE) : TE := fun σ H Q => ∃ F δ own rv δ', SR Z F H σ δ own ∧ f δ = some (rv, δ') ∧
  ∀ v H' F' own', Same H H' → Same F F' → SR Z F' H' σ δ' own' → RVRep Z F' H' σ own' rv v → Q v H'
noncomputable def liftT (Z : Ent K) (f : FT) : TT := fun σ H Q => ∃ F δ own b δ', SR Z F H σ δ own ∧ f δ = some (b, δ') ∧
  ∀ H' F' own', Same H H' → Same F F' → SR Z F' H' σ δ' own' → Q b H'
noncomputable def RVS (K : PySem.W.Frag) (F : Hp) (σ : St) : RV → V → Prop
  | .tmp sv, v => Rep K F sv.toD v
  | .bw i, v => σ[i]? = some (some v)
inductive RVSs (K : PySem.W.Frag) (F : Hp) (σ : St) : List RV → List V → Prop where
  | nil : RVSs K F σ [] []
  | cons {rv : RV} {v : V} {rvs : List RV} {vs : List V} (h : RVS K F σ rv v) (t : RVSs K F σ rvs vs) : RVSs K F σ (rv :: rvs) (v :: vs)
noncomputable def liftA (Z : Ent K) (f : FA) : TA := fun σ H Q => ∃ F δ own rvs δ', SR Z F H σ δ own ∧ f δ = some (rvs, δ') ∧
  ∀ vs H' F' own', Same H H' → Same F F' → SR Z F' H' σ δ' own' → RVSs K F' σ rvs vs → Q vs H'
noncomputable def liftD (Z : Ent K) (f : FD) : TA := fun σ H Q => ∃ F δ own ds δ', SR Z F H σ δ own ∧ f δ = some (ds, δ') ∧
  ∀ vs H' F' own', Same H H' → Same F F' → SR Z F' H' σ δ' own' → Reps K F' ds vs → Q vs H'

section
variable {Z : Ent K} {F H F' H' : Hp} {σ : St} {δ δ' : DSt} {own : Nat → Nodes} {rv : RV} {v : V} {d : D} {Q : VK}
theorem RVS.mono (s : Same F F') (h : RVS K F σ rv v) : RVS K F' σ rv v := by
  cases rv with
  | tmp sv => exact Rep.mono s h
  | bw i => exact h
theorem SR.settleR (s : SR Z F H σ δ own) (h : RVRep Z F H σ own rv v) : ∃ F1, Same F F1 ∧ SR Z F1 H σ δ own ∧ RVS K F1 σ rv v := by
  cases rv with
  | tmp sv => obtain ⟨ns, t⟩ := h; exact s.settle t
  | bw i => exact ⟨F, Same.refl F, s, h⟩
theorem SR.frzR (s : SR Z F H σ δ own) (h : RVS K F σ rv v) (e : frz rv δ = some (d, δ')) : ∃ F1 own1, Same F F1 ∧ SR Z F1 H σ δ' own1 ∧ Rep K F1 d v := by
  cases rv with
  | tmp sv => cases e; exact ⟨F, own, Same.refl F, s, h⟩
  | bw i =>
    obtain ⟨sv, e1, e2⟩ := Option.bind_eq_some_iff.mp e
    cases e2
    obtain ⟨F1, w, h1, h2, h3, h4⟩ := s.freeze (join_some e1)
    have h' : σ[i]? = some (some v) := h
    rw [h'] at h2; cases h2
    exact ⟨F1, _, h1, h4, h3⟩

noncomputable def RepN (K : PySem.W.Frag) (F H : Hp) (d : D) (v : V) : Prop := ∃ sv ns, sv.toD = d ∧ sv.nested = false ∧ Shape K F sv v ns ∧ ∀ p ∈ ns, H p.1 = some p.2
theorem RepN.of (h : Rep K F d v) : RepN K F H d v := ⟨.fz d, [], rfl, rfl, .fz h, fun _ h => nomatch h⟩
theorem SR.rd (s : SR Z F H σ δ own) (h : RVS K F σ rv v) (e : rdv rv δ = some d) : RepN K F H d v := by
  cases rv with
  | tmp sv => cases e; exact RepN.of h
  | bw i =>
    obtain ⟨sv, e1, e2⟩ := Option.bind_eq_some_iff.mp e
    cases hn : sv.nested with
    | true => rw [hn] at e2; cases e2
    | false =>
      rw [hn] at e2
      cases e2
      obtain ⟨w, h1, h2⟩ := s.at' i sv (join_some e1)
      have h' : σ[i]? = some (some v) := h
      rw [h'] at h1; cases h1
      exact ⟨sv, own i, rfl, hn, h2, fun p hp => (s.ok i p hp).2.2⟩
inductive RepNs (K : PySem.W.Frag) (F H : Hp) : List D → List V → Prop where
  | nil : RepNs K F H [] []
  | cons {d : D} {v : V} {ds : List D} {vs : List V} (h : RepN K F H d v) (t : RepNs K F H ds vs) : RepNs K F H (d :: ds) (v :: vs)
theorem RepN.non (h : RepN K F H .non v) : v = .non := by
  obtain ⟨sv, ns, e, n, sh, hp⟩ := h
  cases sh with
  | fz r => cases e; cases r; rfl
  | ol r => cases e
  | oK e' r => cases e
  | oT kb e' r => cases e
  | oN e' r => cases n
theorem RepN.bl {b : Bool} (h : RepN K F H (.bl b) v) : v = .bl b := by
  obtain ⟨sv, ns, e, n, sh, hp⟩ := h
  cases sh with
  | fz r => cases e; cases r; rfl
  | ol r => cases e
  | oK e' r => cases e
  | oT kb e' r => cases e
  | oN e' r => cases n
theorem RepN.int {i : Int} (h : RepN K F H (.int i) v) : v = .int i := by
  obtain ⟨sv, ns, e, n, sh, hp⟩ := h
  cases sh with
  | fz r => cases e; cases r; rfl
  | ol r => cases e
  | oK e' r => cases e
  | oT kb e' r => cases e
  | oN e' r => cases n
theorem RepN.str {x : Str} (h : RepN K F H (.str x) v) : v = .str x := by
  obtain ⟨sv, ns, e, n, sh, hp⟩ := h
  cases sh with
  | fz r => cases e; cases r; rfl
  | ol r => cases e
  | oK e' r => cases e
  | oT kb e' r => cases e
  | oN e' r => cases n
theorem RepN.tup {xs : List D} (le : Same F H) (h : RepN K F H (.tup xs) v) : ∃ a vs, v = .ref a ∧ SqT K H a vs ∧ Reps K F xs vs := by
  obtain ⟨sv, ns, e, n, sh, hp⟩ := h
  cases sh with
  | fz r => cases e; cases r with | tup h r => exact ⟨_, _, rfl, sqT_mono le (tupSq h), r⟩
  | ol r => cases e
  | oK e' r => cases e
  | oT kb e' r => cases e
  | oN e' r => cases n
theorem RepN.lst {xs : List D} (le : Same F H) (h : RepN K F H (.lst xs) v) : ∃ a vs, v = .ref a ∧ SqL K H a vs ∧ Reps K F xs vs := by
  obtain ⟨sv, ns, e, n, sh, hp⟩ := h
  cases sh with
  | fz r => cases e; cases r with | lst h r => exact ⟨_, _, rfl, sqL_mono le h, r⟩
  | ol r => cases e; exact ⟨_, _, rfl, .inl (.inl (hp _ List.mem_cons_self)), r⟩
  | oK e' r => cases e
  | oT kb e' r => cases e
  | oN e' r => cases n
theorem RepN.dK {ks : List Key} {ds : List D} (le : Same F H) (h : RepN K F H (.dK ks ds) v) : ∃ a kvs, v = .ref a ∧ HK H a kvs ∧ kvs.map (·.1) = ks ∧ Reps K F ds (kvs.map (·.2)) := by
  obtain ⟨sv, ns, e, n, sh, hp⟩ := h
  cases sh with
  | fz r => cases e; cases r with | dK h e r => exact ⟨_, _, rfl, ⟨_, le _ _ h⟩, e, r⟩
  | ol r => cases e
  | oK e' r => cases e; exact ⟨_, _, rfl, ⟨_, hp _ List.mem_cons_self⟩, e', r⟩
  | oT kb e' r => cases e
  | oN e' r => cases n
theorem RepN.dT {ks : List (List Key)} {ds : List D} (le : Same F H) (h : RepN K F H (.dT ks ds) v) : ∃ a kvs, v = .ref a ∧ HTt H a kvs ∧ kvs.map (·.1) = ks ∧ Reps K F ds (kvs.map (·.2)) := by
  obtain ⟨sv, ns, e, n, sh, hp⟩ := h
  cases sh with
  | fz r => cases e; cases r with | dT h kb e r => exact ⟨_, _, rfl, ⟨_, _, le _ _ h⟩, e, r⟩
  | ol r => cases e
  | oK e' r => cases e
  | oT kb e' r => cases e; exact ⟨_, _, rfl, ⟨_, _, hp _ List.mem_cons_self⟩, e', r⟩
  | oN e' r => cases n
end

theorem nd1 {a : Addr} : ([a] : List Addr).Nodup := List.nodup_cons.mpr ⟨fun h => (nomatch h), List.nodup_nil⟩
noncomputable def Fin (Z : Ent K) (F H : Hp) (σ : St) (δ : DSt) (own : Nat → Nodes) (sv : SV) (Q : VK) : Prop :=
  ∀ v H' F' ns, Same H H' → Same F F' → SR Z F' H' σ δ own → TmpOk Z F' H' own sv v ns → Q v H'
section
variable {Z : Ent K} {F H : Hp} {σ : St} {δ : DSt} {own : Nat → Nodes} {Q : VK}
theorem Fin.fz {d : D} {v : V} (f : Fin Z F H σ δ own (.fz d) Q) (s : SR Z F H σ δ own) (h : Rep K F d v) : Q v H := f v H F [] (Same.refl H) (Same.refl F) s (.fz h)
theorem Fin.one {sv : SV} {o : HO} {p : Addr} (f : Fin Z F H σ δ own sv Q) (s : SR Z F H σ δ own) (sh : Shape K F sv (.ref p) [(p, o)]) (hp : H p = none) : Q (.ref p) (upd H p o) := by
  have sm := same_new (o := o) hp
  refine f (.ref p) (upd H p o) F [(p, o)] sm (Same.refl F) (s.grow sm) ⟨sh, nd1, fun q hq => ?_, fun i q r hq hr => ?_⟩
  · obtain rfl := List.mem_singleton.mp hq
    exact ⟨s.le.free hp, s.old.free hp, upd_same⟩
  · obtain rfl := List.mem_singleton.mp hq
    intro e
    have e' : p = r.1 := e
    have z := (s.ok i r hr).2.2
    rw [← e', hp] at z; cases z
theorem Fin.lst {xs : List D} {vs : List V} {p : Addr} (f : Fin Z F H σ δ own (.ol xs) Q) (s : SR Z F H σ δ own) (r : Reps K F xs vs) (hp : H p = none) : Q (.ref p) (upd H p (.lst vs)) := f.one s (.ol r) hp
theorem Fin.tup {xs : List D} {vs : List V} {p : Addr} (f : Fin Z F H σ δ own (.fz (.tup xs)) Q) (s : SR Z F H σ δ own) (r : Reps K F xs vs) (hp : H p = none) : Q (.ref p) (upd H p (.tup vs)) := by
  have sm := same_new (o := .tup vs) hp
  have sF : Same F (addL F [(p, .tup vs)]) := addL_same fun q hq => by obtain rfl := List.mem_singleton.mp hq; exact s.le.free hp
  refine f (.ref p) (upd H p (.tup vs)) (addL F [(p, .tup vs)]) [] sm sF ?_ (.fz (.tup upd_same (r.mono sF)))
  refine (s.grow sm).addF (nd1) (fun q hq => ?_) (fun q hq => ?_) (fun q hq => ?_) fun i q u hq hu => ?_
  · obtain rfl := List.mem_singleton.mp hq; exact s.le.free hp
  · obtain rfl := List.mem_singleton.mp hq; exact upd_same
  · obtain rfl := List.mem_singleton.mp hq; exact s.old.free hp
  · obtain rfl := List.mem_singleton.mp hq
    intro e
    have e' : p = u.1 := e
    have z := (s.ok i u hu).2.2
    rw [← e', hp] at z; cases z
end

theorem shape_fz {F : Hp} {d : D} {v : V} {ns : Nodes} (h : Shape K F (.fz d) v ns) : Rep K F d v := by
  cases h with
  | fz r => exact r
/-! ### expressions -/
section
variable {Z : Ent K} {H : Hp} {σ : St} {Q : VK}
@[simp] noncomputable def nameF (i : Nat) : FE := fun δ => match δ[i]? with
  | some (some (.fz d)) => some (.tmp (.fz d), δ)
  | some (some _) => some (.bw i, δ)
  | _ => none
theorem l_var {i : Nat} (h : liftE Z (nameF i) σ H Q) : tVar i σ H Q := by
  obtain ⟨F, δ, own, rv, δ', s, e, k⟩ := h
  unfold nameF at e
  split at e
  · rename_i d hd
    cases e
    obtain ⟨v, h1, h2⟩ := s.at' i _ hd
    exact ⟨v, h1, k v H F own (Same.refl H) (Same.refl F) s ⟨[], .fz (shape_fz h2)⟩⟩
  · rename_i sv hsv hd
    cases e
    obtain ⟨v, h1, h2⟩ := s.at' i _ hd
    exact ⟨v, h1, k v H F own (Same.refl H) (Same.refl F) s h1⟩
  · cases e
@[simp] noncomputable def constF (d : D) : FE := fun δ => some (.tmp (.fz d), δ)
theorem l_const {d : D} {v : V} (hr : ∀ F, Rep K F d v) (h : liftE Z (constF d) σ H Q) : tC v σ H Q := by
  obtain ⟨F, δ, own, rv, δ', s, e, k⟩ := h
  cases e
  exact k v H F own (Same.refl H) (Same.refl F) s ⟨[], .fz (hr F)⟩

/-! arguments, from the left -/
@[simp] noncomputable def argNil : FA := fun δ => some ([], δ)
@[simp] noncomputable def argCons (fe : FE) (fa : FA) : FA := fun δ => (fe δ).bind fun p => (fa p.2).bind fun q => some (p.1 :: q.1, q.2)
theorem l_argNil {R : List V → Hp → Prop} (h : liftA Z argNil σ H R) : tNil σ H R := by
  obtain ⟨F, δ, own, rvs, δ', s, e, k⟩ := h
  cases e
  exact k [] H F own (Same.refl H) (Same.refl F) s .nil
theorem l_argCons {fe : FE} {fa : FA} {R : List V → Hp → Prop} (h : liftA Z (argCons fe fa) σ H R) : tCons (liftE Z fe) (liftA Z fa) σ H R := by
  obtain ⟨F, δ, own, rvs, δ', s, e, k⟩ := h
  obtain ⟨⟨rv, δ1⟩, e1, e2⟩ := Option.bind_eq_some_iff.mp e
  obtain ⟨⟨rr, δ2⟩, e3, e4⟩ := Option.bind_eq_some_iff.mp e2
  cases e4
  refine ⟨F, δ, own, rv, δ1, s, e1, fun v H1 F1 own1 sH sF s1 r1 => ?_⟩
  obtain ⟨F2, sF2, s2, r2⟩ := s1.settleR r1
  exact ⟨F2, δ1, own1, rr, δ2, s2, e3, fun vs H3 F3 own3 sH3 sF3 s3 r3 => k _ H3 F3 own3 (sH.trans sH3) (sF.trans (sF2.trans sF3)) s3 (.cons (r2.mono sF3) r3)⟩
@[simp] noncomputable def readAll : List RV → DSt → Option (List D)
  | [], _ => some []
  | rv :: r, δ => (rdv rv δ).bind fun d => (readAll r δ).bind fun ds => some (d :: ds)
theorem SR.rdAll {F : Hp} {δ : DSt} {own : Nat → Nodes} (s : SR Z F H σ δ own) : ∀ {rvs : List RV} {vs : List V} {ds : List D}, RVSs K F σ rvs vs → readAll rvs δ = some ds → RepNs K F H ds vs
  | _, _, _, .nil, e => by cases e; exact .nil
  | _, _, _, .cons h t, e => by
    obtain ⟨d, e1, e2⟩ := Option.bind_eq_some_iff.mp e
    obtain ⟨ds, e3, e4⟩ := Option.bind_eq_some_iff.mp e2
    cases e4
    exact .cons (s.rd h e1) (s.rdAll t e3)
@[simp] noncomputable def primF (g : List D → Option SV) (fa : FA) : FE := fun δ => (fa δ).bind fun p => (readAll p.1 p.2).bind fun ds => (g ds).bind fun sv => some (.tmp sv, p.2)
noncomputable def PrimN (Z : Ent K) (r : List V → Hp → VK → Prop) (g : List D → Option SV) : Prop :=
  ∀ (F H : Hp) (σ : St) (δ : DSt) (own : Nat → Nodes) (vs : List V) (ds : List D) (sv : SV) (Q : VK), SR Z F H σ δ own → RepNs K F H ds vs → g ds = some sv → Fin Z F H σ δ own sv Q → r vs H Q
theorem l_prim {r : List V → Hp → VK → Prop} {g : List D → Option SV} {fa : FA} (hg : PrimN Z r g) (h : liftE Z (primF g fa) σ H Q) : tCB r (liftA Z fa) σ H Q := by
  obtain ⟨F, δ, own, rv, δ', s, e, k⟩ := h
  obtain ⟨⟨rvs, δ1⟩, e1, e2⟩ := Option.bind_eq_some_iff.mp e
  obtain ⟨ds, e3, e4⟩ := Option.bind_eq_some_iff.mp e2
  obtain ⟨sv, e5, e6⟩ := Option.bind_eq_some_iff.mp e4
  cases e6
  refine ⟨F, δ, own, rvs, δ1, s, e1, fun vs H1 F1 own1 sH sF s1 r1 => ?_⟩
  exact hg F1 H1 σ δ1 own1 vs ds sv Q s1 (s1.rdAll r1 e3) e5 fun v H2 F2 ns sH2 sF2 s2 t => k v H2 F2 own1 (sH.trans sH2) (sF.trans sF2) s2 ⟨ns, t⟩
@[simp] noncomputable def g2 (g : D → D → Option SV) : List D → Option SV
  | [x, y] => g x y
  | _ => none
@[simp] noncomputable def binF (g : D → D → Option SV) (fa fb : FE) : FE := primF (g2 g) (argCons fa (argCons fb argNil))
noncomputable def Prim2 (Z : Ent K) (r : R2) (g : D → D → Option SV) : Prop :=
  ∀ (F H : Hp) (σ : St) (δ : DSt) (own : Nat → Nodes) (x y : V) (d1 d2 : D) (sv : SV) (Q : VK), SR Z F H σ δ own → RepN K F H d1 x → RepN K F H d2 y → g d1 d2 = some sv → Fin Z F H σ δ own sv Q → r x y H Q
theorem l_bin {r : R2} {g : D → D → Option SV} {fa fb : FE} (hg : Prim2 Z r g) (h : liftE Z (binF g fa fb) σ H Q) : tOp r (liftE Z fa) (liftE Z fb) σ H Q := by
  have hN : PrimN Z (fun vs H Q => ∃ x y, vs = [x, y] ∧ r x y H Q) (g2 g) := by
    intro F H σ δ own vs ds sv Q s rs e f
    cases rs with
    | nil => cases e
    | cons h1 t1 =>
      cases t1 with
      | nil => cases e
      | cons h2 t2 =>
        cases t2 with
        | nil => exact ⟨_, _, rfl, hg F H σ δ own _ _ _ _ sv Q s h1 h2 e f⟩
        | cons h3 t3 => cases e
  obtain ⟨F, δ, own, rv, δ', s, e, k⟩ := l_prim hN h
  obtain ⟨⟨rv1, δ1⟩, e1, e2⟩ := Option.bind_eq_some_iff.mp e
  obtain ⟨⟨rr, δ2⟩, e3, e4⟩ := Option.bind_eq_some_iff.mp e2
  cases e4
  obtain ⟨⟨rv2, δ3⟩, e5, e6⟩ := Option.bind_eq_some_iff.mp e3
  obtain ⟨⟨rr', δ4⟩, e7, e8⟩ := Option.bind_eq_some_iff.mp e6
  cases e8
  cases e7
  refine ⟨F, δ, own, rv1, δ1, s, e1, fun v H1 F1 own1 sH sF s1 r1 => ?_⟩
  obtain ⟨F2, sF2, s2, r2⟩ := s1.settleR r1
  refine ⟨F2, δ1, own1, rv2, δ3, s2, e5, fun u H3 F3 own3 sH3 sF3 s3 r3 => ?_⟩
  obtain ⟨F4, sF4, s4, r4⟩ := s3.settleR r3
  obtain ⟨x, y, exy, q⟩ := k [v, u] H3 F4 own3 (sH.trans sH3) (sF.trans (sF2.trans (sF3.trans sF4))) s4 (.cons (r2.mono (sF3.trans sF4)) (.cons r4 .nil))
  injection exy with ex ey
  injection ey with ey _
  subst ex ey
  exact q
@[simp] noncomputable def unF (g : D → Option SV) (fa : FE) : FE := primF (fun | [x] => g x | _ => none) (argCons fa argNil)
noncomputable def Prim1 (Z : Ent K) (r : V → Hp → VK → Prop) (g : D → Option SV) : Prop :=
  ∀ (F H : Hp) (σ : St) (δ : DSt) (own : Nat → Nodes) (x : V) (d : D) (sv : SV) (Q : VK), SR Z F H σ δ own → RepN K F H d x → g d = some sv → Fin Z F H σ δ own sv Q → r x H Q
theorem l_un {r : V → Hp → VK → Prop} {g : D → Option SV} {fa : FE} (hg : Prim1 Z r g) (h : liftE Z (unF g fa) σ H Q) : tUn r (liftE Z fa) σ H Q := by
  obtain ⟨F, δ, own, rv, δ', s, e, k⟩ := h
  obtain ⟨⟨rvs, δ1⟩, e1, e2⟩ := Option.bind_eq_some_iff.mp e
  obtain ⟨ds, e3, e4⟩ := Option.bind_eq_some_iff.mp e2
  obtain ⟨sv, e5, e6⟩ := Option.bind_eq_some_iff.mp e4
  cases e6
  obtain ⟨⟨rv1, δ2⟩, e7, e8⟩ := Option.bind_eq_some_iff.mp e1
  obtain ⟨⟨rr', δ4⟩, e9, e10⟩ := Option.bind_eq_some_iff.mp e8
  cases e10
  cases e9
  obtain ⟨d, e11, e12⟩ := Option.bind_eq_some_iff.mp e3
  cases e12
  refine ⟨F, δ, own, rv1, δ2, s, e7, fun v H1 F1 own1 sH sF s1 r1 => ?_⟩
  obtain ⟨F2, sF2, s2, r2⟩ := s1.settleR r1
  exact hg F2 H1 σ δ2 own1 v d sv Q s2 (s2.rd r2 e11) e5 fun v H2 F2' ns sH2 sF2' s2 t => k v H2 F2' own1 (sH.trans sH2) (sF.trans (sF2.trans sF2')) s2 ⟨ns, t⟩
/-! displays: every item is frozen -/
@[simp] noncomputable def dispNil : FD := fun δ => some ([], δ)
@[simp] noncomputable def dispCons (fe : FE) (fd : FD) : FD := fun δ => (fe δ).bind fun p => (frz p.1 p.2).bind fun q => (fd q.2).bind fun r => some (q.1 :: r.1, r.2)
theorem l_dispNil {R : List V → Hp → Prop} (h : liftD Z dispNil σ H R) : tNil σ H R := by
  obtain ⟨F, δ, own, rvs, δ', s, e, k⟩ := h
  cases e
  exact k [] H F own (Same.refl H) (Same.refl F) s .nil
theorem l_dispCons {fe : FE} {fd : FD} {R : List V → Hp → Prop} (h : liftD Z (dispCons fe fd) σ H R) : tCons (liftE Z fe) (liftD Z fd) σ H R := by
  obtain ⟨F, δ, own, rvs, δ', s, e, k⟩ := h
  obtain ⟨⟨rv, δ1⟩, e1, e2⟩ := Option.bind_eq_some_iff.mp e
  obtain ⟨⟨d, δ2⟩, e3, e4⟩ := Option.bind_eq_some_iff.mp e2
  obtain ⟨⟨ds, δ3⟩, e5, e6⟩ := Option.bind_eq_some_iff.mp e4
  cases e6
  refine ⟨F, δ, own, rv, δ1, s, e1, fun v H1 F1 own1 sH sF s1 r1 => ?_⟩
  obtain ⟨F2, sF2, s2, r2⟩ := s1.settleR r1
  obtain ⟨F3, own3, sF3, s3, r3⟩ := s2.frzR r2 e3
  exact ⟨F3, δ2, own3, ds, δ3, s3, e5, fun vs H4 F4 own4 sH4 sF4 s4 r4 => k _ H4 F4 own4 (sH.trans sH4) (sF.trans (sF2.trans (sF3.trans sF4))) s4 (.cons (r3.mono sF4) r4)⟩
@[simp] noncomputable def tupF (fd : FD) : FE := fun δ => (fd δ).bind fun p => if p.1.length ≤ PySem.sizeLine then some (.tmp (.fz (.tup p.1)), p.2) else none
@[simp] noncomputable def lstF (fd : FD) : FE := fun δ => (fd δ).bind fun p => if p.1.length ≤ PySem.sizeLine then some (.tmp (.ol p.1), p.2) else none
theorem l_tup {fd : FD} (h : liftE Z (tupF fd) σ H Q) : tTup (liftD Z fd) σ H Q := by
  obtain ⟨F, δ, own, rv, δ', s, e, k⟩ := h
  obtain ⟨⟨ds, δ1⟩, e1, e2⟩ := Option.bind_eq_some_iff.mp e
  by_cases hz : ds.length ≤ PySem.sizeLine
  · rw [if_pos hz] at e2
    cases e2
    refine ⟨F, δ, own, ds, δ1, s, e1, fun vs H1 F1 own1 sH sF s1 r1 => ⟨by rw [← r1.length]; exact hz, fun p hp => ?_⟩⟩
    exact Fin.tup (fun v H2 F2 ns a b c t => k v H2 F2 own1 (sH.trans a) (sF.trans b) c ⟨ns, t⟩) s1 r1 hp
  · rw [if_neg hz] at e2; cases e2
theorem l_lst {fd : FD} (h : liftE Z (lstF fd) σ H Q) : tLst (liftD Z fd) σ H Q := by
  obtain ⟨F, δ, own, rv, δ', s, e, k⟩ := h
  obtain ⟨⟨ds, δ1⟩, e1, e2⟩ := Option.bind_eq_some_iff.mp e
  by_cases hz : ds.length ≤ PySem.sizeLine
  · rw [if_pos hz] at e2
    cases e2
    refine ⟨F, δ, own, ds, δ1, s, e1, fun vs H1 F1 own1 sH sF s1 r1 => ⟨by rw [← r1.length]; exact hz, fun p hp => ?_⟩⟩
    exact Fin.lst (fun v H2 F2 ns a b c t => k v H2 F2 own1 (sH.trans a) (sF.trans b) c ⟨ns, t⟩) s1 r1 hp
  · rw [if_neg hz] at e2; cases e2
end

/-! ### a def's contract -/
@[simp] noncomputable def SV.scal : SV → Bool
  | .fz .non => true
  | .fz (.bl _) => true
  | .fz (.int _) => true
  | .fz (.str _) => true
  | _ => false
noncomputable def spOf (K : PySem.W.Frag) (n : Nat) (g : List D → Option SV) : Sp := fun vs H Q _ => ∃ F ds sv, Same F H ∧ Reps K F ds vs ∧ ds.length = n ∧ g ds = some sv ∧
  ∀ v H' F' ns, Same H H' → Same F F' → Same F' H' → (∀ (b : Addr) (o : HO), F' b = some o → F b = some o ∨ H b = none) → Shape K F' sv v ns → (adr ns).Nodup → (∀ p ∈ ns, F' p.1 = none ∧ H p.1 = none ∧ H' p.1 = some p.2) → Q v H'
@[simp] noncomputable def frzAll : List RV → DSt → Option (List D × DSt)
  | [], δ => some ([], δ)
  | rv :: r, δ => (frz rv δ).bind fun p => (frzAll r p.2).bind fun q => some (p.1 :: q.1, q.2)
theorem RVSs.mono {F F' : Hp} {σ : St} (s : Same F F') : ∀ {rvs : List RV} {vs : List V}, RVSs K F σ rvs vs → RVSs K F' σ rvs vs
  | _, _, .nil => .nil
  | _, _, .cons h t => .cons (h.mono s) (t.mono s)
section
variable {Z : Ent K} {H : Hp} {σ : St} {Q : VK}
theorem SR.frzAll {F : Hp} {δ : DSt} {own : Nat → Nodes} : ∀ {rvs : List RV} {vs : List V} {ds : List D} {δ' : DSt} {F : Hp} {δ : DSt} {own : Nat → Nodes}, SR Z F H σ δ own → RVSs K F σ rvs vs → DL.frzAll rvs δ = some (ds, δ') →
    ∃ F1 own1, Same F F1 ∧ SR Z F1 H σ δ' own1 ∧ Reps K F1 ds vs
  | _, _, _, _, F, _, own, s, .nil, e => by cases e; exact ⟨F, own, Same.refl F, s, .nil⟩
  | _, _, _, _, F, _, own, s, .cons h t, e => by
    obtain ⟨⟨d, δ1⟩, e1, e2⟩ := Option.bind_eq_some_iff.mp e
    obtain ⟨⟨ds, δ2⟩, e3, e4⟩ := Option.bind_eq_some_iff.mp e2
    cases e4
    obtain ⟨F1, own1, sF1, s1, r1⟩ := s.frzR h e1
    obtain ⟨F2, own2, sF2, s2, r2⟩ := SR.frzAll (own := own) (F := F) (δ := δ1) s1 (t.mono sF1) e3
    exact ⟨F2, own2, sF1.trans sF2, s2, .cons (r1.mono sF2) r2⟩
@[simp] noncomputable def callF (n : Nat) (g : List D → Option SV) (fa : FA) : FE := fun δ => (fa δ).bind fun p => (DL.frzAll p.1 p.2).bind fun q => if q.1.length = n then (g q.1).bind fun sv => some (.tmp sv, if sv.scal then p.2 else q.2) else none
theorem scal_rep {F F' : Hp} {sv : SV} {v : V} {ns : Nodes} (h : sv.scal = true) (sh : Shape K F sv v ns) : ns = [] ∧ Shape K F' sv v [] := by
  cases sh with
  | fz r => 
    refine ⟨rfl, .fz ?_⟩
    cases r with
    | non => exact .non
    | bl b => exact .bl b
    | int i => exact .int i
    | str x => exact .str x
    | tup _ _ => cases h
    | lst _ _ => cases h
    | dK _ _ _ => cases h
    | dT _ _ _ _ => cases h
    | exc _ _ => cases h
    | exd _ _ _ _ _ => cases h
  | ol _ => cases h
  | oK _ _ => cases h
  | oT _ _ _ => cases h
  | oN _ _ => cases h
theorem l_call {n : Nat} {g : List D → Option SV} {fa : FA} {E : XK} (h : liftE Z (callF n g fa) σ H Q) : tCall (spOf K n g) [] E (liftA Z fa) σ H Q := by
  obtain ⟨F, δ, own, rv, δ', s, e, k⟩ := h
  obtain ⟨⟨rvs, δ1⟩, e1, e2⟩ := Option.bind_eq_some_iff.mp e
  obtain ⟨⟨ds, δ2⟩, e3, e4⟩ := Option.bind_eq_some_iff.mp e2
  by_cases hn : ds.length = n
  · rw [if_pos hn] at e4
    obtain ⟨sv, e5, e6⟩ := Option.bind_eq_some_iff.mp e4
    refine ⟨F, δ, own, rvs, δ1, s, e1, fun vs H1 F1 own1 sH sF s1 r1 => ?_⟩
    obtain ⟨F2, own2, sF2, s2, r2⟩ := s1.frzAll (own := own) (F := F) (δ := δ) r1 e3
    rw [List.append_nil]
    refine ⟨F2, ds, sv, s2.le, r2, hn, e5, fun v H3 F3 ns sH3 sF3 le3 fro3 sh nd ok => ?_⟩
    by_cases hs : sv.scal = true
    · rw [if_pos hs] at e6
      cases e6
      obtain ⟨_, sh'⟩ := scal_rep (F' := F1) hs sh
      exact k v H3 F1 own1 (sH.trans sH3) sF (s1.grow sH3) ⟨[], sh', List.nodup_nil, fun _ h => (nomatch h), fun _ _ _ h => (nomatch h)⟩
    · rw [if_neg hs] at e6
      cases e6
      have s3 : SR Z F3 H3 σ δ2 own2 := by
        refine ⟨le3, fun b o e => ?_, s2.old.trans sH3, s2.len, fun i sw ei => ?_, s2.nod, fun i p hp => ?_, s2.sep⟩
        · rcases fro3 b o e with z | z
          · exact s2.fro b o z
          · exact .inr (s2.old.free z)
        · obtain ⟨w, h1, h2⟩ := s2.at' i sw ei
          exact ⟨w, h1, h2.mono sF3⟩
        · obtain ⟨a, b, c⟩ := s2.ok i p hp
          refine ⟨?_, b, sH3 _ _ c⟩
          cases z : F3 p.1 with
          | none => rfl
          | some u =>
            rcases fro3 _ u z with y | y
            · rw [a] at y; cases y
            · rw [c] at y; cases y
      exact k v H3 F3 own2 (sH.trans sH3) (sF.trans (sF2.trans sF3)) s3 ⟨ns, sh, nd, fun p hp => ⟨(ok p hp).1, (s2.old).free (ok p hp).2.1, (ok p hp).2.2⟩, fun i p q hp hq e => by
        have z := (s2.ok i q hq).2.2
        rw [← e, (ok p hp).2.1] at z; cases z⟩
  · rw [if_neg hn] at e4; cases e4
end
end DL

namespace DL
open PySem L2
variable {K : PySem.W.Frag}

/-! ### tests -/
section
variable {Z : Ent K} {H : Hp} {σ : St} {R : Bool → Hp → Prop} {Q : VK}
@[simp] noncomputable def testF (fe : FE) : FT := fun δ => (fe δ).bind fun p => match p.1 with
  | .tmp (.fz (.bl b)) => some (b, p.2)
  | _ => none
theorem l_test {fe : FE} (h : liftT Z (testF fe) σ H R) : tTest (liftE Z fe) σ H R := by
  obtain ⟨F, δ, own, b, δ', s, e, k⟩ := h
  obtain ⟨⟨rv, δ1⟩, e1, e2⟩ := Option.bind_eq_some_iff.mp e
  refine ⟨F, δ, own, rv, δ1, s, e1, fun v H1 F1 own1 sH sF s1 r1 => ?_⟩
  dsimp only at e2
  split at e2
  · cases e2
    obtain ⟨ns, t⟩ := r1
    cases shape_fz t.sh
    exact ⟨_, rfl, k H1 F1 own1 sH sF s1⟩
  · cases e2
@[simp] noncomputable def andF (f g : FT) : FT := fun δ => (f δ).bind fun p => if p.1 = true then g p.2 else some (false, p.2)
@[simp] noncomputable def orF (f g : FT) : FT := fun δ => (f δ).bind fun p => if p.1 = true then some (true, p.2) else g p.2
@[simp] noncomputable def notF (f : FT) : FT := fun δ => (f δ).bind fun p => some (!p.1, p.2)
theorem l_and {f g : FT} (h : liftT Z (andF f g) σ H R) : tAnd (liftT Z f) (liftT Z g) σ H R := by
  obtain ⟨F, δ, own, b, δ', s, e, k⟩ := h
  obtain ⟨⟨c, δ1⟩, e1, e2⟩ := Option.bind_eq_some_iff.mp e
  refine ⟨F, δ, own, c, δ1, s, e1, fun H1 F1 own1 sH sF s1 => ?_⟩
  cases c with
  | true =>
    rw [if_pos rfl] at e2 ⊢
    exact ⟨F1, δ1, own1, b, δ', s1, e2, fun H2 F2 own2 a c d => k H2 F2 own2 (sH.trans a) (sF.trans c) d⟩
  | false =>
    rw [if_neg Bool.false_ne_true] at e2 ⊢
    cases e2
    exact k H1 F1 own1 sH sF s1
theorem l_or {f g : FT} (h : liftT Z (orF f g) σ H R) : tOr (liftT Z f) (liftT Z g) σ H R := by
  obtain ⟨F, δ, own, b, δ', s, e, k⟩ := h
  obtain ⟨⟨c, δ1⟩, e1, e2⟩ := Option.bind_eq_some_iff.mp e
  refine ⟨F, δ, own, c, δ1, s, e1, fun H1 F1 own1 sH sF s1 => ?_⟩
  cases c with
  | true =>
    rw [if_pos rfl] at e2 ⊢
    cases e2
    exact k H1 F1 own1 sH sF s1
  | false =>
    rw [if_neg Bool.false_ne_true] at e2 ⊢
    exact ⟨F1, δ1, own1, b, δ', s1, e2, fun H2 F2 own2 a c d => k H2 F2 own2 (sH.trans a) (sF.trans c) d⟩
@[simp] noncomputable def andV (f g : FE) : FE := fun δ => (testF f δ).bind fun p => if p.1 = true then g p.2 else some (.tmp (.fz (.bl false)), p.2)
@[simp] noncomputable def orV (f g : FE) : FE := fun δ => (testF f δ).bind fun p => if p.1 = true then some (.tmp (.fz (.bl true)), p.2) else g p.2
@[simp] noncomputable def notV (f : FE) : FE := fun δ => (testF f δ).bind fun p => some (.tmp (.fz (.bl (!p.1))), p.2)
@[simp] noncomputable def ifF (t : FT) (f g : FE) : FE := fun δ => (t δ).bind fun p => if p.1 = true then f p.2 else g p.2
@[simp] noncomputable def chainF (g g' : D → D → Option SV) (fa fb fc : FE) : FE := fun δ => (fa δ).bind fun p => (fb p.2).bind fun q => (rdv p.1 q.2).bind fun x => (rdv q.1 q.2).bind fun y => (g x y).bind fun
  | .fz (.bl true) => (fc q.2).bind fun r => (rdv q.1 r.2).bind fun y' => (rdv r.1 r.2).bind fun z => (g' y' z).bind fun sv => some (.tmp sv, r.2)
  | .fz (.bl false) => some (.tmp (.fz (.bl false)), q.2)
  | _ => none
end

/-! ### statements -/
inductive Fl where
  | nx (δ : DSt) | bk (δ : DSt) | ct (δ : DSt) | rt (sv : SV) | ex (e : Exn) (δ : DSt)
noncomputable abbrev FS := DSt → Option Fl
noncomputable def EndsOk (Z : Ent K) (F : Hp) (D : Ends) : Fl → Prop
  | .nx δ => ∀ σ' H' F' own', Same F F' → SR Z F' H' σ' δ own' → D.nx σ' H'
  | .bk δ => ∀ σ' H' F' own', Same F F' → SR Z F' H' σ' δ own' → D.bk σ' H'
  | .ct δ => ∀ σ' H' F' own', Same F F' → SR Z F' H' σ' δ own' → D.ct σ' H'
  | .rt sv => ∀ v H' F' ns, Same F F' → Same F' H' → (∀ (b : Addr) (o : HO), F' b = some o → Z.f b = some o ∨ Z.h b = none) → Same Z.h H' → Shape K F' sv v ns → (adr ns).Nodup →
      (∀ p ∈ ns, F' p.1 = none ∧ Z.h p.1 = none ∧ H' p.1 = some p.2) → D.rt v H'
  | .ex x δ => ∀ σ' H' F' own' cls od, Same F F' → SR Z F' H' σ' δ own' → ExcRep K F' x cls od → Z.x cls od σ' H'
theorem EndsOk.mono {Z : Ent K} {F F' : Hp} {D : Ends} (s : Same F F') : ∀ {fl : Fl}, EndsOk Z F D fl → EndsOk Z F' D fl
  | .nx _, h => fun σ' H' F2 own' a b => h σ' H' F2 own' (s.trans a) b
  | .bk _, h => fun σ' H' F2 own' a b => h σ' H' F2 own' (s.trans a) b
  | .ct _, h => fun σ' H' F2 own' a b => h σ' H' F2 own' (s.trans a) b
  | .rt _, h => fun v H' F2 ns a => h v H' F2 ns (s.trans a)
  | .ex _ _, h => fun σ' H' F2 own' cls od a => h σ' H' F2 own' cls od (s.trans a)
noncomputable def liftS (Z : Ent K) (f : FS) : TS := fun D σ H => ∃ F δ own fl, SR Z F H σ δ own ∧ f δ = some fl ∧ EndsOk Z F D fl
section
variable {Z : Ent K} {H : Hp} {σ : St} {E : Ends}
@[simp] noncomputable def nextF : FS := fun δ => some (.nx δ)
@[simp] noncomputable def breakF : FS := fun δ => some (.bk δ)
@[simp] noncomputable def contF : FS := fun δ => some (.ct δ)
theorem l_next (h : liftS Z nextF E σ H) : tNext E σ H := by
  obtain ⟨F, δ, own, fl, s, e, k⟩ := h
  cases e
  exact k σ H F own (Same.refl F) s
@[simp] noncomputable def seqF (f g : FS) : FS := fun δ => (f δ).bind fun
  | .nx δ' => g δ'
  | fl => some fl
theorem l_seq {f g : FS} (h : liftS Z (seqF f g) E σ H) : tSeq (liftS Z f) (liftS Z g) E σ H := by
  obtain ⟨F, δ, own, fl, s, e, k⟩ := h
  obtain ⟨f1, e1, e2⟩ := Option.bind_eq_some_iff.mp e
  refine ⟨F, δ, own, f1, s, e1, ?_⟩
  cases f1 with
  | nx δ1 => exact fun σ' H' F' own' sF s' => ⟨F', δ1, own', fl, s', e2, k.mono sF⟩
  | bk δ1 => cases e2; exact k
  | ct δ1 => cases e2; exact k
  | rt sv => cases e2; exact k
  | ex x δ1 => cases e2; exact k
@[simp] noncomputable def ifS (t : FT) (f g : FS) : FS := fun δ => (t δ).bind fun p => if p.1 = true then f p.2 else g p.2
theorem l_ifS {t : FT} {f g : FS} (h : liftS Z (ifS t f g) E σ H) : tIfS (liftT Z t) (liftS Z f) (liftS Z g) E σ H := by
  obtain ⟨F, δ, own, fl, s, e, k⟩ := h
  obtain ⟨⟨c, δ1⟩, e1, e2⟩ := Option.bind_eq_some_iff.mp e
  refine ⟨F, δ, own, c, δ1, s, e1, fun H1 F1 own1 sH sF s1 => ?_⟩
  cases c with
  | true => rw [if_pos rfl] at e2 ⊢; exact ⟨F1, δ1, own1, fl, s1, e2, k.mono sF⟩
  | false => rw [if_neg Bool.false_ne_true] at e2 ⊢; exact ⟨F1, δ1, own1, fl, s1, e2, k.mono sF⟩
@[simp] noncomputable def dropF (fe : FE) : FS := fun δ => (fe δ).bind fun p => some (.nx p.2)
@[simp] noncomputable def outF : RV → DSt → Option SV
  | .tmp sv, _ => some sv
  | .bw i, δ => δ[i]?.join
@[simp] noncomputable def retF (fe : FE) : FS := fun δ => (fe δ).bind fun p => (outF p.1 p.2).bind fun sv => some (.rt sv)
theorem l_ret {fe : FE} (h : liftS Z (retF fe) E σ H) : tRet (liftE Z fe) E σ H := by
  obtain ⟨F, δ, own, fl, s, e, k⟩ := h
  obtain ⟨⟨rv, δ1⟩, e1, e2⟩ := Option.bind_eq_some_iff.mp e
  obtain ⟨sv, e3, e4⟩ := Option.bind_eq_some_iff.mp e2
  cases e4
  refine ⟨F, δ, own, rv, δ1, s, e1, fun v H1 F1 own1 sH sF s1 r1 => ?_⟩
  cases rv with
  | tmp sw =>
    cases e3
    obtain ⟨ns, t⟩ := r1
    exact k v H1 F1 ns sF s1.le s1.fro s1.old t.sh t.nd t.ok
  | bw i =>
    obtain ⟨w, h1, h2⟩ := s1.at' i sv (join_some e3)
    have r1' : σ[i]? = some (some v) := r1
    rw [r1'] at h1; cases h1
    exact k v H1 F1 (own1 i) sF s1.le s1.fro s1.old h2 (s1.nod i) (s1.ok i)
@[simp] noncomputable def retN : FS := fun δ => some (.rt (.fz .non))
@[simp] noncomputable def stow (i : Nat) : RV → DSt → Option DSt
  | .tmp sv, δ => if i < δ.length then some (δ.set i (some sv)) else none
  | .bw j, δ => (frz (.bw j) δ).bind fun p => if i < p.2.length then some (p.2.set i (some (.fz p.1))) else none
theorem SR.stow {F : Hp} {δ δ' : DSt} {own : Nat → Nodes} {i : Nat} {rv : RV} {v : V} (s : SR Z F H σ δ own) (r : RVRep Z F H σ own rv v) (e : DL.stow i rv δ = some δ') : ∃ F' own', Same F F' ∧ SR Z F' H (σ.set i (some v)) δ' own' := by
  cases rv with
  | tmp sv =>
    obtain ⟨ns, t⟩ := r
    have e : (if i < δ.length then some (δ.set i (some sv)) else none) = some δ' := e
    by_cases hi : i < δ.length
    · rw [if_pos hi] at e; cases e
      exact ⟨F, _, Same.refl F, s.store t (by rw [s.len]; exact hi)⟩
    · rw [if_neg hi] at e; cases e
  | bw j =>
    obtain ⟨⟨d, δ1⟩, e1, e2⟩ := Option.bind_eq_some_iff.mp e
    obtain ⟨F1, own1, sF, s1, r1⟩ := s.frzR (rv := .bw j) (v := v) r e1
    by_cases hi : i < δ1.length
    · rw [if_pos hi] at e2; cases e2
      exact ⟨F1, _, sF, s1.store (.fz r1) (by rw [s1.len]; exact hi)⟩
    · rw [if_neg hi] at e2; cases e2
@[simp] noncomputable def setF (i : Nat) (fe : FE) : FS := fun δ => (fe δ).bind fun p => (stow i p.1 p.2).bind fun δ' => some (.nx δ')
theorem l_set {i : Nat} {fe : FE} (h : liftS Z (setF i fe) E σ H) : tAsg (liftE Z fe) (gName i) E σ H := by
  obtain ⟨F, δ, own, fl, s, e, k⟩ := h
  obtain ⟨⟨rv, δ1⟩, e1, e2⟩ := Option.bind_eq_some_iff.mp e
  obtain ⟨δ2, e3, e4⟩ := Option.bind_eq_some_iff.mp e2
  cases e4
  refine ⟨F, δ, own, rv, δ1, s, e1, fun v H1 F1 own1 sH sF s1 r1 => ?_⟩
  obtain ⟨F2, own2, sF2, s2⟩ := s1.stow r1 e3
  exact k _ H1 F2 own2 (sF.trans sF2) s2
/-! targets -/
structure FG where
  run : D → DSt → Option DSt
  tch : List Nat
structure FGs where
  run : List D → DSt → Option DSt
  tch : List Nat
noncomputable def liftG (Z : Ent K) (g : FG) : TG := fun v σ H Q => ∃ F δ own d δ', SR Z F H σ δ own ∧ Rep K F d v ∧ g.run d δ = some δ' ∧ ∀ σ' own', SR Z F H σ' δ' own' → (∀ j : Nat, j ∉ g.tch → σ'[j]? = σ[j]?) → Q σ' H
noncomputable def liftGs (Z : Ent K) (g : FGs) : TGs := fun vs σ H Q => ∃ F δ own ds δ', SR Z F H σ δ own ∧ Reps K F ds vs ∧ g.run ds δ = some δ' ∧ ∀ σ' own', SR Z F H σ' δ' own' → (∀ j : Nat, j ∉ g.tch → σ'[j]? = σ[j]?) → Q σ' H
noncomputable def gNameF (i : Nat) : FG := ⟨fun d δ => if i < δ.length then some (δ.set i (some (.fz d))) else none, [i]⟩
theorem l_gName {i : Nat} {v : V} {Q : St → Hp → Prop} (h : liftG Z (gNameF i) v σ H Q) : gName i v σ H Q := by
  obtain ⟨F, δ, own, d, δ', s, r, e, k⟩ := h
  have e : (if i < δ.length then some (δ.set i (some (.fz d))) else none) = some δ' := e
  by_cases hi : i < δ.length
  · rw [if_pos hi] at e; cases e
    exact k _ _ (s.store (.fz r) (by rw [s.len]; exact hi)) fun j hj => List.getElem?_set_ne fun z => hj (by rw [z]; exact List.mem_cons_self)
  · rw [if_neg hi] at e; cases e
noncomputable def gNilF : FGs := ⟨fun ds δ => match ds with
  | [] => some δ
  | _ => none, []⟩
noncomputable def gConsF (g : FG) (r : FGs) : FGs := ⟨fun ds δ => match ds with
  | d :: t => (g.run d δ).bind fun δ1 => r.run t δ1
  | [] => none, g.tch ++ r.tch⟩
@[simp] theorem gName_run (i : Nat) (d : D) (δ : DSt) : (gNameF i).run d δ = if i < δ.length then some (δ.set i (some (.fz d))) else none := rfl
@[simp] theorem gNil_run (δ : DSt) : gNilF.run [] δ = some δ := rfl
@[simp] theorem gCons_run (g : FG) (r : FGs) (d : D) (t : List D) (δ : DSt) : (gConsF g r).run (d :: t) δ = (g.run d δ).bind fun δ1 => r.run t δ1 := rfl
theorem l_gNil {vs : List V} {Q : St → Hp → Prop} (h : liftGs Z gNilF vs σ H Q) : gNil vs σ H Q := by
  obtain ⟨F, δ, own, ds, δ', s, r, e, k⟩ := h
  cases r with
  | nil => cases e; exact ⟨rfl, k σ own s fun _ _ => rfl⟩
  | cons h t => cases e
theorem l_gCons {g : FG} {r : FGs} {vs : List V} {Q : St → Hp → Prop} (h : liftGs Z (gConsF g r) vs σ H Q) : gCons (liftG Z g) (liftGs Z r) vs σ H Q := by
  obtain ⟨F, δ, own, ds, δ', s, rr, e, k⟩ := h
  cases rr with
  | nil => cases e
  | cons h t =>
    obtain ⟨δ1, e1, e2⟩ := Option.bind_eq_some_iff.mp e
    exact ⟨_, _, rfl, F, δ, own, _, δ1, s, h, e1, fun σ1 own1 s1 t1 => ⟨F, δ1, own1, _, δ', s1, t, e2, fun σ2 own2 s2 t2 => k σ2 own2 s2 fun j hj => (t2 j fun z => hj (List.mem_append_right _ z)).trans (t1 j fun z => hj (List.mem_append_left _ z))⟩⟩
noncomputable def gTupF (n : Nat) (g : FGs) : FG := ⟨fun d δ => match d with
  | .tup xs => if xs.length = n then g.run xs δ else none
  | _ => none, g.tch⟩
@[simp] theorem gTup_run (n : Nat) (g : FGs) (xs : List D) (δ : DSt) : (gTupF n g).run (.tup xs) δ = if xs.length = n then g.run xs δ else none := rfl
theorem l_gTup {n : Nat} {g : FGs} {v : V} {Q : St → Hp → Prop} (h : liftG Z (gTupF n g) v σ H Q) : gTup K n (liftGs Z g) v σ H Q := by
  obtain ⟨F, δ, own, d, δ', s, r, e, k⟩ := h
  dsimp only [gTupF] at e
  split at e
  · rename_i xs
    by_cases hn : xs.length = n
    · rw [if_pos hn] at e
      cases r with
      | tup h r => exact ⟨_, _, rfl, sqT_mono s.le (tupSq h), by rw [← r.length]; exact hn, F, δ, own, _, δ', s, r, e, k⟩
    · rw [if_neg hn] at e; cases e
  · cases e
@[simp] noncomputable def unpackF (g : FG) (fe : FE) : FS := fun δ => (fe δ).bind fun p => (frz p.1 p.2).bind fun q => (g.run q.1 q.2).bind fun δ' => some (.nx δ')
theorem l_unpack {g : FG} {fe : FE} (h : liftS Z (unpackF g fe) E σ H) : tAsg (liftE Z fe) (liftG Z g) E σ H := by
  obtain ⟨F, δ, own, fl, s, e, k⟩ := h
  obtain ⟨⟨rv, δ1⟩, e1, e2⟩ := Option.bind_eq_some_iff.mp e
  obtain ⟨⟨d, δ2⟩, e3, e4⟩ := Option.bind_eq_some_iff.mp e2
  obtain ⟨δ3, e5, e6⟩ := Option.bind_eq_some_iff.mp e4
  cases e6
  refine ⟨F, δ, own, rv, δ1, s, e1, fun v H1 F1 own1 sH sF s1 r1 => ?_⟩
  obtain ⟨F2, sF2, s2, r2⟩ := s1.settleR r1
  obtain ⟨F3, own3, sF3, s3, r3⟩ := s2.frzR r2 e3
  exact ⟨F3, δ2, own3, d, δ3, s3, r3, e5, fun σ' own' s' _ => k σ' H1 F3 own' (sF.trans (sF2.trans sF3)) s'⟩

/-! ### loops -/
@[simp] noncomputable def forD (tg : FG) (body : FS) : List D → DSt → Option Fl
  | [], δ => some (.nx δ)
  | d :: ds, δ => (tg.run d δ).bind fun δ1 => (body δ1).bind fun
    | .nx δ2 => forD tg body ds δ2
    | .ct δ2 => forD tg body ds δ2
    | .bk δ2 => some (.nx δ2)
    | .rt sv => some (.rt sv)
    | .ex x δ2 => some (.ex x δ2)
noncomputable def Yields (K : PySem.W.Frag) (J : It) (F : Hp) (ds : List D) : Prop := ∀ F' H, Same F F' → Same F' H → ∀ i : Nat,
  (∀ d, ds[i]? = some d → J.go i H ∧ ∀ x H', J.yld i H x H' → Same H H' ∧ ∃ ns, (adr ns).Nodup ∧ (∀ p ∈ ns, H p.1 = none ∧ H' p.1 = some p.2) ∧ Rep K (addL F' ns) d x) ∧ (ds.length ≤ i → J.stop i H)
noncomputable def liftI (Z : Ent K) (f : FD) : TI := fun σ H R => ∃ F δ own ds δ', SR Z F H σ δ own ∧ f δ = some (ds, δ') ∧
  ∀ J H' F' own', Same H H' → Same F F' → SR Z F' H' σ δ' own' → Yields K J F' ds → R J H'
@[simp] noncomputable def forF (fi : FD) (tg : FG) (body : FS) : FS := fun δ => (fi δ).bind fun p => forD tg body p.1 p.2
theorem SR.fresh {F H' : Hp} {δ : DSt} {own : Nat → Nodes} {ns : Nodes} (s : SR Z F H σ δ own) (sm : Same H H') (nd : (adr ns).Nodup) (h : ∀ p ∈ ns, H p.1 = none ∧ H' p.1 = some p.2) : Same F (addL F ns) ∧ SR Z (addL F ns) H' σ δ own := by
  refine ⟨addL_same fun p hp => s.le.free (h p hp).1, (s.grow sm).addF nd (fun p hp => s.le.free (h p hp).1) (fun p hp => (h p hp).2) (fun p hp => s.old.free (h p hp).1) fun i p q hp hq e => ?_⟩
  have z := (s.ok i q hq).2.2
  rw [← e, (h p hp).1] at z; cases z
theorem l_for {fi : FD} {tg : FG} {body : FS} (h : liftS Z (forF fi tg body) E σ H) : tFor (liftI Z fi) (liftG Z tg) (liftS Z body) E σ H := by
  obtain ⟨F, δ, own, fl, s, e, k⟩ := h
  obtain ⟨⟨ds, δ1⟩, e1, e2⟩ := Option.bind_eq_some_iff.mp e
  refine ⟨F, δ, own, ds, δ1, s, e1, fun J H1 F1 own1 sH sF s1 yl => ?_⟩
  refine ⟨fun i m σ H => m = ds.length - i ∧ i ≤ ds.length ∧ ∃ F δ own, Same F1 F ∧ SR Z F H σ δ own ∧ forD tg body (ds.drop i) δ = some fl, ⟨ds.length, by simp, Nat.zero_le _, F1, δ1, own1, Same.refl F1, s1, e2⟩, ?_⟩
  rintro i m σ' H' ⟨rfl, hi, F2, δ2, own2, sF2, s2, ef⟩
  by_cases hlt : i < ds.length
  · have hd : ds[i]? = some ds[i] := by simp [hlt]
    obtain ⟨go, yy⟩ := (yl F2 H' sF2 s2.le i).1 _ hd
    rw [List.drop_eq_getElem_cons hlt] at ef
    obtain ⟨δ3, e3, e4⟩ := Option.bind_eq_some_iff.mp ef
    obtain ⟨f1, e5, e6⟩ := Option.bind_eq_some_iff.mp e4
    refine .inr ⟨go, fun σ4 H4 => ∃ F δ own, Same F1 F ∧ SR Z F H4 σ4 δ own ∧ forD tg body (ds.drop (i + 1)) δ = some fl, fun σ4 H4 ⟨F4, δ4, own4, a, b, c⟩ => ⟨ds.length - (i + 1), by omega, rfl, hlt, F4, δ4, own4, a, b, c⟩, fun x H3 hy => ?_⟩
    obtain ⟨sm, ns, nd, hn, rp⟩ := yy x H3 hy
    obtain ⟨sFn, sn⟩ := s2.fresh sm nd hn
    refine ⟨addL F2 ns, δ2, own2, _, δ3, sn, rp, e3, fun σ5 own5 s5 _ => ⟨addL F2 ns, δ3, own5, f1, s5, e5, ?_⟩⟩
    cases f1 with
    | nx δ6 => exact fun σ6 H6 F6 own6 a b => ⟨F6, δ6, own6, sF2.trans (sFn.trans a), b, e6⟩
    | ct δ6 => exact fun σ6 H6 F6 own6 a b => ⟨F6, δ6, own6, sF2.trans (sFn.trans a), b, e6⟩
    | bk δ6 =>
      cases e6
      exact fun σ6 H6 F6 own6 a b => k σ6 H6 F6 own6 (sF.trans (sF2.trans (sFn.trans a))) b
    | rt sv =>
      cases e6
      exact fun v H6 F6 ns6 a => k v H6 F6 ns6 (sF.trans (sF2.trans (sFn.trans a)))
    | ex x δ6 =>
      cases e6
      exact fun σ6 H6 F6 own6 cls od a => k σ6 H6 F6 own6 cls od (sF.trans (sF2.trans (sFn.trans a)))
  · have hz : i = ds.length := by omega
    subst hz
    rw [List.drop_length] at ef
    cases ef
    exact .inl ⟨(yl F2 H' sF2 s2.le _).2 (Nat.le_refl _), k σ' H' F2 own2 (sF.trans sF2) s2⟩
noncomputable def whileD (t : FT) (body : FS) : Nat → DSt → Option Fl
  | 0, _ => none
  | n + 1, δ => (t δ).bind fun p => if p.1 = true then (body p.2).bind (fun
    | .nx δ2 => whileD t body n δ2
    | .ct δ2 => whileD t body n δ2
    | .bk δ2 => some (.nx δ2)
    | .rt sv => some (.rt sv)
    | .ex x δ2 => some (.ex x δ2)) else some (.nx p.2)
theorem l_while {n : Nat} {t : FT} {body : FS} (h : liftS Z (whileD t body n) E σ H) : tWhile (liftT Z t) (liftS Z body) E σ H := by
  obtain ⟨F, δ, own, fl, s, e, k⟩ := h
  refine ⟨fun m σ H => ∃ F2 δ own, Same F F2 ∧ SR Z F2 H σ δ own ∧ whileD t body m δ = some fl, ⟨n, F, δ, own, Same.refl F, s, e⟩, ?_⟩
  rintro m σ1 H1 ⟨F1, δ1, own1, sF1, s1, e1⟩
  cases m with
  | zero => cases e1
  | succ m =>
    obtain ⟨⟨c, δ2⟩, e2, e3⟩ := Option.bind_eq_some_iff.mp e1
    refine ⟨F1, δ1, own1, c, δ2, s1, e2, fun H2 F2 own2 sH sF2 s2 => ?_⟩
    cases c with
    | false =>
      rw [if_neg Bool.false_ne_true] at e3 ⊢
      cases e3
      exact k σ1 H2 F2 own2 (sF1.trans sF2) s2
    | true =>
      rw [if_pos rfl] at e3 ⊢
      obtain ⟨f1, e4, e5⟩ := Option.bind_eq_some_iff.mp e3
      refine ⟨fun σ' H' => ∃ F2 δ own, Same F F2 ∧ SR Z F2 H' σ' δ own ∧ whileD t body m δ = some fl, fun σ' H' w => ⟨m, Nat.lt_succ_self m, w⟩, F2, δ2, own2, f1, s2, e4, ?_⟩
      cases f1 with
      | nx δ6 => exact fun σ6 H6 F6 own6 a b => ⟨F6, δ6, own6, sF1.trans (sF2.trans a), b, e5⟩
      | ct δ6 => exact fun σ6 H6 F6 own6 a b => ⟨F6, δ6, own6, sF1.trans (sF2.trans a), b, e5⟩
      | bk δ6 =>
        cases e5
        exact fun σ6 H6 F6 own6 a b => k σ6 H6 F6 own6 (sF1.trans (sF2.trans a)) b
      | rt sv =>
        cases e5
        exact fun v H6 F6 ns6 a => k v H6 F6 ns6 (sF1.trans (sF2.trans a))
      | ex x δ6 =>
        cases e5
        exact fun σ6 H6 F6 own6 cls od a => k σ6 H6 F6 own6 cls od (sF1.trans (sF2.trans a))
/-! what is walked: a list or a tuple, frozen; a range -/
@[simp] noncomputable def seqI (fe : FE) : FD := fun δ => (fe δ).bind fun p => (frz p.1 p.2).bind fun q => match q.1 with
  | .lst xs => some (xs, q.2)
  | .tup xs => some (xs, q.2)
  | _ => none
noncomputable def iSeq (K : PySem.W.Frag) (tl : TE) : TI := fun σ H R => tl σ H fun x H1 => (∃ a, x = .ref a ∧ (∃ xs, SqL K H1 a xs) ∧ R (Itl K a) H1) ∨ (∃ a, x = .ref a ∧ (∃ xs, SqT K H1 a xs) ∧ R (Itt K a) H1)
theorem yields_list {F : Hp} {a : Addr} {xs : List D} {vs : List V} (h : SqL K F a vs) (r : Reps K F xs vs) : Yields K (Itl K a) F xs := fun F' H sF sH i => by
  have q : SqL K H a vs := sqL_mono (sF.trans sH) h
  refine ⟨fun d hd => ?_, fun hl => ⟨vs, q, by rw [← r.length]; exact hl⟩⟩
  obtain ⟨v, h1, h2⟩ := r.get hd
  refine ⟨⟨vs, v, q, h1⟩, fun x H' ⟨e1, e2⟩ => ?_⟩
  subst e1
  have e3 := e2 vs q
  rw [h1] at e3; cases e3
  exact ⟨Same.refl _, [], List.nodup_nil, fun _ h => (nomatch h), h2.mono sF⟩
theorem yields_tup {F : Hp} {a : Addr} {xs : List D} {vs : List V} (h : SqT K F a vs) (r : Reps K F xs vs) : Yields K (Itt K a) F xs := fun F' H sF sH i => by
  have q : SqT K H a vs := sqT_mono (sF.trans sH) h
  refine ⟨fun d hd => ?_, fun hl => ⟨vs, q, by rw [← r.length]; exact hl⟩⟩
  obtain ⟨v, h1, h2⟩ := r.get hd
  refine ⟨⟨vs, v, q, h1⟩, fun x H' ⟨e1, e2⟩ => ?_⟩
  subst e1
  have e3 := e2 vs q
  rw [h1] at e3; cases e3
  exact ⟨Same.refl _, [], List.nodup_nil, fun _ h => (nomatch h), h2.mono sF⟩
noncomputable def intsD (lo : Int) (n : Nat) : List D := (List.range n).map fun i => .int (lo + (i : Nat))
theorem yields_range {lo : Int} {n : Nat} {F : Hp} : Yields K (Itr lo n) F (intsD lo n) := fun F' H sF sH i => by
  have hl : (intsD lo n).length = n := by unfold intsD; rw [List.length_map, List.length_range]
  refine ⟨fun d hd => ?_, fun h => by rw [hl] at h; exact h⟩
  have hi : i < n := by
    have := (List.getElem?_eq_some_iff.mp hd).1
    rw [hl] at this; exact this
  refine ⟨hi, fun x H' ⟨e1, e2⟩ => ?_⟩
  subst e1 e2
  unfold intsD at hd
  rw [List.getElem?_map, List.getElem?_range hi] at hd
  cases hd
  exact ⟨Same.refl _, [], List.nodup_nil, fun _ h => (nomatch h), .int _⟩
noncomputable def rngP (j : Int) : Prop := -(2 ^ 62) ≤ j ∧ j < 2 ^ 62
theorem rngP_of {j : Int} (h0 : 0 ≤ j) (h : j ≤ 16777216) : rngP j := ⟨by omega, by omega⟩
theorem rngP_nat {n : Nat} (h : n ≤ 16777216) : rngP (n : Int) := rngP_of (by omega) (by omega)
open Classical in
@[simp] noncomputable def rngI (fa : FA) : FD := fun δ => (fa δ).bind fun p => match readAll p.1 p.2 with
  | some [.int j] => if rngP j then some (intsD 0 j.toNat, p.2) else none
  | _ => none
theorem l_rngI {fa : FA} {R : It → Hp → Prop} (h : liftI Z (rngI fa) σ H R) : iRng1 (liftA Z fa) σ H R := by
  obtain ⟨F, δ, own, ds, δ', s, e, k⟩ := h
  obtain ⟨⟨rvs, δ1⟩, e1, e2⟩ := Option.bind_eq_some_iff.mp e
  refine ⟨F, δ, own, rvs, δ1, s, e1, fun vs H1 F1 own1 sH sF s1 r1 => ?_⟩
  dsimp only at e2
  split at e2
  · rename_i j hj
    have rn := s1.rdAll r1 hj
    cases rn with
    | cons h t =>
      cases t
      by_cases hb : rngP j
      · rw [if_pos hb] at e2
        cases e2
        exact ⟨j, by rw [h.int], hb.1, hb.2, k _ H1 F1 own1 sH sF s1 yields_range⟩
      · rw [if_neg hb] at e2; cases e2
  · cases e2
/-! x.append(e) -/
@[simp] noncomputable def appF (i : Nat) (fe : FE) : FS := fun δ => match δ[i]? with
  | some (some (.ol _)) => (fe δ).bind fun p => (frz p.1 p.2).bind fun q => match q.2[i]? with
    | some (some (.ol xs)) => if xs.length < PySem.sizeLine then some (.nx (q.2.set i (some (.ol (xs ++ [q.1]))))) else none
    | _ => none
  | _ => none
theorem shape_ol {F : Hp} {xs : List D} {v : V} {ns : Nodes} (h : Shape K F (.ol xs) v ns) : ∃ a vs, v = .ref a ∧ ns = [(a, .lst vs)] ∧ Reps K F xs vs := by
  cases h with
  | ol r => exact ⟨_, _, rfl, rfl, r⟩
theorem l_app {i : Nat} {fe : FE} (h : liftS Z (appF i fe) E σ H) : tDrop (tBM K "list" rAppend (tVar i) (tCons (liftE Z fe) tNil)) E σ H := by
  obtain ⟨F, δ, own, fl, s, e, k⟩ := h
  unfold appF at e
  split at e
  · rename_i xs0 hx0
    obtain ⟨⟨rv, δ1⟩, e1, e2⟩ := Option.bind_eq_some_iff.mp e
    obtain ⟨⟨d, δ2⟩, e3, e4⟩ := Option.bind_eq_some_iff.mp e2
    obtain ⟨v, hv, sh⟩ := s.at' i _ hx0
    obtain ⟨a, vs0, ev, en, r0⟩ := shape_ol sh
    refine ⟨v, hv, ?_, F, δ, own, rv, δ1, s, e1, fun y H1 F1 own1 sH sF s1 r1 => ?_⟩
    · subst ev
      exact .inl ⟨rfl, vs0, .inl (.inl (s.ok i (a, .lst vs0) (by rw [en]; exact List.mem_cons_self)).2.2)⟩
    obtain ⟨F2, sF2, s2, r2⟩ := s1.settleR r1
    obtain ⟨F3, own3, sF3, s3, r3⟩ := s2.frzR r2 e3
    dsimp only at e4
    split at e4
    · rename_i xs hx
      by_cases hz : xs.length < PySem.sizeLine
      · rw [if_pos hz] at e4
        cases e4
        obtain ⟨v', hv', sh'⟩ := s3.at' i _ hx
        rw [hv] at hv'; cases hv'
        obtain ⟨b, vs, eb, en', r'⟩ := shape_ol sh'
        have mb : (b, HO.lst vs) ∈ own3 i := by rw [en']; exact List.mem_cons_self
        subst eb
        refine ⟨b, vs, y, rfl, rfl, (s3.ok i _ mb).2.2, by rw [← r'.length]; exact hz, ?_⟩
        exact k σ _ F3 _ (sF.trans (sF2.trans sF3)) (s3.change (sv' := .ol (xs ++ [d])) (o' := .lst (vs ++ [y])) (ns' := [(b, .lst (vs ++ [y]))]) hx hv mb (.ol (r'.snoc r3)) (fun p hp => .inl (List.mem_singleton.mp hp)) nd1)
      · rw [if_neg hz] at e4; cases e4
    · cases e4
  · cases e
end
/-! ### the body of a def -/
@[simp] noncomputable def startD (n : Nat) (ds : List D) : DSt := ds.map (fun d => some (.fz d)) ++ List.replicate (n - ds.length) none
theorem sr_start {N : List Str} {F H : Hp} {ds : List D} {vs : List V} (le : Same F H) (r : Reps K F ds vs) : SR (ent H F : Ent K) F H (L2.start N vs) (startD N.length ds) fun _ => [] := by
  have hl := r.length
  refine ⟨le, fun b o e => .inl e, Same.refl H, ?_, fun i sv e => ?_, fun _ => List.nodup_nil, fun _ _ h => (nomatch h), fun _ _ _ _ _ h => (nomatch h)⟩
  · unfold L2.start startD
    rw [List.length_append, List.length_append, List.length_map, List.length_map, List.length_replicate, List.length_replicate, hl]
  · unfold startD at e
    by_cases hi : i < ds.length
    · rw [List.getElem?_append_left (by simpa using hi), List.getElem?_map] at e
      cases hd : ds[i]? with
      | none => rw [hd] at e; cases e
      | some d =>
        rw [hd] at e; cases e
        obtain ⟨v, h1, h2⟩ := r.get hd
        refine ⟨v, ?_, .fz h2⟩
        unfold L2.start
        rw [List.getElem?_append_left (by rw [List.length_map]; omega), List.getElem?_map, h1]
        rfl
    · rw [List.getElem?_append_right (by simpa using hi), List.getElem?_replicate] at e
      split at e <;> cases e
theorem spOf_len {n : Nat} {g : List D → Option SV} {vs : List V} {H : Hp} {Q : VK} {E : XK} (h : spOf K n g vs H Q E) : vs.length = n := by
  obtain ⟨F, ds, sv, le, r, hn, e, k⟩ := h
  rw [← r.length]; exact hn
end DL

namespace DL
open PySem L2
variable {K : PySem.W.Frag}
/-! ### a list comprehension -/
noncomputable def xG (K : PySem.W.Frag) (g : FG) : TG := fun v σ H Q => ∃ Z : Ent K, liftG Z g v σ H Q
noncomputable def xT (K : PySem.W.Frag) (f : FT) : TT := fun σ H Q => ∃ Z : Ent K, liftT Z f σ H Q
noncomputable def xE (K : PySem.W.Frag) (f : FE) : TE := fun σ H Q => ∃ Z : Ent K, liftE Z f σ H Q
noncomputable def trueT : FT := fun δ => some (true, δ)
@[simp] theorem trueT_ap (δ : DSt) : trueT δ = some (true, δ) := rfl
@[simp] noncomputable def caps (src : List BSrc) : List RV := src.filterMap fun
  | .cap j => some (.bw j)
  | _ => none
@[simp] noncomputable def bDSlot (δ : DSt) : BSrc → Option SV
  | .own => none
  | .cap j => match δ[j]?.join with
    | some (.fz d) => some (.fz d)
    | _ => none
  | .acc => some (.ol [])
@[simp] noncomputable def bD (src : List BSrc) (δ : DSt) : DSt := src.map (bDSlot δ)
@[simp] noncomputable def resetSlot : BSrc → Option SV → Option SV
  | .own, _ => none
  | _, o => o
@[simp] noncomputable def reset : List BSrc → DSt → DSt
  | b :: r, o :: t => resetSlot b o :: reset r t
  | _, t => t
@[simp] noncomputable def compD (src : List BSrc) (k : Nat) (g : FG) (tt : FT) (te : FE) : List D → DSt → Option DSt
  | [], δ => some δ
  | d :: ds, δ => (g.run d δ).bind fun δ1 => (tt δ1).bind fun p => if p.1 = true then (te p.2).bind fun q => (frz q.1 q.2).bind fun r => match r.2[k]? with
      | some (some (.ol zs)) => if zs.length < PySem.sizeLine then compD src k g tt te ds (reset src (r.2.set k (some (.ol (zs ++ [r.1]))))) else none
      | _ => none
    else compD src k g tt te ds (reset src p.2)
@[simp] noncomputable def compF (src : List BSrc) (k : Nat) (fi : FD) (g : FG) (tt : FT) (te : FE) : FE := fun δ => (fi δ).bind fun p => (frzAll (caps src) p.2).bind fun c => (compD src k g tt te p.1 (bD src c.2)).bind fun δb => match δb[k]? with
  | some (some (.ol ys)) => some (.tmp (.ol ys), c.2)
  | _ => none
section
variable {Z : Ent K} {F H : Hp} {σ : St} {δ δ' : DSt} {own : Nat → Nodes}
end
structure SrcOk (src : List BSrc) (k : Nat) : Prop where
  acc : src[k]? = some .acc
  uni : ∀ i : Nat, src[i]? = some .acc → i = k
end DL

/-! OPERATIONS upon values: what each tells, and that the layer's rule tells the same -/
namespace DL
open PySem PySem.Spec PyProof.Rows L2
variable {K : PySem.W.Frag}
variable {Z : Ent K}

/-! ### ints -/
@[simp] noncomputable def intI (f : Int → Int → D) : D → D → Option SV
  | .int i, .int j => some (.fz (f i j))
  | _, _ => none
@[simp] noncomputable def intC (C : Int → Int → Bool) (f : Int → Int → D) : D → D → Option SV
  | .int i, .int j => if C i j = true then some (.fz (f i j)) else none
  | _, _ => none
theorem p_rI0 {g : Int → Int → V} {f : Int → Int → D} (hr : ∀ F i j, Rep K F (f i j) (g i j)) : Prim2 Z (rI0 g) (intI f) := by
  intro F H σ δ own x y d1 d2 sv Q s r1 r2 e k
  unfold intI at e
  split at e
  · cases e
    exact ⟨_, _, r1.int, r2.int, k.fz s (hr _ _ _)⟩
  · cases e
theorem p_rI {C : Int → Int → Prop} {c : Int → Int → Bool} {g : Int → Int → V} {f : Int → Int → D} (hc : ∀ i j, c i j = true → C i j) (hr : ∀ F i j, Rep K F (f i j) (g i j)) : Prim2 Z (rI C g) (intC c f) := by
  intro F H σ δ own x y d1 d2 sv Q s r1 r2 e k
  unfold intC at e
  split at e
  · split at e
    · rename_i hcc
      cases e
      exact ⟨_, _, r1.int, r2.int, hc _ _ hcc, k.fz s (hr _ _ _)⟩
    · cases e
  · cases e
@[simp] noncomputable def subD : D → D → Option SV := intI fun i j => .int (i - j)
noncomputable def cMul (i j : Int) : Bool := (decide (-(2 ^ 64) < i) && decide (i < 2 ^ 64)) || (decide (-(2 ^ 64) < j) && decide (j < 2 ^ 64))
@[simp] noncomputable def mulD : D → D → Option SV := intC cMul fun i j => .int (i * j)
@[simp] noncomputable def cDiv (i j : Int) : Bool := decide (0 < j) && decide (j < 1073741824)
@[simp] noncomputable def fdivD : D → D → Option SV := intC cDiv fun i j => .int (i / j)
@[simp] noncomputable def cMod (i j : Int) : Bool := decide (0 < j)
@[simp] noncomputable def modD : D → D → Option SV := intC cMod fun i j => .int (i % j)
@[simp] noncomputable def cPow (i j : Int) : Bool := decide (0 ≤ j) && decide (j ≤ 1000000) && decide (i.natAbs < 2 ^ 64)
@[simp] noncomputable def powD : D → D → Option SV := intC cPow fun i j => .int (i ^ j.toNat)
theorem p_sub : Prim2 Z (rI0 fun i j => V.int (i - j)) subD := p_rI0 fun _ _ _ => .int _
theorem p_mul : Prim2 Z (rI CMul fun i j => V.int (i * j)) mulD := p_rI (fun i j h => by
  unfold cMul at h
  simp only [Bool.or_eq_true, Bool.and_eq_true, decide_eq_true_eq] at h
  exact h) fun _ _ _ => .int _
theorem p_fdiv : Prim2 Z (rI CDiv fun i j => V.int (i / j)) fdivD := p_rI (fun i j h => by
  unfold cDiv at h
  simp only [Bool.and_eq_true, decide_eq_true_eq] at h
  exact h) fun _ _ _ => .int _
theorem p_mod : Prim2 Z (rI (fun _ j => 0 < j) fun i j => V.int (i % j)) modD := p_rI (fun i j h => by
  unfold cMod at h
  simp only [decide_eq_true_eq] at h
  exact h) fun _ _ _ => .int _
@[simp] noncomputable def ltD : D → D → Option SV := intI fun i j => .bl (decide (i < j))
@[simp] noncomputable def leD : D → D → Option SV := intI fun i j => .bl (decide (i ≤ j))
@[simp] noncomputable def gtD : D → D → Option SV := intI fun i j => .bl (decide (j < i))
@[simp] noncomputable def geD : D → D → Option SV := intI fun i j => .bl (decide (j ≤ i))
theorem p_lt : Prim2 Z (rI0 fun i j => V.bl (decide (i < j))) ltD := p_rI0 fun _ _ _ => .bl _
theorem p_gt : Prim2 Z (rI0 fun i j => V.bl (decide (j < i))) gtD := p_rI0 fun _ _ _ => .bl _

/-! ### + -/
noncomputable def rStr : R2 := fun x y H Q => ∃ i j, x = .str i ∧ y = .str j ∧ i.length + j.length ≤ PySem.sizeLine ∧ Q (.str (i ++ j)) H
noncomputable def rCatR (K : PySem.W.Frag) : R2 := fun x y H Q => ∃ l b xs zs, x = .ref l ∧ y = .ref b ∧ SqL K H l xs ∧ SqL K H b zs ∧ xs.length + zs.length ≤ PySem.sizeLine ∧ ∀ p, H p = none → Q (.ref p) (upd H p (.lst (xs ++ zs)))
theorem op_catR {X : Cx} : OpR X (binaryOp .Add) (rCatR X.K) := by
  intro pins s σ H x y v u Q I rx ry h
  obtain ⟨l, b, xs, zs, rfl, rfl, hH, hB, hz, q⟩ := h
  cases rx
  cases ry
  obtain ⟨its, r, pl, z⟩ := I.list hH
  obtain ⟨its2, r2, pl2, z2⟩ := I.list hB
  have hl := r.length
  have hl2 := r2.length
  obtain ⟨⟨cls, dd, data, sl⟩, ho, hc, n, hd⟩ := pl.isList
  obtain ⟨⟨cls2, dd2, data2, sl2⟩, ho2, hc2, n2, hd2⟩ := pl2.isList
  simp only at hc hd hc2 hd2
  subst hc hd hc2 hd2
  have ea : its.toArray ++ its2.toArray = (its ++ its2).toArray := by simp
  refine concat_meets ⟨_, ho, rfl⟩ ⟨_, ho2, rfl⟩ noFill_list_add seq_list_add PySem.F.slot_list_add PySem.F.entry_list_add (PySem.F.args_list_add_2 _ _) (list_addW l b its.toArray its2.toArray n n2 dd dd2 sl sl2 (by rw [List.size_toArray, List.size_toArray]; omega)) ⟨ho, ho2, ?_⟩
  rw [ea]
  exact ⟨.ref _, _, I.lnew (t' := s.toks) (r.append r2) (by rw [List.length_append]; omega), rfl, q _ I.fresh⟩
noncomputable def rAdd3 (K : PySem.W.Frag) : R2 := fun x y H Q => rI0 (fun i j => V.int (i + j)) x y H Q ∨ (rStr x y H Q ∨ rCatR K x y H Q)
theorem op_add3 {X : Cx} : OpR X (binaryOp .Add) (rAdd3 X.K) := op_add.or (op_add_str.or op_catR)
@[simp] noncomputable def addD : D → D → Option SV
  | .int i, .int j => some (.fz (.int (i + j)))
  | .str x, .str y => if x.length + y.length ≤ PySem.sizeLine then some (.fz (.str (x ++ y))) else none
  | .lst xs, .lst ys => if xs.length + ys.length ≤ PySem.sizeLine then some (.ol (xs ++ ys)) else none
  | _, _ => none
theorem p_add : Prim2 Z (rAdd3 K) addD := by
  intro F H σ δ own x y d1 d2 sv Q s r1 r2 e k
  unfold addD at e
  split at e
  · cases e
    exact .inl ⟨_, _, r1.int, r2.int, k.fz s (.int _)⟩
  · split at e
    · rename_i hz
      cases e
      exact .inr (.inl ⟨_, _, r1.str, r2.str, hz, k.fz s (.str _)⟩)
    · cases e
  · split at e
    · rename_i hz
      cases e
      obtain ⟨a, vs, ex, ha, ra⟩ := r1.lst s.le
      obtain ⟨b, us, ey, hb, rb⟩ := r2.lst s.le
      exact .inr (.inr ⟨a, b, vs, us, ex, ey, ha, hb, by rw [← ra.length, ← rb.length]; exact hz, fun p hp => k.lst s (ra.append rb) hp⟩)
    · cases e
  · cases e

/-! ### == of scalars -/
@[simp] noncomputable def eqS : D → D → Option Bool
  | .non, .non => some true
  | .non, .int _ => some false
  | .int _, .non => some false
  | .non, .bl _ => some false
  | .bl _, .non => some false
  | .non, .str _ => some false
  | .str _, .non => some false
  | .int i, .int j => some (decide (i = j))
  | .bl i, .bl j => some (decide (i = j))
  | .str i, .str j => some (decide (i = j))
  | .int _, .str _ => some false
  | .str _, .int _ => some false
  | .bl _, .str _ => some false
  | .str _, .bl _ => some false
  | _, _ => none
theorem eqS_ok {F H : Hp} {d1 d2 : D} {x y : V} {b : Bool} (e : eqS d1 d2 = some b) (r1 : RepN K F H d1 x) (r2 : RepN K F H d2 y) : scal x y = true ∧ b = decide (x = y) := by
  unfold eqS at e
  split at e <;> cases e
  · rw [r1.non, r2.non]; exact ⟨rfl, by simp⟩
  · rw [r1.non, r2.int]; exact ⟨rfl, by simp⟩
  · rw [r1.int, r2.non]; exact ⟨rfl, by simp⟩
  · rw [r1.non, r2.bl]; exact ⟨rfl, by simp⟩
  · rw [r1.bl, r2.non]; exact ⟨rfl, by simp⟩
  · rw [r1.non, r2.str]; exact ⟨rfl, by simp⟩
  · rw [r1.str, r2.non]; exact ⟨rfl, by simp⟩
  · rw [r1.int, r2.int]; exact ⟨rfl, by simp⟩
  · rw [r1.bl, r2.bl]; exact ⟨rfl, by simp⟩
  · rw [r1.str, r2.str]; exact ⟨rfl, by simp⟩
  · rw [r1.int, r2.str]; exact ⟨rfl, by simp⟩
  · rw [r1.str, r2.int]; exact ⟨rfl, by simp⟩
  · rw [r1.bl, r2.str]; exact ⟨rfl, by simp⟩
  · rw [r1.str, r2.bl]; exact ⟨rfl, by simp⟩
@[simp] noncomputable def eqD (d1 d2 : D) : Option SV := (eqS d1 d2).bind fun b => some (.fz (.bl b))
@[simp] noncomputable def neD (d1 d2 : D) : Option SV := (eqS d1 d2).bind fun b => some (.fz (.bl (!b)))
theorem p_eq : Prim2 Z rEq eqD := by
  intro F H σ δ own x y d1 d2 sv Q s r1 r2 e k
  obtain ⟨b, e1, e2⟩ := Option.bind_eq_some_iff.mp e
  cases e2
  obtain ⟨h1, h2⟩ := eqS_ok e1 r1 r2
  subst h2
  exact ⟨h1, k.fz s (.bl _)⟩
theorem p_ne : Prim2 Z rNe neD := by
  intro F H σ δ own x y d1 d2 sv Q s r1 r2 e k
  obtain ⟨b, e1, e2⟩ := Option.bind_eq_some_iff.mp e
  cases e2
  obtain ⟨h1, h2⟩ := eqS_ok e1 r1 r2
  subst h2
  exact ⟨h1, k.fz s (.bl _)⟩
@[simp] noncomputable def D.isNon : D → Bool
  | .non => true
  | _ => false
theorem isNon_ok {F H : Hp} {d : D} {x : V} (r : RepN K F H d x) : decide (x = .non) = d.isNon := by
  cases d with
  | non => rw [r.non]; rfl
  | bl b => rw [r.bl]; rfl
  | int i => rw [r.int]; rfl
  | str i => rw [r.str]; rfl
  | exc c ks vs =>
    obtain ⟨sv, ns, e, n, sh, hp⟩ := r
    cases sh with
    | fz r => cases e; cases r <;> rfl
    | ol r => cases e
    | oK e' r => cases e
    | oT kb e' r => cases e
    | oN e' r => cases n
  | tup xs =>
    obtain ⟨sv, ns, e, n, sh, hp⟩ := r
    cases sh with
    | fz r => cases e; cases r; rfl
    | ol r => cases e
    | oK e' r => cases e
    | oT kb e' r => cases e
    | oN e' r => cases n
  | lst xs =>
    obtain ⟨sv, ns, e, n, sh, hp⟩ := r
    cases sh with
    | fz r => cases e; cases r; rfl
    | ol r => rfl
    | oK e' r => rfl
    | oT kb e' r => rfl
    | oN e' r => rfl
  | dK ks vs =>
    obtain ⟨sv, ns, e, n, sh, hp⟩ := r
    cases sh with
    | fz r => cases e; cases r; rfl
    | ol r => rfl
    | oK e' r => rfl
    | oT kb e' r => rfl
    | oN e' r => rfl
  | dT ks vs =>
    obtain ⟨sv, ns, e, n, sh, hp⟩ := r
    cases sh with
    | fz r => cases e; cases r; rfl
    | ol r => rfl
    | oK e' r => rfl
    | oT kb e' r => rfl
    | oN e' r => rfl
@[simp] noncomputable def isND (d1 d2 : D) : Option SV := if d2.isNon = true then some (.fz (.bl d1.isNon)) else none
@[simp] noncomputable def notND (d1 d2 : D) : Option SV := if d2.isNon = true then some (.fz (.bl (!d1.isNon))) else none
theorem isNon_eq {d : D} (h : d.isNon = true) : d = .non := by cases d <;> first | rfl | cases h
theorem p_isN : Prim2 Z (fun x y H Q => y = V.non ∧ Q (.bl (decide (x = .non))) H) isND := by
  intro F H σ δ own x y d1 d2 sv Q s r1 r2 e k
  unfold isND at e
  split at e
  · rename_i h
    cases e
    have := isNon_eq h
    subst this
    exact ⟨r2.non, by rw [isNon_ok r1]; exact k.fz s (.bl _)⟩
  · cases e
theorem p_notN : Prim2 Z (fun x y H Q => y = V.non ∧ Q (.bl (!decide (x = .non))) H) notND := by
  intro F H σ δ own x y d1 d2 sv Q s r1 r2 e k
  unfold notND at e
  split at e
  · rename_i h
    cases e
    have := isNon_eq h
    subst this
    exact ⟨r2.non, by rw [isNon_ok r1]; exact k.fz s (.bl _)⟩
  · cases e

/-! ### a[i] -/
theorem Reps.atI {F : Hp} {xs : List D} {vs : List V} {i : Int} {d : D} (r : Reps K F xs vs) (e : L2.atI xs i = some d) : ∃ v, L2.atI vs i = some v ∧ Rep K F d v := by
  unfold L2.atI at e ⊢
  obtain ⟨j, e1, e2⟩ := Option.bind_eq_some_iff.mp e
  obtain ⟨v, h1, h2⟩ := r.get e2
  exact ⟨v, Option.bind_eq_some_iff.mpr ⟨j, by rw [← r.length]; exact e1, h1⟩, h2⟩
@[simp] noncomputable def ixD : D → D → Option SV
  | .lst xs, .int i => (L2.atI xs i).bind fun d => some (.fz d)
  | .tup xs, .int i => (L2.atI xs i).bind fun d => some (.fz d)
  | .str z, .int i => if z.length ≤ PySem.sizeLine then (L2.atI z.cps.toList i).bind fun c => some (.fz (.str ⟨#[c]⟩)) else none
  | _, _ => none
theorem p_ix : Prim2 Z (rIx K) ixD := by
  intro F H σ δ own x y d1 d2 sv Q s r1 r2 e k
  unfold ixD at e
  split at e
  · obtain ⟨d, e1, e2⟩ := Option.bind_eq_some_iff.mp e
    cases e2
    obtain ⟨a, vs, ex, ha, ra⟩ := r1.lst s.le
    obtain ⟨v, h1, h2⟩ := ra.atI e1
    exact .inl ⟨a, vs, _, v, ex, r2.int, ha, h1, k.fz s h2⟩
  · obtain ⟨d, e1, e2⟩ := Option.bind_eq_some_iff.mp e
    cases e2
    obtain ⟨a, vs, ex, ha, ra⟩ := r1.tup s.le
    obtain ⟨v, h1, h2⟩ := ra.atI e1
    exact .inr (.inl ⟨a, vs, _, v, ex, r2.int, ha, h1, k.fz s h2⟩)
  · split at e
    · rename_i hz
      obtain ⟨c, e1, e2⟩ := Option.bind_eq_some_iff.mp e
      cases e2
      exact .inr (.inr ⟨_, _, c, r1.str, r2.int, hz, e1, k.fz s (.str _)⟩)
    · cases e
  · cases e
/-! ### slices -/
noncomputable abbrev FO := DSt → Option (Option Int × DSt)
noncomputable def liftO (Z : Ent K) (f : FO) : TO := fun σ H Q => ∃ F δ own o δ', SR Z F H σ δ own ∧ f δ = some (o, δ') ∧ ∀ H' F' own', Same H H' → Same F F' → SR Z F' H' σ δ' own' → Q o H'
@[simp] noncomputable def noPart : FO := fun δ => some (none, δ)
@[simp] noncomputable def partF (fe : FE) : FO := fun δ => (fe δ).bind fun p => match p.1 with
  | .tmp (.fz (.int i)) => some (some i, p.2)
  | _ => none
section
variable {H : Hp} {σ : L2.St} {Q : VK} {R : Option Int → Hp → Prop}
theorem l_part {fe : FE} (h : liftO Z (partF fe) σ H R) : tPart (liftE Z fe) σ H R := by
  obtain ⟨F, δ, own, b, δ', s, e, k⟩ := h
  obtain ⟨⟨rv, δ1⟩, e1, e2⟩ := Option.bind_eq_some_iff.mp e
  refine ⟨F, δ, own, rv, δ1, s, e1, fun v H1 F1 own1 sH sF s1 r1 => ?_⟩
  dsimp only at e2
  split at e2
  · cases e2
    obtain ⟨ns, t⟩ := r1
    cases shape_fz t.sh
    exact ⟨_, rfl, k H1 F1 own1 sH sF s1⟩
  · cases e2
@[simp] noncomputable def slF (g : D → Option Int → Option Int → Option SV) (fe : FE) (fl fh : FO) : FE := fun δ => (fe δ).bind fun p => (fl p.2).bind fun l => (fh l.2).bind fun h => (rdv p.1 h.2).bind fun d => (g d l.1 h.1).bind fun sv => some (.tmp sv, h.2)
noncomputable def PrimS (Z : Ent K) (r : V → Option Int → Option Int → Hp → VK → Prop) (g : D → Option Int → Option Int → Option SV) : Prop :=
  ∀ (F H : Hp) (σ : L2.St) (δ : DSt) (own : Nat → Nodes) (x : V) (d : D) (lo hi : Option Int) (sv : SV) (Q : VK), SR Z F H σ δ own → RepN K F H d x → g d lo hi = some sv → Fin Z F H σ δ own sv Q → r x lo hi H Q
theorem l_sl {r : V → Option Int → Option Int → Hp → VK → Prop} {g : D → Option Int → Option Int → Option SV} {fe : FE} {fl fh : FO} (hg : PrimS Z r g) (h : liftE Z (slF g fe fl fh) σ H Q) : tSl r (liftE Z fe) (liftO Z fl) (liftO Z fh) σ H Q := by
  obtain ⟨F, δ, own, rv, δ', s, e, k⟩ := h
  obtain ⟨⟨rv1, δ1⟩, e1, e⟩ := Option.bind_eq_some_iff.mp e
  obtain ⟨⟨lo, δ2⟩, e2, e⟩ := Option.bind_eq_some_iff.mp e
  obtain ⟨⟨hi, δ3⟩, e3, e⟩ := Option.bind_eq_some_iff.mp e
  obtain ⟨d, e4, e⟩ := Option.bind_eq_some_iff.mp e
  obtain ⟨sv, e5, e⟩ := Option.bind_eq_some_iff.mp e
  cases e
  refine ⟨F, δ, own, rv1, δ1, s, e1, fun v H1 F1 own1 sH1 sF1 s1 r1 => ?_⟩
  obtain ⟨F1', sF1', s1', r1'⟩ := s1.settleR r1
  refine ⟨F1', δ1, own1, lo, δ2, s1', e2, fun H2 F2 own2 sH2 sF2 s2 => ⟨F2, δ2, own2, hi, δ3, s2, e3, fun H3 F3 own3 sH3 sF3 s3 => ?_⟩⟩
  exact hg F3 H3 σ δ3 own3 v d lo hi sv Q s3 (s3.rd (r1'.mono (sF2.trans sF3)) e4) e5 fun q H4 F4 ns sH4 sF4 s4 t4 =>
    k q H4 F4 own3 (sH1.trans (sH2.trans (sH3.trans sH4))) (sF1.trans (sF1'.trans (sF2.trans (sF3.trans sF4)))) s4 ⟨ns, t4⟩
end
noncomputable def cutD (xs : List D) (lo hi : Option Int) : List D := (xs.drop (HT.sIx xs.length 0 lo)).take (HT.sIx xs.length xs.length hi - HT.sIx xs.length 0 lo)
theorem Reps.cut {F : Hp} {xs : List D} {vs : List V} (r : Reps K F xs vs) (lo hi : Option Int) : Reps K F (cutD xs lo hi) (cutV vs lo hi) := by
  unfold cutD cutV
  rw [r.length]
  exact (r.drop _).take _
noncomputable def rSlS : V → Option Int → Option Int → Hp → VK → Prop := fun x lo hi H Q => ∃ z, x = .str z ∧ z.length ≤ PySem.sizeLine ∧ Q (.str (Txt.slice z lo hi)) H
theorem sl_str {X : Cx} : SlR X rSlS := by
  intro pins s σ H x v vl vu lo hi sl Q I rx hs pl pu h
  obtain ⟨z, rfl, hz, q⟩ := h
  obtain ⟨t, rfl⟩ := rx
  refine ⟨"str", _, F.slot_str_getitem.lookup, typeIs_str _ _ _, ?_⟩
  have fin : ∀ (t' : Tok) (k : Nat), EP X pins σ Q (.str (Txt.slice z lo hi) t') { s with toks := k } := fun t' k => ⟨.str (Txt.slice z lo hi), H, I.tok _, ⟨_, rfl⟩, q⟩
  cases pl with
  | none => cases pu with
    | none => exact wpAny_getItem_str_slice (l := none) (u := none) (st := none) hs rfl (post_val_or_str ⟨Nat.le_trans (Txt.slice_le z _ _) hz, fin⟩)
    | int j tj => exact wpAny_getItem_str_slice (l := none) (u := some (j, tj)) (st := none) hs rfl (post_val_or_str ⟨Nat.le_trans (Txt.slice_le z _ _) hz, fin⟩)
  | int i ti => cases pu with
    | none => exact wpAny_getItem_str_slice (l := some (i, ti)) (u := none) (st := none) hs rfl (post_val_or_str ⟨Nat.le_trans (Txt.slice_le z _ _) hz, fin⟩)
    | int j tj => exact wpAny_getItem_str_slice (l := some (i, ti)) (u := some (j, tj)) (st := none) hs rfl (post_val_or_str ⟨Nat.le_trans (Txt.slice_le z _ _) hz, fin⟩)
@[simp] noncomputable def slD : D → Option Int → Option Int → Option SV
  | .lst xs, lo, hi => some (.ol (cutD xs lo hi))
  | .str z, lo, hi => if z.length ≤ PySem.sizeLine then some (.fz (.str (Txt.slice z lo hi))) else none
  | _, _, _ => none
theorem p_sl : PrimS Z (fun x lo hi H Q => rSlL K x lo hi H Q ∨ rSlS x lo hi H Q) slD := by
  intro F H σ δ own x d lo hi sv Q s r1 e k
  unfold slD at e
  split at e
  · cases e
    obtain ⟨a, vs, ex, ha, ra⟩ := r1.lst s.le
    exact .inl ⟨a, vs, ex, ha, fun p hp => k.lst s (ra.cut _ _) hp⟩
  · split at e
    · rename_i hz
      cases e
      exact .inr ⟨_, r1.str, hz, k.fz s (.str _)⟩
    · cases e
  · cases e
end DL

/-! MORE of the layer: what is walked, methods of texts, isinstance; and the rules by values -/
namespace L2
open PySem PySem.Spec PyProof.Rows
section
variable {X : Cx} {tg : Expr}

/-! ### enumerate(list) -/
noncomputable def Ite (K : PySem.W.Frag) (a : Addr) : It :=
  ⟨fun i H => ∃ xs x, SqL K H a xs ∧ xs[i]? = some x, fun i H x H' => ∃ p v, x = .ref p ∧ H p = none ∧ H' = upd H p (.tup [.int (i : Nat), v]) ∧ ∀ xs, SqL K H a xs → xs[i]? = some v, fun i H => ∃ xs, SqL K H a xs ∧ xs.length ≤ i⟩
theorem Inv.turnedT {pins : List (Addr × Obj)} {σ : L2.St} {H : Hp} {s : Shared} {h' : Heap} {t' : Nat} {e it T : Addr} {xs : List V} {its : List Value} (I : Inv X pins σ H s) (k : ∀ b o, b ≠ e → b ≠ it → s.heap.get? b = some o → h'.get? b = some o)
    (f1 : FpOk X pins H e) (f2 : FpOk X pins H it) (hT : T = s.heap.objs.size) (ht : IsTup h' T its.toArray) (rv : Vals xs its) (hz : xs.length ≤ sizeLine) (he : ∃ o, h'.get? e = some o) (hi : ∃ o, h'.get? it = some o) :
    Inv X pins σ (upd H T (.tup xs)) { s with heap := h', toks := t' } := by
  have hTn : H T = none := by rw [hT]; exact I.hok.fresh (Nat.le_refl _)
  have neT : ∀ b o, s.heap.get? b = some o → b ≠ T := fun b o q => by rw [hT]; exact Nat.ne_of_lt (Heap.lt_size q)
  have ntr : ∀ b u, H b = some u → b ≠ e ∧ b ≠ it := fun b u q => ⟨(fun z => by rw [z, f1.1] at q; cases q), (fun z => by rw [z, f2.1] at q; cases q)⟩
  refine I.step (g' := s.gens) (d' := s.drawn) (ch := [e, it]) (fun b hb => ?_) (fun b o _ _ hc q _ => k b o (fun z => hc (by simp [z])) (fun z => hc (by simp [z])) q)
    (fun b o _ _ hc q _ => ⟨o.slots, k b o (fun z => hc (by simp [z])) (fun z => hc (by simp [z])) q⟩) (fun b o _ q n => by rw [upd_ne (neT b o q)]; exact n)
    (fun b o hc q => ⟨o, k b o (fun z => hc (by simp [z])) (fun z => hc (by simp [z])) q⟩) (fun b ys q => by rw [upd_ne (ne_of_none q hTn)]; exact q) (fun b o u q => by rw [upd_ne (ne_of_none q hTn)]; exact q)
    (fun b ps q => ⟨#[], by rw [upd_ne (ne_of_none q hTn), q]; simp⟩) (fun m hm => ?_) (fun b u q => ?_) I.bare
  · have hb' : b = e ∨ b = it := by simpa using hb
    rcases hb' with z | z
    · subst z; obtain ⟨_, a1, _, a3, a4, a5⟩ := f1; exact ⟨a3, a1, a4, a5⟩
    · subst z; obtain ⟨_, a1, _, a3, a4, a5⟩ := f2; exact ⟨a3, a1, a4, a5⟩
  · obtain ⟨o, es, ep, ho, r⟩ := hm
    exact ⟨o, es, ep, k _ o (Ne.symm f1.2.1) (Ne.symm f2.2.1) ho, r⟩
  · by_cases hb : b = T
    · subst hb
      rw [upd_same] at q; cases q
      exact ⟨hz, its, rv, ht⟩
    · rw [upd_ne hb] at q
      refine (I.hok b u q).stay (fun c v hc z => ?_) (fun c z => by rw [upd_ne (ne_of_none z hTn)]; exact z) fun c ys z => by rw [upd_ne (ne_of_none z hTn)]; exact z
      rcases hc with y | y
      · rw [y] at z ⊢; exact k _ _ (ntr b u q).1 (ntr b u q).2 z
      · exact k _ _ (ntr c _ y).1 (ntr c _ y).2 z
theorem turn_enum {P : Program} {w : World} {K : PySem.W.Frag} {elts : List Expr} {kk : Nat} {tpos : Pos} (a e it : Addr) (hei : e ≠ it) : Turn P w K (.Tuple elts kk tpos) (Ite K a) [e, it] e (fun i h => (∃ old, IsEnum h e it ((i : Nat) : Int) old) ∧ h.IsListIter it a i) where
  mem := by simp
  obj := fun i h st b hb => by
    have hb' : b = e ∨ b = it := by simpa using hb
    rcases hb' with z | z
    · subst z
      obtain ⟨old, q⟩ := st.1
      exact ⟨_, q, fun v y => by
        have y' : Data.fields _ = Data.cell v := y
        cases y'⟩
    · subst z
      obtain ⟨o, q, c, d⟩ := st.2
      exact ⟨o, q, fun v y => by rw [d] at y; cases y⟩
  keep := fun i h h' st k => ⟨let ⟨old, q⟩ := st.1; ⟨old, k e (by simp) _ q⟩, st.2.at fun o q => k it (by simp) o q⟩
  item := by
    intro X hP hw hK hc i pins s σ H E I hf st hg
    subst hP hw hK
    obtain ⟨xs, x, hq, hx⟩ := hg
    obtain ⟨its, rv, p, hz⟩ := I.list hq
    obtain ⟨u, hu, ru⟩ := rv.get hx
    obtain ⟨⟨old, he⟩, hit⟩ := st
    have hl : s.heap.IsList a its.toArray := p.isList
    have ai : a ≠ it := fun z => by
      obtain ⟨o1, q1, c1, _⟩ := hit
      obtain ⟨o2, q2, c2, _⟩ := hl
      rw [z, q1] at q2; cases q2
      rw [c1] at c2; exact absurd c2 (by decide)
    have ae : e ∉ [it, a] := fun z => by
      have z' : e = it ∨ e = a := by simpa using z
      rcases z' with z | z
      · exact hei z
      · obtain ⟨o2, q2, c2, _⟩ := hl
        rw [← z, he] at q2; cases q2; exact absurd (show Value.type "enumerate" = Value.type "list" from c2) (by decide)
    have D := Draws.list (prog := X.prog) (w := X.w) (A := X.A.in1) (by first | exact I.ok.hd hc | (rw [show X.A.in1.handled = X.A.handled from rfl]; exact I.ok.hd hc)) it a ai its.toArray
    have hlt : i < its.toArray.size := by
      have := (List.getElem?_eq_some_iff.mp hu).1
      rw [List.size_toArray]; exact this
    refine wpAny_pyNext_enum_itemD D he ⟨hit, hl⟩ hlt hei ae fun y h' tk hy hout st' hT hsz hk => ⟨.ref s.heap.objs.size, rfl, ?_⟩
    refine wpAny_letOwnedTupleGo_enum hout fun h2 he2 hs2 => ?_
    have hy' : its.toArray[i]? = some y := hy
    have ey : y = u := by
      have : its[i]? = some y := by simpa using hy'
      rw [hu] at this; cases this; rfl
    subst ey
    have kk : ∀ b o, b ≠ e → b ≠ it → s.heap.get? b = some o → h2.get? b = some o := fun b o h1 h3 q => (hs2.2 b h1).trans (hk b o h1 h3 q)
    have neT : s.heap.objs.size ≠ e := Nat.ne_of_gt (Heap.lt_size he)
    have I2 := I.turnedT (h' := h2) (t' := tk + 1) (e := e) (it := it) (T := s.heap.objs.size) (xs := [.int (i : Nat), x]) (its := [.int i tk, y]) kk (hf e (by simp)) (hf it (by simp)) rfl ⟨_, (hs2.2 _ neT).trans hT, rfl, _, rfl⟩ (.cons ⟨tk, rfl⟩ (.cons ru .nil)) (by show 2 ≤ sizeLine; decide)
      ⟨_, he2⟩ (let ⟨o, q, _⟩ := st'.1; ⟨o, (hs2.2 it (Ne.symm hei)).trans q⟩)
    refine ⟨.ref s.heap.objs.size, _, I2, rfl, ⟨s.heap.objs.size, x, rfl, I.hok.fresh (Nat.le_refl _), rfl, fun ys hy2 => by rw [I.list_inj hy2 hq]; exact hx⟩, ⟨⟨_, he2⟩, st'.1.at fun o q => (hs2.2 it (Ne.symm hei)).trans q⟩, fun b hb => ?_⟩
    rw [upd_ne fun z => ?_]
    · exact (hf b hb).1
    · have hb' : b = e ∨ b = it := by simpa using hb
      rcases hb' with y | y
      · rw [← z, y] at neT; exact neT rfl
      · obtain ⟨o, q, _⟩ := hit
        rw [y] at z
        exact absurd (Heap.lt_size q) (by rw [z]; exact Nat.lt_irrefl _)
  done := by
    intro X hP hw hK hc i pins s σ H E I hf st hg
    subst hP hw hK
    obtain ⟨xs, hq, hx⟩ := hg
    obtain ⟨its, rv, p, hz⟩ := I.list hq
    obtain ⟨⟨old, he⟩, hit⟩ := st
    obtain ⟨f0, f1, f2, f3, f4, f5⟩ := hf it (by simp)
    have hl := rv.length
    exact wpAny_pyNext_enum_end (I.ok.hd hc) he hit p.isList (by simp; omega) fun h' eb => ⟨rfl, I.turned (t' := s.toks) (fun b o hb q => eb b o hb q) f0 f1 f3 f4 f5⟩
  self := fun _ _ _ _ _ st h => let ⟨⟨old, he⟩, _⟩ := st; wpAny_pyIter_enum he h
noncomputable def iEnum (K : PySem.W.Frag) (ta : TA) : TI := fun σ H R => ta σ H fun vs H1 => ∃ a xs, vs = [.ref a] ∧ SqL K H1 a xs ∧ R (Ite K a) H1
theorem pi_enum {l : Expr} {elts : List Expr} {kk : Nat} {tpos p pos : Pos} {ta : TA} (hg : Gl X "enumerate") (hm : X.mg "enumerate" = none) (ha : PA X [l] ta) (hs : starEach [l] X.env = [(false, eval l X.env)] := by rfl) :
    PI X (.Tuple elts kk tpos) (.Call (.Name "enumerate" p) [l] [] pos) (iEnum X.K ta) := by
  intro pins s σ H R I h
  refine Call_ (ld_blt I hg hm boot_enumerate (PyProof.Rows.callWith_type1 (thn (ha pos pins s σ H _ I h) fun us s1 ⟨vs, H1, I1, r1, q1⟩ => ?_) hs rfl))
  obtain ⟨a, xs, e, hq, q⟩ := q1
  subst e
  obtain ⟨u, rfl, ru⟩ := vals1 r1
  cases ru
  obtain ⟨its, rv, p, hz⟩ := I1.list hq
  refine call_enumerate_list p.isList fun h' he hit hsz hk => wpAny_pyIter_enum he ?_
  have I2 : Inv X pins σ H1 { s1 with heap := h' } := I1.kept (t' := s1.toks) hk
  refine ⟨s1.heap.objs.size + 1, [s1.heap.objs.size + 1, s1.heap.objs.size], _, _, H1, rfl, I2, turn_enum a _ _ (Nat.succ_ne_self _), ⟨⟨.none, by simpa using he⟩, hit⟩, fun b hb => ?_, q⟩
  have hb' : b = s1.heap.objs.size + 1 ∨ b = s1.heap.objs.size := by simpa using hb
  rcases hb' with z | z
  · subst z; exact I1.fpOk (Nat.le_succ _) (I1.hok.fresh (Nat.le_succ _))
  · subst z; exact I1.fpOk (Nat.le_refl _) (I1.hok.fresh (Nat.le_refl _))

/-! ### join, isinstance -/
noncomputable def rJoin (K : PySem.W.Frag) : V → List V → Hp → VK → Prop := fun x xs H Q => ∃ sep p ys, x = .str sep ∧ xs = [.ref p] ∧ SqL K H p (ys.map V.str) ∧ JoinOk sep ys = true ∧ Q (.str (Txt.join sep ys)) H
inductive TyX (K : PySem.W.Frag) (H : Hp) : V → String → Prop where
  | non : TyX K H .non "NoneType"
  | bl (x : Bool) : TyX K H (.bl x) "bool"
  | int (i : Int) : TyX K H (.int i) "int"
  | str (x : Str) : TyX K H (.str x) "str"
  | lst {a : Addr} {xs : List V} (e : SqL K H a xs) : TyX K H (.ref a) "list"
  | tup {a : Addr} {xs : List V} (e : SqT K H a xs) : TyX K H (.ref a) "tuple"
  | dK {a : Addr} {kvs : List (Key × V)} {ep : Nat} (e : H a = some (.dK kvs ep)) : TyX K H (.ref a) "dict"
  | dT {a : Addr} {kvs : List (List Key × V)} {ep : Nat} {bs : List Addr} (e : H a = some (.dT kvs ep bs)) : TyX K H (.ref a) "dict"
noncomputable def rIsI (K : PySem.W.Frag) (c : String) : List V → Hp → VK → Prop := fun xs H Q => ∃ x t b, xs = [x, .ty c] ∧ TyX K H x t ∧ PySem.W.kitOne K (.type t) (.type c) = some b ∧ Q (.bl b) H
end
end L2

namespace DL
open PySem PySem.Spec PyProof.Rows L2
variable {K : PySem.W.Frag}

/-! ### enumerate -/
noncomputable def enumL (xs : List D) : List D := xs.zipIdx.map fun p => .tup [.int (p.2 : Nat), p.1]
theorem enumL_get {xs : List D} {i : Nat} {d : D} (h : (enumL xs)[i]? = some d) : ∃ x, xs[i]? = some x ∧ d = .tup [.int (i : Nat), x] := by
  unfold enumL at h
  rw [List.getElem?_map, List.getElem?_zipIdx] at h
  cases e : xs[i]? with
  | none => rw [e] at h; cases h
  | some x => rw [e] at h; cases h; exact ⟨x, rfl, by simp⟩
theorem enumL_len (xs : List D) : (enumL xs).length = xs.length := by unfold enumL; rw [List.length_map, List.length_zipIdx]
theorem yields_enum {F : Hp} {a : Addr} {xs : List D} {vs : List V} (h : SqL K F a vs) (r : Reps K F xs vs) : Yields K (Ite K a) F (enumL xs) := fun F' H sF sH i => by
  have q : SqL K H a vs := sqL_mono (sF.trans sH) h
  refine ⟨fun d hd => ?_, fun hl => ⟨vs, q, by rw [← r.length, ← enumL_len]; exact hl⟩⟩
  obtain ⟨x, hx, rfl⟩ := enumL_get hd
  obtain ⟨v, h1, h2⟩ := r.get hx
  refine ⟨⟨vs, v, q, h1⟩, fun y H' ⟨p, w, e1, e2, e3, e4⟩ => ?_⟩
  subst e1 e3
  have e5 := e4 vs q
  rw [h1] at e5; cases e5
  have hp : F' p = none := sH.free e2
  have sm : Same F' (addL F' [(p, .tup [.int (i : Nat), v])]) := addL_same fun z hz => by obtain rfl := List.mem_singleton.mp hz; exact hp
  refine ⟨same_new e2, [(p, .tup [.int (i : Nat), v])], nd1, fun z hz => ?_, .tup upd_same (.cons (.int _) (.cons (h2.mono (sF.trans sm)) .nil))⟩
  obtain rfl := List.mem_singleton.mp hz
  exact ⟨e2, upd_same⟩
section
variable {Z : Ent K} {H : Hp} {σ : L2.St} {Q : VK}
@[simp] noncomputable def enumI (fd : FD) : FD := fun δ => (fd δ).bind fun p => match p.1 with
  | [.lst xs] => some (enumL xs, p.2)
  | _ => none
theorem l_enumI {fd : FD} {R : It → Hp → Prop} (h : liftI Z (enumI fd) σ H R) : iEnum K (liftD Z fd) σ H R := by
  obtain ⟨F, δ, own, ds, δ', s, e, k⟩ := h
  obtain ⟨⟨ds1, δ1⟩, e1, e2⟩ := Option.bind_eq_some_iff.mp e
  refine ⟨F, δ, own, ds1, δ1, s, e1, fun vs H1 F1 own1 sH sF s1 r1 => ?_⟩
  dsimp only at e2
  split at e2
  · rename_i xs
    cases e2
    cases r1 with
    | cons h t =>
      cases t
      cases h with
      | lst h r => exact ⟨_, _, rfl, sqL_mono s1.le h, k _ H1 F1 own1 sH sF s1 (yields_enum h r)⟩
  · cases e2
/-! ### o.m(..) of a builtin -/
@[simp] noncomputable def D.ty : D → String
  | .str _ => "str"
  | .int _ => "int"
  | .lst _ => "list"
  | .dK _ _ => "dict"
  | .dT _ _ => "dict"
  | _ => "?"
@[simp] noncomputable def tyOk (T : String) (d : D) : Bool := T == d.ty && (T == "str" || T == "list" || T == "dict")
theorem ty_ok {F H : Hp} {d : D} {x : V} {T : String} (le : Same F H) (r : RepN K F H d x) (h : tyOk T d = true) : tyV K T x H := by
  unfold tyOk at h
  simp only [Bool.and_eq_true, beq_iff_eq] at h
  obtain ⟨h1, h2⟩ := h
  subst h1
  cases d with
  | str y => rw [r.str]; rfl
  | lst xs =>
    obtain ⟨a, vs, e, ha, _⟩ := r.lst le
    subst e
    exact .inl ⟨rfl, vs, ha⟩
  | dK ks vs =>
    obtain ⟨a, kvs, e, ⟨ep, ha⟩, _⟩ := r.dK le
    subst e
    exact .inr (.inr (.inl ⟨rfl, .inl ⟨kvs, ep, ha⟩⟩))
  | dT ks vs =>
    obtain ⟨a, kvs, e, ⟨ep, bs, ha⟩, _⟩ := r.dT le
    subst e
    exact .inr (.inr (.inl ⟨rfl, .inr ⟨kvs, ep, bs, ha⟩⟩))
  | non => exact absurd (show ("?" == "str" || "?" == "list" || "?" == "dict") = true from h2) (by decide)
  | bl b => exact absurd (show ("?" == "str" || "?" == "list" || "?" == "dict") = true from h2) (by decide)
  | int i => exact absurd (show ("int" == "str" || "int" == "list" || "int" == "dict") = true from h2) (by decide)
  | tup xs => exact absurd (show ("?" == "str" || "?" == "list" || "?" == "dict") = true from h2) (by decide)
  | exc C ks vs => exact absurd (show ("?" == "str" || "?" == "list" || "?" == "dict") = true from h2) (by decide)
@[simp] noncomputable def bmF (T : String) (g : List D → Option SV) (fo : FE) (fa : FA) : FE := fun δ => (fo δ).bind fun p => (rdv p.1 p.2).bind fun d0 => if tyOk T d0 = true then (fa p.2).bind fun q => (readAll (p.1 :: q.1) q.2).bind fun ds => (g ds).bind fun sv => some (.tmp sv, q.2) else none
noncomputable def PrimM (Z : Ent K) (r : V → List V → Hp → VK → Prop) (g : List D → Option SV) : Prop := PrimN Z (fun vs H Q => ∃ x xs, vs = x :: xs ∧ r x xs H Q) g
end
/-! ### join -/
@[simp] noncomputable def strs? : List D → Option (List Str)
  | [] => some []
  | .str x :: r => (strs? r).bind fun t => some (x :: t)
  | _ => none
@[simp] noncomputable def joinD : List D → Option SV
  | [.str sep, .lst xs] => (strs? xs).bind fun ys => if JoinOk sep ys = true then some (.fz (.str (Txt.join sep ys))) else none
  | _ => none
variable {Z : Ent K}
/-! ### isinstance(e, T) -/
@[simp] noncomputable def D.pyTy : D → String
  | .non => "NoneType"
  | .bl _ => "bool"
  | .int _ => "int"
  | .str _ => "str"
  | .tup _ => "tuple"
  | .lst _ => "list"
  | .dK _ _ => "dict"
  | .dT _ _ => "dict"
  | .exc _ _ _ => "?"
@[simp] noncomputable def D.isExc : D → Bool
  | .exc _ _ _ => true
  | _ => false
@[simp] noncomputable def isiD (c : String) (d : D) : Option SV := if d.isExc = true then none else some (.fz (.bl (d.pyTy == c || (c == "int" && d.pyTy == "bool"))))
/-! ### len, list(x), tuple(x) -/
@[simp] noncomputable def lenD : List D → Option SV
  | [.lst xs] => some (.fz (.int (xs.length : Nat)))
  | [.tup xs] => some (.fz (.int (xs.length : Nat)))
  | [.str x] => if x.length ≤ PySem.sizeLine then some (.fz (.int (x.length : Nat))) else none
  | _ => none
theorem p_len : PrimN Z (fun xs H Q => (∃ p ys, xs = [V.ref p] ∧ (SqL K H p ys ∨ SqT K H p ys) ∧ Q (.int ys.length) H) ∨ (∃ z, xs = [V.str z] ∧ z.length ≤ PySem.sizeLine ∧ Q (.int z.length) H)) lenD := by
  intro F H σ δ own vs ds sv Q s r e k
  unfold lenD at e
  split at e
  · cases e
    cases r with
    | cons h t =>
      cases t
      obtain ⟨a, us, ex, ha, ra⟩ := h.lst s.le
      subst ex
      exact .inl ⟨a, us, rfl, .inl ha, by rw [← ra.length]; exact k.fz s (.int _)⟩
  · cases e
    cases r with
    | cons h t =>
      cases t
      obtain ⟨a, us, ex, ha, ra⟩ := h.tup s.le
      subst ex
      exact .inl ⟨a, us, rfl, .inr ha, by rw [← ra.length]; exact k.fz s (.int _)⟩
  · split at e
    · rename_i hz
      cases e
      cases r with
      | cons h t =>
        cases t
        exact .inr ⟨_, by rw [h.str], hz, k.fz s (.int _)⟩
    · cases e
  · cases e
@[simp] noncomputable def listD : List D → Option SV
  | [.lst xs] => some (.ol xs)
  | [.tup xs] => some (.ol xs)
  | _ => none
@[simp] noncomputable def tupleD : List D → Option SV
  | [.lst xs] => some (.fz (.tup xs))
  | _ => none
@[simp] noncomputable def intD : List D → Option SV
  | [.int i] => some (.fz (.int i))
  | [.bl b] => some (.fz (.int (if b then 1 else 0)))
  | _ => none
theorem p_int : PrimN Z (fun xs H Q => (∃ i, xs = [V.int i] ∧ Q (.int i) H) ∨ ∃ k, xs = [V.bl k] ∧ Q (.int (if k then 1 else 0)) H) intD := by
  intro F H σ δ own vs ds sv Q s r e k
  unfold intD at e
  split at e
  · cases e
    cases r with
    | cons h t => cases t; exact .inl ⟨_, by rw [h.int], k.fz s (.int _)⟩
  · cases e
    cases r with
    | cons h t => cases t; exact .inr ⟨_, by rw [h.bl], k.fz s (.int _)⟩
  · cases e

/-! ## THE RULES BY VALUES -/
section
variable {X : Cx} {Z : Ent X.K} {a b c : Expr} {fa fb fc : FE} {pos : Pos}
theorem e_var (i : Nat) {x : Str} {pos : Pos} (hN : X.N[i]? = some x := by rfl) (hv : Vis X.env.scope x := by first | exact Or.inl rfl | exact Or.inr (Or.inl rfl) | exact Or.inr (Or.inr rfl)) (hd : (x == ("__debug__" : Str)) = false := by decide)
    (hcd : (x == ("__classdict__" : Str)) = false := by decide) : PE X (.Name x pos) (liftE Z (nameF i)) := (pe_var hN hv hd hcd).imp fun _ _ _ h => l_var h
theorem e_int {i : Int} {j : Nat} : PE X (.Constant (.int i) j pos) (liftE Z (constF (.int i))) := pe_int.imp fun _ _ _ h => l_const (fun _ => .int _) h
theorem e_bl {i : Bool} {j : Nat} : PE X (.Constant (.bool i) j pos) (liftE Z (constF (.bl i))) := pe_bl.imp fun _ _ _ h => l_const (fun _ => .bl _) h
theorem e_non {j : Nat} : PE X (.Constant .none j pos) (liftE Z (constF .non)) := pe_non.imp fun _ _ _ h => l_const (fun _ => .non) h
theorem e_str {i : Str} {j : Nat} : PE X (.Constant (.str i) j pos) (liftE Z (constF (.str i))) := pe_str.imp fun _ _ _ h => l_const (fun _ => .str _) h
theorem e_bin {op : Operator} {r : R2} {g : D → D → Option SV} (ho : OpR X (binaryOp op) r) (hp : Prim2 Z r g) (ha : PE X a (liftE Z fa)) (hb : PE X b (liftE Z fb)) : PE X (.BinOp a op b pos) (liftE Z (binF g fa fb)) := (pe_op ho ha hb).imp fun _ _ _ h => l_bin hp h
theorem e_add (ha : PE X a (liftE Z fa)) (hb : PE X b (liftE Z fb)) : PE X (.BinOp a .Add b pos) (liftE Z (binF addD fa fb)) := e_bin op_add3 p_add ha hb
theorem e_sub (ha : PE X a (liftE Z fa)) (hb : PE X b (liftE Z fb)) : PE X (.BinOp a .Sub b pos) (liftE Z (binF subD fa fb)) := e_bin op_sub p_sub ha hb
theorem e_fdiv (ha : PE X a (liftE Z fa)) (hb : PE X b (liftE Z fb)) : PE X (.BinOp a .FloorDiv b pos) (liftE Z (binF fdivD fa fb)) := e_bin op_fdiv p_fdiv ha hb
theorem e_mod (ha : PE X a (liftE Z fa)) (hb : PE X b (liftE Z fb)) : PE X (.BinOp a .Mod b pos) (liftE Z (binF modD fa fb)) := e_bin op_mod p_mod ha hb
theorem e_cmp {op : CmpOp} {r : R2} {g : D → D → Option SV} (ho : OpR X (compareOp op) r) (hp : Prim2 Z r g) (ha : PE X a (liftE Z fa)) (hb : PE X b (liftE Z fb)) (hm : behindInMarks op b = false) : PE X (.Compare a [op] [b] pos) (liftE Z (binF g fa fb)) := (pe_cmpR ho ha hb hm).imp fun _ _ _ h => l_bin hp h
theorem t_cmp {op : CmpOp} {r : R2} {g : D → D → Option SV} (ho : OpR X (compareOp op) r) (hp : Prim2 Z r g) (ha : PE X a (liftE Z fa)) (hb : PE X b (liftE Z fb)) (hm : behindInMarks op b = false) : PT X (.Compare a [op] [b] pos) (liftT Z (testF (binF g fa fb))) :=
  (pt_cmpR ho ha hb hm).imp fun σ H Q h => by
    obtain ⟨F, δ, own, rv, δ', s, e, k⟩ := l_test h
    exact l_bin hp ⟨F, δ, own, rv, δ', s, e, k⟩
theorem t_lt (ha : PE X a (liftE Z fa)) (hb : PE X b (liftE Z fb)) : PT X (.Compare a [.Lt] [b] pos) (liftT Z (testF (binF ltD fa fb))) := t_cmp op_lt p_lt ha hb (nomark _)
theorem t_gt (ha : PE X a (liftE Z fa)) (hb : PE X b (liftE Z fb)) : PT X (.Compare a [.Gt] [b] pos) (liftT Z (testF (binF gtD fa fb))) := t_cmp op_gt p_gt ha hb (nomark _)
theorem t_isN (ha : PE X a (liftE Z fa)) (hb : PE X b (liftE Z fb)) : PT X (.Compare a [.Is] [b] pos) (liftT Z (testF (binF isND fa fb))) := t_cmp op_isN p_isN ha hb (nomark _)
theorem t_notN (ha : PE X a (liftE Z fa)) (hb : PE X b (liftE Z fb)) : PT X (.Compare a [.IsNot] [b] pos) (liftT Z (testF (binF notND fa fb))) := t_cmp op_notN p_notN ha hb (nomark _)
theorem w_and1 {f : FT} (ha : PT X a (liftT Z f)) : PW X (.BoolOp .And [a] pos) (liftT Z f) := pw_and1 ha
theorem w_or1 {f : FT} (ha : PT X a (liftT Z f)) : PW X (.BoolOp .Or [a] pos) (liftT Z f) := pw_or1 ha
theorem w_and {f g : FT} {rest : List Expr} (ha : PT X a (liftT Z f)) (hb : PW X (.BoolOp .And (b :: rest) pos) (liftT Z g)) : PW X (.BoolOp .And (a :: b :: rest) pos) (liftT Z (andF f g)) := (pw_and ha hb).imp fun _ _ _ h => l_and h
theorem w_or {f g : FT} {rest : List Expr} (ha : PT X a (liftT Z f)) (hb : PW X (.BoolOp .Or (b :: rest) pos) (liftT Z g)) : PW X (.BoolOp .Or (a :: b :: rest) pos) (liftT Z (orF f g)) := (pw_or ha hb).imp fun _ _ _ h => l_or h
theorem a_nil : PA X [] (liftA Z argNil) := pa_nil.imp fun _ _ _ h => l_argNil h
theorem a_cons {es : List Expr} {fr : FA} (ha : PE X a (liftE Z fa)) (hr : PA X es (liftA Z fr)) (hs : starEach (a :: es) X.env = (false, eval a X.env) :: starEach es X.env := by rfl) : PA X (a :: es) (liftA Z (argCons fa fr)) := (pa_cons ha hr hs).imp fun _ _ _ h => l_argCons h
theorem d_nil : PA X [] (liftD Z dispNil) := pa_nil.imp fun _ _ _ h => l_dispNil h
theorem d_cons {es : List Expr} {fr : FD} (ha : PE X a (liftE Z fa)) (hr : PA X es (liftD Z fr)) (hs : starEach (a :: es) X.env = (false, eval a X.env) :: starEach es X.env := by rfl) : PA X (a :: es) (liftD Z (dispCons fa fr)) := (pa_cons ha hr hs).imp fun _ _ _ h => l_dispCons h
theorem e_tup {es : List Expr} {fd : FD} {k : Nat} (h : PA X es (liftD Z fd)) : PE X (.Tuple es k pos) (liftE Z (tupF fd)) := (pe_tup h).imp fun _ _ _ h => l_tup h
theorem e_lst {es : List Expr} {fd : FD} (h : PA X es (liftD Z fd)) : PE X (.List es pos) (liftE Z (lstF fd)) := (pe_lst h).imp fun _ _ _ h => l_lst h
theorem o_some (ha : PE X a (liftE Z fa)) : PO X (some a) (liftO Z (partF fa)) := fun pins s σ H Q I h => po_some ha pins s σ H Q I (l_part h)
theorem e_sl {lo hi : Option Expr} {fl fh : FO} {p2 : Pos} (ha : PE X a (liftE Z fa)) (hl : PO X lo (liftO Z fl)) (hh : PO X hi (liftO Z fh)) : PE X (.Subscript a (.Slice lo hi none p2) pos) (liftE Z (slF slD fa fl fh)) :=
  (pe_slice (sl_list.or sl_str) ha hl hh).imp fun _ _ _ h => l_sl p_sl h
theorem e_call {k n : Nat} {f : Addr} {fd : FuncData} {ps : List Str} {g : List D → Option SV} {x : Str} {p : Pos} {es : List Expr} {fr : FA} (F : FnOk X.prog X.w X.K X.mg X.base CX0 k f fd ps (spOf X.K n g)) (hr : Room k X.A) (hm : X.mg x = some (.ref f)) (hk : PySem.W.keepIn X.K (.ref f) = true) (hb : Binds X.K fd ps [])
    (ha : PA X (a :: es) (liftA Z fr)) (hg : Gl X x := by rfl) (hdb : (x == ("__debug__" : Str)) = false := by decide) (he : starEach (a :: es) X.env = (false, eval a X.env) :: starEach es X.env := by rfl) (hpl : (backTo pos (starEach es X.env)).any (·.1) = false := by rfl) :
    PE X (.Call (.Name x p) (a :: es) [] pos) (liftE Z (callF n g fr)) := (pe_call F hr hg hm hk hb .nil pass0 ha hdb he hpl).imp fun _ _ _ h => l_call h
theorem e_callB {id : String} {r : List V → Hp → VK → Prop} {g : List D → Option SV} {x : Str} {p : Pos} {es : List Expr} {fr : FA} (hc : CallR X (.builtin id) r) (hp : PrimN Z r g) (hm : X.mg x = none) (hv : bootBuiltins x = some (.builtin id)) (ha : PA X (a :: es) (liftA Z fr)) (hg : Gl X x := by rfl) (hn : x ≠ "__name__" := by decide) (hdb : (x == ("__debug__" : Str)) = false := by decide)
    (he : starEach (a :: es) X.env = (false, eval a X.env) :: starEach es X.env := by rfl) (hpl : (backTo pos (starEach es X.env)).any (·.1) = false := by rfl) : PE X (.Call (.Name x p) (a :: es) [] pos) (liftE Z (primF g fr)) := (pe_callB hc hg hm hv ha hn hdb he hpl).imp fun _ _ _ h => l_prim hp h
theorem e_callT {T : String} {r : List V → Hp → VK → Prop} {g : List D → Option SV} {x : Str} {p : Pos} {es : List Expr} {fr : FA} (hc : CallR X (.type T) r) (hp : PrimN Z r g) (hm : X.mg x = none) (hv : bootBuiltins x = some (.type T)) (ha : PA X (a :: es) (liftA Z fr)) (hg : Gl X x := by rfl) (hn : x ≠ "__name__" := by decide) (hdb : (x == ("__debug__" : Str)) = false := by decide)
    (he : starEach (a :: es) X.env = (false, eval a X.env) :: starEach es X.env := by rfl) (hpl : (backTo pos (starEach es X.env)).any (·.1) = false := by rfl) : PE X (.Call (.Name x p) (a :: es) [] pos) (liftE Z (primF g fr)) := (pe_callTy hc hg hm hv ha hn hdb he hpl).imp fun _ _ _ h => l_prim hp h
theorem e_len {p : Pos} (hm : X.mg "len" = none) (ha : PE X a (liftE Z fa)) (hg : Gl X "len" := by rfl) (he : starEach [a] X.env = (false, eval a X.env) :: starEach [] X.env := by rfl) (hpl : (backTo pos (starEach [] X.env)).any (·.1) = false := by rfl) : PE X (.Call (.Name "len" p) [a] [] pos) (liftE Z (primF lenD (argCons fa argNil))) :=
  e_callB (call_len_seq.or call_len_str) p_len hm PySem.boot_len (a_cons ha a_nil he) hg (by decide) (by decide) he hpl
theorem e_intC {p : Pos} (hm : X.mg "int" = none) (ha : PE X a (liftE Z fa)) (hg : Gl X "int" := by rfl) (he : starEach [a] X.env = (false, eval a X.env) :: starEach [] X.env := by rfl) (hpl : (backTo pos (starEach [] X.env)).any (·.1) = false := by rfl) : PE X (.Call (.Name "int" p) [a] [] pos) (liftE Z (primF intD (argCons fa argNil))) :=
  e_callT call_int1 p_int hm boot_int (a_cons ha a_nil he) hg (by decide) (by decide) he hpl

/-! targets, what is walked -/
theorem g_name (i : Nat) {x : Str} (hN : X.N.Nodup) (hi : X.N[i]? = some x := by rfl) (hx : Loc X.env.scope x := by first | exact Or.inl rfl | exact Or.inr rfl) (hf : X.fn x = true ∨ X.env.scope.names.lookup x = some .local := by first | exact .inl rfl | exact .inr rfl) : PG X (.Name x pos) (liftG Z (gNameF i)) := (pg_name hN hi hx hf).imp fun _ _ _ _ h => l_gName h
theorem gs_nil : PGs X [] (liftGs Z gNilF) := pgs_nil.imp fun _ _ _ _ h => l_gNil h
theorem gs_cons {es : List Expr} {g : FG} {r : FGs} (h1 : PG X a (liftG Z g)) (h2 : PGs X es (liftGs Z r)) (hs : (assignEach (a :: es) X.env).map (·.2) = assign a X.env :: (assignEach es X.env).map (·.2) := by rfl) : PGs X (a :: es) (liftGs Z (gConsF g r)) := (pgs_cons h1 h2 hs).imp fun _ _ _ _ h => l_gCons h
theorem g_tup {es : List Expr} {k n : Nat} {g : FGs} (hc : X.calm = true) (h : PGs X es (liftGs Z g)) (hn : (assignEach es X.env).length = n := by rfl) (hst : (assignEach es X.env).findIdx? (·.1) = none := by rfl) : PG X (.Tuple es k pos) (liftG Z (gTupF n g)) := (pg_tup hc h hn hst).imp fun _ _ _ _ h => l_gTup h
theorem i_rng {tg : Expr} {p : Pos} (hm : X.mg "range" = none) (ha : PE X a (liftE Z fa)) (hg : Gl X "range" := by rfl) (hs : starEach [a] X.env = [(false, eval a X.env)] := by rfl) : PI X tg (.Call (.Name "range" p) [a] [] pos) (liftI Z (rngI (argCons fa argNil))) := (pi_range1 hg hm (a_cons ha a_nil hs) hs).imp fun _ _ _ h => l_rngI h

/-! comprehensions -/

/-! statements -/
theorem ss_nil : PSs X [] (liftS Z nextF) := pss_nil.imp fun _ _ _ h => l_next h
theorem ss_cons {st : Stmt} {rest : List Stmt} {f g : FS} (h1 : PS X st (liftS Z f)) (h2 : PSs X rest (liftS Z g)) : PSs X (st :: rest) (liftS Z (seqF f g)) := (pss_cons h1 h2).imp fun _ _ _ h => l_seq h
theorem ss_one {st : Stmt} {f : FS} (h : PS X st (liftS Z f)) : PSs X [st] (liftS Z f) := pss_one h
noncomputable def stuckF : FS := fun _ => none
theorem s_never {st : Stmt} : PS X st (liftS Z stuckF) := ps_never.imp fun _ _ _ h => by obtain ⟨F, δ, own, fl, s, e, k⟩ := h; cases e
theorem s_ret (h : PE X a (liftE Z fa)) : PS X (.Return (some a) pos) (liftS Z (retF fa)) := (ps_ret h).imp fun _ _ _ h => l_ret h
theorem s_if {t : FT} {f g : FS} {bt be : List Stmt} (hc : PT X c (liftT Z t)) (ha : PSs X bt (liftS Z f)) (hb : PSs X be (liftS Z g)) : PS X (.If c bt be pos) (liftS Z (ifS t f g)) := (ps_if hc ha hb).imp fun _ _ _ h => l_ifS h
theorem s_set (i : Nat) {x : Str} {pos' : Pos} (hN : X.N.Nodup) (he : PE X a (liftE Z fa)) (hi : X.N[i]? = some x := by rfl) (hx : Loc X.env.scope x := by first | exact Or.inl rfl | exact Or.inr rfl) (hs : swapsWith a (some (.Name x pos')) pos.line X.env = pure false := by rfl) (hf : X.fn x = true ∨ X.env.scope.names.lookup x = some .local := by first | exact .inl rfl | exact .inr rfl) :
    PS X (.Assign [.Name x pos'] a pos) (liftS Z (setF i fa)) := (ps_set hN hi hx he hs hf).imp fun _ _ _ h => l_set h
theorem s_unpack {tg : Expr} {g : FG} (he : PE X a (liftE Z fa)) (hg : PG X tg (liftG Z g)) (hs : swapsWithSole [tg] a pos.line X.env = pure false := by rfl) (hw : swappedStores [tg] a X.env = pure none := by rfl) (h1 : (assignEach [tg] X.env).map (·.2) = [assign tg X.env] := by rfl) :
    PS X (.Assign [tg] a pos) (liftS Z (unpackF g fa)) := (ps_asg he hg hs hw h1).imp fun _ _ _ h => l_unpack h
theorem s_for {tg iter : Expr} {body : List Stmt} {fi : FD} {g : FG} {f : FS} (hp : PassesOwn (model X.prog X.w) X.A X.env X.xe) (hc : X.calm = true) (hi : PI X tg iter (liftI Z fi)) (hg : PG X tg (liftG Z g)) (hb : PSs X body (liftS Z f)) (hs : ∀ x, foldedSetIterable iter X.env x = pure x := by intro _; rfl) :
    PS X (.For tg iter body [] pos) (liftS Z (forF fi g f)) := (ps_for hp hc hi hg hb hs).imp fun _ _ _ h => l_for h
theorem s_while (n : Nat) {t : FT} {body : List Stmt} {f : FS} (hp : PassesOwn (model X.prog X.w) X.A X.env X.xe) (hc : PT X c (liftT Z t)) (hb : PSs X body (liftS Z f)) : PS X (.While c body [] pos) (liftS Z (whileD t f n)) := (ps_while hp hc hb).imp fun _ _ _ h => l_while h
theorem s_app (i : Nat) {x : Str} {px apos cpos : Pos} (hb : PE X b (liftE Z fb)) (hN : X.N[i]? = some x := by rfl) (hv : Vis X.env.scope x := by first | exact Or.inl rfl | exact Or.inr (Or.inl rfl) | exact Or.inr (Or.inr rfl)) (hd : (x == ("__debug__" : Str)) = false := by decide)
    (hcd : (x == ("__classdict__" : Str)) = false := by decide) (hbase : attributeBase (.Name x px) "append" X.env (eval (.Name x px) X.env) = eval (.Name x px) X.env := by rfl)
    (hfew : ((backTo cpos (starEach [b] X.env)).all (fun x => !x.1) && (backToKw cpos (keywordEach [] X.env)).all (fun x => x.1.isSome) && decide ([b].length + ([] : List Keyword).length + (if ([] : List Keyword).isEmpty then 0 else 1) < 30)) = true := by rfl)
    (hline : (apos.endLine == cpos.line) = true := by rfl) (hs : starEach [b] X.env = (false, eval b X.env) :: starEach [] X.env := by rfl) (hpl : (backTo cpos (starEach [] X.env)).any (·.1) = false := by rfl) (hsw : swapsWith (.Call (.Attribute (.Name x px) "append" apos) [b] [] cpos) none pos.line X.env = pure false := by rfl) :
    PS X (.Expr (.Call (.Attribute (.Name x px) "append" apos) [b] [] cpos) pos) (liftS Z (appF i fb)) :=
  (ps_expr (pe_bm PySem.F.plainAttrs_list PySem.F.slot_list_append PySem.F.type_list_append mt_append (pe_var (i := i) hN hv hd hcd) (pa_cons hb pa_nil hs) hbase hfew hline hs hpl) hsw).imp fun _ _ _ h => l_app h
end

/-! ### a def, by its body -/
@[simp] noncomputable def outOf (f : FS) (n : Nat) (ds : List D) : Option SV := match f (startD n ds) with
  | some (.rt sv) => some sv
  | some (.nx _) => some (.fz .non)
  | _ => none
theorem body_out {N : List Str} {n : Nat} {f : FS} {vs : List V} {H : Hp} {Q : VK} {E : XK} (h : spOf K n (outOf f N.length) vs H Q E) : ∃ F, liftS (ent H F : Ent K) f { nx := fun _ H' => Q .non H', rt := Q } (L2.start N vs) H := by
  obtain ⟨F, ds, sv, le, r, hn, e, k⟩ := h
  unfold outOf at e
  split at e
  · rename_i sw hf
    cases e
    exact ⟨F, F, _, _, .rt sv, sr_start (N := N) le r, hf, fun v H' F' ns a b c d e' nd ok => k v H' F' ns d a b c e' nd ok⟩
  · rename_i δ hf
    cases e
    exact ⟨F, F, _, _, .nx δ, sr_start (N := N) le r, hf, fun σ' H' F' own' a s' => k .non H' F' [] s'.old a s'.le s'.fro (.fz .non) List.nodup_nil fun _ h => (nomatch h)⟩
  · cases e
noncomputable def spLaw (K : PySem.W.Frag) : Sp := fun vs H Q _ => ∃ (a : Addr) (ns : List Int), vs = [.ref a] ∧ SqL K H a (ns.map V.int) ∧ ns.length ≤ 63 ∧ ∀ H', Q (.bl true) H'
theorem ints_rep {F : Hp} : ∀ ns : List Int, Reps K F (ns.map D.int) (ns.map V.int)
  | [] => .nil
  | n :: r => .cons (.int n) (ints_rep r)
end DL

namespace DL
open PySem PySem.Spec PyProof.Rows L2
variable {K : PySem.W.Frag}
/-! ### == of lists and tuples, however deep -/
@[simp] noncomputable def eqAll (f : D → D → Option Bool) : List D → List D → Option Bool
  | x :: xs, y :: ys => (f x y).bind fun b => (eqAll f xs ys).bind fun c => some (b && c)
  | _, _ => some true
@[simp] noncomputable def eqStep (f : D → D → Option Bool) : D → D → Option Bool
  | .lst xs, .lst ys => if xs.length = ys.length then eqAll f xs ys else some false
  | .tup xs, .tup ys => (eqAll f xs ys).bind fun b => some (b && decide (xs.length = ys.length))
  | .lst _, .tup _ => some false
  | .tup _, .lst _ => some false
  | d1, d2 => eqS d1 d2
@[simp] noncomputable def eqN : Nat → D → D → Option Bool
  | 0 => fun _ _ => none
  | n + 1 => eqStep (eqN n)
theorem eqS_flat {F H : Hp} {d1 d2 : D} {x y : V} {b : Bool} (e : eqS d1 d2 = some b) (r1 : RepN K F H d1 x) (r2 : RepN K F H d2 y) : flatV x = true ∧ flatV y = true ∧ b = eqV x y := by
  unfold eqS at e
  split at e <;> cases e <;> (first | obtain rfl := r1.non | obtain rfl := r1.int | obtain rfl := r1.bl | obtain rfl := r1.str) <;> (first | obtain rfl := r2.non | obtain rfl := r2.int | obtain rfl := r2.bl | obtain rfl := r2.str) <;> refine ⟨rfl, rfl, ?_⟩ <;> first | rfl | simp [eqV]
section
variable {X : Cx} {pins : List (Addr × Obj)} {σ : L2.St} {F H : Hp} {s : Shared}
theorem eqV_same {x y : V} {v : Value} (rx : RelV x v) (ry : RelV y v) (fx : flatV x = true) (fy : flatV y = true) : eqV x y = true := by
  cases x with
  | non => cases rx; cases y with
    | non => rfl
    | bl b => cases ry
    | int b => obtain ⟨t, e⟩ := ry; cases e
    | str b => obtain ⟨t, e⟩ := ry; cases e
    | _ => cases fy
  | bl a => cases rx; cases y with
    | non => cases ry
    | bl b => cases ry; simp [eqV]
    | int b => obtain ⟨t, e⟩ := ry; cases e
    | str b => obtain ⟨t, e⟩ := ry; cases e
    | _ => cases fy
  | int a => obtain ⟨t, rfl⟩ := rx; cases y with
    | non => cases ry
    | bl b => cases ry
    | int b => obtain ⟨t, e⟩ := ry; cases e; simp [eqV]
    | str b => obtain ⟨t, e⟩ := ry; cases e
    | _ => cases fy
  | str a => obtain ⟨t, rfl⟩ := rx; cases y with
    | non => cases ry
    | bl b => cases ry
    | int b => obtain ⟨t, e⟩ := ry; cases e
    | str b => obtain ⟨t, e⟩ := ry; cases e; simp [eqV]
    | _ => cases fy
  | _ => cases fx
theorem isList_fun {h : Heap} {a : Addr} {i1 i2 : Array Value} (h1 : h.IsList a i1) (h2 : h.IsList a i2) : i1 = i2 := by
  obtain ⟨o, e1, c1, n1, d1⟩ := h1
  obtain ⟨o2, e2, c2, n2, d2⟩ := h2
  rw [e1] at e2; cases e2
  rw [d1] at d2; cases d2; rfl
theorem isTuple_fun {h : Heap} {a : Addr} {i1 i2 : Array Value} (h1 : h.IsTuple a i1) (h2 : h.IsTuple a i2) : i1 = i2 := by
  obtain ⟨o, e1, c1, n1, d1⟩ := h1
  obtain ⟨o2, e2, c2, n2, d2⟩ := h2
  rw [e1] at e2; cases e2
  rw [d1] at d2; cases d2; rfl
theorem sameAll {f : D → D → Option Bool} (hf : ∀ d1 d2 b x y v, Rep X.K F d1 x → RelV x v → Rep X.K F d2 y → RelV y v → f d1 d2 = some b → b = true) : ∀ {xs ys : List D} {vs ws : List V} {us : List Value} {b : Bool}, Reps X.K F xs vs → Vals vs us → Reps X.K F ys ws → Vals ws us → eqAll f xs ys = some b → b = true
  | _, _, _, _, _, _, .nil, .nil, .nil, .nil, e => by cases e; rfl
  | _, _, _, _, _, _, .cons r1 t1, .cons v1 w1, .cons r2 t2, .cons v2 w2, e => by
    obtain ⟨b, e1, e2⟩ := Option.bind_eq_some_iff.mp e
    obtain ⟨c, e3, e4⟩ := Option.bind_eq_some_iff.mp e2
    cases e4
    rw [hf _ _ _ _ _ _ r1 v1 r2 v2 e1, sameAll hf t1 w1 t2 w2 e3]; rfl
theorem same_step (I : Inv X pins σ H s) (le : Same F H) {f : D → D → Option Bool} (ih : ∀ (d1 d2 : D) (b : Bool) (x y : V) (v : Value), Rep X.K F d1 x → RelV x v → Rep X.K F d2 y → RelV y v → f d1 d2 = some b → b = true) (d1 d2 : D) (b : Bool) (x y : V) (v : Value) (r1 : Rep X.K F d1 x) (v1 : RelV x v) (r2 : Rep X.K F d2 y) (v2 : RelV y v) (e : eqStep f d1 d2 = some b) : b = true := by
    unfold eqStep at e
    split at e
    · rename_i xs ys
      cases r1 with
      | lst q1 p1 =>
      cases r2 with
      | lst q2 p2 =>
      cases v1; cases v2
      obtain ⟨i1, w1, l1, _⟩ := I.list (sqL_mono le q1)
      obtain ⟨i2, w2, l2, _⟩ := I.list (sqL_mono le q2)
      have z := isList_fun l1.isList l2.isList
      have z : i1 = i2 := by simpa using z
      subst z
      split at e
      · exact sameAll (ih) p1 w1 p2 w2 e
      · rename_i hl
        have h1 := w1.length
        have h2 := w2.length
        have h3 := p1.length
        have h4 := p2.length
        exact absurd (by omega) hl
    · rename_i xs ys
      cases r1 with
      | tup q1 p1 =>
      cases r2 with
      | tup q2 p2 =>
      cases v1; cases v2
      obtain ⟨i1, w1, l1, _⟩ := I.tuple (sqT_mono le (tupSq q1))
      obtain ⟨i2, w2, l2, _⟩ := I.tuple (sqT_mono le (tupSq q2))
      have z := isTuple_fun l1 l2
      have z : i1 = i2 := by simpa using z
      subst z
      obtain ⟨c, e1, e2⟩ := Option.bind_eq_some_iff.mp e
      cases e2
      have h1 := w1.length
      have h2 := w2.length
      have h3 := p1.length
      have h4 := p2.length
      rw [sameAll (ih) p1 w1 p2 w2 e1, decide_eq_true (by omega)]; rfl
    · cases r1 with
      | lst q1 p1 =>
      cases r2 with
      | tup q2 p2 =>
      cases v1; cases v2
      obtain ⟨i1, w1, l1, _⟩ := I.list (sqL_mono le q1)
      obtain ⟨i2, w2, l2, _⟩ := I.tuple (sqT_mono le (tupSq q2))
      exact absurd rfl (SeqAt.ne_of_list_tuple (s := s) l1.isList l2)
    · cases r1 with
      | tup q1 p1 =>
      cases r2 with
      | lst q2 p2 =>
      cases v1; cases v2
      obtain ⟨i1, w1, l1, _⟩ := I.tuple (sqT_mono le (tupSq q1))
      obtain ⟨i2, w2, l2, _⟩ := I.list (sqL_mono le q2)
      exact absurd rfl (SeqAt.ne_of_list_tuple (s := s) l2.isList l1)
    · obtain ⟨f1, f2, rfl⟩ := eqS_flat (H := H) e (RepN.of r1) (RepN.of r2)
      exact eqV_same v1 v2 f1 f2
theorem eqAll_at {A : Around} {f : D → D → Option Bool} (hf : ∀ d1 d2 b x y v u, Rep X.K F d1 x → RelV x v → Rep X.K F d2 y → RelV y u → f d1 d2 = some b → SeqAt.EqAt A s v u b) : ∀ {xs ys : List D} {vs ws : List V} {us zs : List Value} {b : Bool}, Reps X.K F xs vs → Vals vs us → Reps X.K F ys ws → Vals ws zs → eqAll f xs ys = some b →
    ∃ e : Nat → Bool, (∀ j (h1 : j < us.length) (h2 : j < zs.length), SeqAt.EqAt A s us[j] zs[j] (e j)) ∧ (List.range (min us.length zs.length)).all e = b
  | _, _, _, _, _, _, _, .nil, .nil, _, _, e => by cases e; exact ⟨fun _ => true, fun j h1 => absurd h1 (Nat.not_lt_zero _), by simp⟩
  | _, _, _, _, _, _, _, .cons r1 t1, .cons v1 w1, .nil, .nil, e => by cases e; exact ⟨fun _ => true, fun j _ h2 => absurd h2 (Nat.not_lt_zero _), by simp⟩
  | _, _, _, _, _, _, _, .cons r1 t1, .cons v1 w1, .cons r2 t2, .cons v2 w2, e => by
    obtain ⟨b, e1, e2⟩ := Option.bind_eq_some_iff.mp e
    obtain ⟨c, e3, e4⟩ := Option.bind_eq_some_iff.mp e2
    cases e4
    obtain ⟨g, g1, g2⟩ := eqAll_at hf t1 w1 t2 w2 e3
    refine ⟨fun | 0 => b | j + 1 => g j, fun j h1 h2 => ?_, ?_⟩
    · cases j with
      | zero => exact hf _ _ _ _ _ _ _ r1 v1 r2 v2 e1
      | succ j => exact g1 j (Nat.lt_of_succ_lt_succ h1) (Nat.lt_of_succ_lt_succ h2)
    · rw [List.length_cons, List.length_cons, Nat.succ_min_succ, List.range_succ_eq_map, List.all_cons, List.all_map, ← g2]
      rfl
theorem rcN (I : Inv X pins σ H s) (le : Same F H) {A : Around} {f : D → D → Option Bool} {d1 d2 : D} {b : Bool} {x y : V} {v u : Value}
    (ih : ∀ d1 d2 b x y v u, Rep X.K F d1 x → RelV x v → Rep X.K F d2 y → RelV y u → f d1 d2 = some b → SeqAt.EqAt A.in1 s v u b) (r1 : RepN X.K F H d1 x) (v1 : RelV x v) (r2 : RepN X.K F H d2 y) (v2 : RelV y u)
    (e : eqStep f d1 d2 = some b) (hu : A.units < cLine) (hr : flatV x = false ∨ flatV y = false) : (∃ a c, v = .ref a ∧ u = .ref c) ∧ SeqAt.RcAt A s v u b ∧ SeqAt.RcNeAt A s v u (!b) := by
  unfold eqStep at e
  split at e
  · obtain ⟨a1, vs1, rfl, q1, p1⟩ := r1.lst le
    obtain ⟨a2, vs2, rfl, q2, p2⟩ := r2.lst le
    cases v1; cases v2
    obtain ⟨i1, w1, l1, _⟩ := I.list q1
    obtain ⟨i2, w2, l2, _⟩ := I.list q2
    have h1 := w1.length
    have h2 := w2.length
    have h3 := p1.length
    have h4 := p2.length
    refine ⟨⟨_, _, rfl, rfl⟩, ?_⟩
    split at e
    · rename_i hl
      obtain ⟨g, g1, g2⟩ := eqAll_at ih p1 w1 p2 w2 e
      have hm : min i1.length i2.length = i1.toArray.size := by simp; omega
      rw [hm] at g2
      subst g2
      have hz : i1.toArray.size = i2.toArray.size := by simp; omega
      exact ⟨SeqAt.RcAt.lists l1.isList l2.isList hz hu (fun j j1 j2 => by simpa using g1 j (by simpa using j1) (by simpa using j2)), SeqAt.RcNeAt.lists l1.isList l2.isList hz hu (fun j j1 j2 => by simpa using g1 j (by simpa using j1) (by simpa using j2))⟩
    · rename_i hl
      cases e
      have hz : (i1.toArray.size != i2.toArray.size) = true := by simp; omega
      exact ⟨SeqAt.RcAt.lists_lengths l1.isList l2.isList hz hu, SeqAt.RcNeAt.lists_lengths l1.isList l2.isList hz hu⟩
  · rename_i xs ys
    obtain ⟨a1, vs1, rfl, q1, p1⟩ := r1.tup le
    obtain ⟨a2, vs2, rfl, q2, p2⟩ := r2.tup le
    cases v1; cases v2
    obtain ⟨i1, w1, l1, _⟩ := I.tuple q1
    obtain ⟨i2, w2, l2, _⟩ := I.tuple q2
    have h1 := w1.length
    have h2 := w2.length
    have h3 := p1.length
    have h4 := p2.length
    obtain ⟨c, e1, e2⟩ := Option.bind_eq_some_iff.mp e
    cases e2
    refine ⟨⟨_, _, rfl, rfl⟩, ?_⟩
    obtain ⟨g, g1, g2⟩ := eqAll_at ih p1 w1 p2 w2 e1
    subst g2
    have e3 : ((List.range (min i1.length i2.length)).all g && decide (xs.length = ys.length)) = ((List.range (min i1.toArray.size i2.toArray.size)).all g && i1.toArray.size == i2.toArray.size) := by
      have : (i1.toArray.size == i2.toArray.size) = decide (xs.length = ys.length) := by
        rw [List.size_toArray, List.size_toArray, ← h1, ← h2, ← h3, ← h4]; rfl
      rw [this]; simp
    rw [e3]
    exact ⟨SeqAt.RcAt.tuples l1 l2 hu (fun j j1 j2 => by simpa using g1 j (by simpa using j1) (by simpa using j2)), SeqAt.RcNeAt.tuples l1 l2 hu (fun j j1 j2 => by simpa using g1 j (by simpa using j1) (by simpa using j2))⟩
  · obtain ⟨a1, vs1, rfl, q1, p1⟩ := r1.lst le
    obtain ⟨a2, vs2, rfl, q2, p2⟩ := r2.tup le
    cases v1; cases v2
    cases e
    obtain ⟨i1, w1, l1, _⟩ := I.list q1
    obtain ⟨i2, w2, l2, _⟩ := I.tuple q2
    exact ⟨⟨_, _, rfl, rfl⟩, SeqAt.RcAt.list_tuple l1.isList l2 hu, SeqAt.RcNeAt.list_tuple l1.isList l2 hu⟩
  · obtain ⟨a1, vs1, rfl, q1, p1⟩ := r1.tup le
    obtain ⟨a2, vs2, rfl, q2, p2⟩ := r2.lst le
    cases v1; cases v2
    cases e
    obtain ⟨i1, w1, l1, _⟩ := I.tuple q1
    obtain ⟨i2, w2, l2, _⟩ := I.list q2
    exact ⟨⟨_, _, rfl, rfl⟩, SeqAt.RcAt.tuple_list l1 l2.isList hu, SeqAt.RcNeAt.tuple_list l1 l2.isList hu⟩
  · obtain ⟨f1, f2, _⟩ := eqS_flat e r1 r2
    rcases hr with hr | hr
    · rw [f1] at hr; cases hr
    · rw [f2] at hr; cases hr
noncomputable def rEqN (K : PySem.W.Frag) (neg : Bool) : R2 := fun x y H Q => ∃ F d1 d2 b, Same F H ∧ RepN K F H d1 x ∧ RepN K F H d2 y ∧ eqN 48 d1 d2 = some b ∧ (flatV x = false ∨ flatV y = false) ∧ Q (.bl (if neg then !b else b)) H
end

@[simp] noncomputable def D.isFlat : D → Bool
  | .non => true | .bl _ => true | .int _ => true | .str _ => true | _ => false
@[simp] noncomputable def eqX (d1 d2 : D) : Option SV := if d1.isFlat = true ∧ d2.isFlat = true then eqD d1 d2 else (eqN 48 d1 d2).bind fun b => some (.fz (.bl b))
@[simp] noncomputable def neX (d1 d2 : D) : Option SV := if d1.isFlat = true ∧ d2.isFlat = true then neD d1 d2 else (eqN 48 d1 d2).bind fun b => some (.fz (.bl !b))
theorem notFlat_ok {F H : Hp} {d : D} {x : V} (r : RepN K F H d x) (h : d.isFlat = false) : flatV x = false := by
  obtain ⟨sv, ns, e, n, sh, hp⟩ := r
  cases sh with
  | fz r => cases e; cases r <;> first | rfl | cases h
  | ol r => rfl
  | oK e' r => rfl
  | oT kb e' r => rfl
  | oN e' r => rfl
section
variable {Z : Ent K}
@[simp] noncomputable def negD : D → Option SV
  | .int i => some (.fz (.int (-i)))
  | _ => none
theorem p_neg : Prim1 Z (rU fun i => .int (-i)) negD := by
  intro F H σ δ own x d sv Q s r e k
  unfold negD at e
  split at e
  · cases e; exact ⟨_, r.int, k.fz s (.int _)⟩
  · cases e
end
section
variable {X : Cx} {Z : Ent X.K} {a b c : Expr} {fa fb fc : FE} {pos : Pos}
theorem e_neg (ha : PE X a (liftE Z fa)) : PE X (.UnaryOp .USub a pos) (liftE Z (unF negD fa)) := (pe_un un_neg ha).imp fun _ _ _ h => l_un p_neg h
end
end DL

/-! TEXTS: walked, cut at a text, cut in three; all(..) -/
namespace L2
open PySem PySem.Spec PyProof.Rows
section
variable {X : Cx} {tg : Expr}
noncomputable def Its (z : Str) : It := ⟨fun i _ => i < z.length, fun i H x H' => H' = H ∧ ∃ c, z.cps[i]? = some c ∧ x = .str ⟨#[c]⟩, fun i _ => z.length ≤ i⟩
theorem turn_text {P : Program} {w : World} {K : PySem.W.Frag} {tg : Expr} (z : Str) (t : Tok) (it : Addr) : Turn P w K tg (Its z) [it] it (fun i h => h.IsStrIter it (strIterType z) z t i) where
  mem := by simp
  obj := fun i h st b hb => by
    have e : b = it := by simpa using hb
    subst e
    obtain ⟨o, e, c, d⟩ := st
    exact ⟨o, e, fun v q => by rw [d] at q; cases q⟩
  keep := fun i h h' st k => by
    obtain ⟨o, e, c, d⟩ := st
    exact ⟨o, k it (by simp) o e, c, d⟩
  item := by
    intro X hP hw hK hc i pins s σ H E I hf st hg
    subst hP hw hK
    obtain ⟨f0, f1, f2, f3, f4, f5⟩ := hf it (by simp)
    have hlt : i < z.cps.size := hg
    have hx : z.cps[i]? = some z.cps[i] := by simp [hlt]
    have fin : ∀ h', h'.IsStrIter it (strIterType z) z t (i + 1) → Heap.SameBut it s.heap h' → ∃ u, some (Value.str ⟨#[z.cps[i]]⟩ s.toks) = some u ∧ wpAny (model X.prog X.w) X.A (letOwnedTupleGo tg (.ref it) u) (fun _ s2 => ∃ x H', Inv X pins σ H' s2 ∧ RelV x u ∧ (Its z).yld i H x H' ∧ s2.heap.IsStrIter it (strIterType z) z t (i + 1) ∧ ∀ b ∈ [it], H' b = none) E { s with heap := h', toks := s.toks + 1 } := fun h' st' sb => by
      have I1 : Inv X pins σ H { s with heap := h', toks := s.toks + 1 } := I.turned (t' := s.toks + 1) (fun b o hb q => (sb.2 b hb).trans q) f0 f1 f3 f4 f5
      obtain ⟨o, e, c, d⟩ := id st'
      have hn : ["enumerate", "zip", "dict_itemiterator", "dict_reverseitemiterator", "odict_iterator", "itertools.zip_longest", "itertools.pairwise"].contains (strIterType z) = false := by
        unfold strIterType
        split <;> decide
      exact ⟨_, rfl, go_of (s := { s with heap := h', toks := s.toks + 1 }) e c d hn ⟨.str ⟨#[z.cps[i]]⟩, H, I1, ⟨_, rfl⟩, ⟨rfl, _, hx, rfl⟩, st', fun b hb => (hf b hb).1⟩⟩
    cases ha : z.cps.all (· < 128) with
    | false =>
      have et : strIterType z = "str_iterator" := by unfold strIterType; rw [ha]; rfl
      rw [et] at st fin
      rw [et]
      exact wpAny_pyNext_wide_item st hx fin
    | true =>
      have et : strIterType z = "str_ascii_iterator" := by unfold strIterType; rw [ha]; rfl
      rw [et] at st fin
      rw [et]
      exact wpAny_pyNext_ascii_item st hx fin
  done := by
    intro X hP hw hK hc i pins s σ H E I hf st hg
    subst hP hw hK
    obtain ⟨f0, f1, f2, f3, f4, f5⟩ := hf it (by simp)
    have hge : z.cps.size ≤ i := hg
    have hx : z.cps[i]? = none := by simp [hge]
    cases ha : z.cps.all (· < 128) with
    | false =>
      have et : strIterType z = "str_iterator" := by unfold strIterType; rw [ha]; rfl
      rw [et] at st
      exact wpAny_pyNext_wide_end (I.ok.hd hc) st hx fun h' eb => ⟨rfl, I.turned (t' := s.toks) (fun b o hb q => eb b o hb q) f0 f1 f3 f4 f5⟩
    | true =>
      have et : strIterType z = "str_ascii_iterator" := by unfold strIterType; rw [ha]; rfl
      rw [et] at st
      exact wpAny_pyNext_ascii_end (I.ok.hd hc) st hx fun h' eb => ⟨rfl, I.turned (t' := s.toks) (fun b o hb q => eb b o hb q) f0 f1 f3 f4 f5⟩
  self := fun _ _ _ _ _ st h => by
    cases ha : z.cps.all (· < 128) with
    | false =>
      have et : strIterType z = "str_iterator" := by unfold strIterType; rw [ha]; rfl
      rw [et] at st
      exact wpAny_pyIter_striter_wide st h
    | true =>
      have et : strIterType z = "str_ascii_iterator" := by unfold strIterType; rw [ha]; rfl
      rw [et] at st
      exact wpAny_pyIter_striter_ascii st h
noncomputable def iAny (K : PySem.W.Frag) (tl : TE) : TI := fun σ H R => tl σ H fun x H1 => (∃ a, x = .ref a ∧ (∃ xs, SqL K H1 a xs) ∧ R (Itl K a) H1) ∨ (∃ a, x = .ref a ∧ (∃ xs, SqT K H1 a xs) ∧ R (Itt K a) H1) ∨ (∃ z, x = .str z ∧ R (Its z) H1)
theorem pi_any {l : Expr} {tl : TE} (hl : PE X l tl) : PI X tg l (iAny X.K tl) := by
  intro pins s σ H R I h
  refine thn (hl pins s σ H _ I h) fun v s1 ⟨x, H1, I1, r1, q1⟩ => ?_
  rcases q1 with ⟨a, e, ⟨xs, hq⟩, q⟩ | ⟨a, e, ⟨xs, hq⟩, q⟩ | ⟨z, e, q⟩
  · subst e
    cases r1
    obtain ⟨its, rv, p, hz⟩ := I1.list hq
    refine wpAny_pyIter_list p.isList ?_
    refine ⟨s1.heap.objs.size, [s1.heap.objs.size], _, _, H1, rfl, I1.kept (t' := s1.toks) fun b o e => Heap.get?_push_of_some _ e, turn_list a _, ⟨_, Heap.get?_push_size _ rfl, rfl, rfl⟩, fun b hb => ?_, q⟩
    have e : b = s1.heap.objs.size := by simpa using hb
    subst e
    exact I1.fpOk (Nat.le_refl _) (I1.hok.fresh (Nat.le_refl _))
  · subst e
    cases r1
    obtain ⟨its, rv, p, hz⟩ := I1.tuple hq
    refine wpAny_pyIter_tuple (show s1.heap.IsTuple a its.toArray from p) ?_
    refine ⟨s1.heap.objs.size, [s1.heap.objs.size], _, _, H1, rfl, I1.kept (t' := s1.toks) fun b o e => Heap.get?_push_of_some _ e, turn_tuple a _, ⟨_, Heap.get?_push_size _ rfl, rfl, rfl⟩, fun b hb => ?_, q⟩
    have e : b = s1.heap.objs.size := by simpa using hb
    subst e
    exact I1.fpOk (Nat.le_refl _) (I1.hok.fresh (Nat.le_refl _))
  · subst e
    obtain ⟨t, rfl⟩ := r1
    refine wpAny_pyIter_strU ?_
    refine ⟨s1.heap.objs.size, [s1.heap.objs.size], _, _, H1, rfl, I1.kept (t' := s1.toks) fun b o e => Heap.get?_push_of_some _ e, turn_text z t _, ⟨_, Heap.get?_push_size _ rfl, rfl, rfl⟩, fun b hb => ?_, q⟩
    have e : b = s1.heap.objs.size := by simpa using hb
    subst e
    exact I1.fpOk (Nat.le_refl _) (I1.hok.fresh (Nat.le_refl _))
/-! ### x.split(y), x.partition(y) -/
noncomputable def rSplit : V → List V → Hp → VK → Prop := fun x xs H Q => ∃ a b, x = .str a ∧ xs = [.str b] ∧ (b.length == 0) = false ∧ a.length ≤ sizeLine ∧ (Txt.split a b).length ≤ sizeLine ∧ ∀ p, H p = none → Q (.ref p) (upd H p (.lst ((Txt.split a b).map V.str)))
noncomputable def rPart : V → List V → Hp → VK → Prop := fun x xs H Q => ∃ a b, x = .str a ∧ xs = [.str b] ∧ (b.length == 0) = false ∧ a.length ≤ sizeLine ∧ ∀ p, H p = none → Q (.ref p) (upd H p (.tup [.str (Txt.partition a b).1, .str (Txt.partition a b).2.1, .str (Txt.partition a b).2.2]))
/-! ### all(a list of bools) -/
noncomputable def rAll (K : PySem.W.Frag) : List V → Hp → VK → Prop := fun xs H Q => ∃ (p : Addr) (bs : List Bool), xs = [.ref p] ∧ SqL K H p (bs.map V.bl) ∧ Q (.bl (bs.all id)) H
end
end L2

namespace DL
open PySem PySem.Spec PyProof.Rows L2
variable {K : PySem.W.Frag}
/-! ### what is walked: a list, a tuple, a text -/
noncomputable def signs (z : Str) : List D := z.cps.toList.map fun c => .str ⟨#[c]⟩
theorem yields_text {z : Str} {F : Hp} : Yields K (Its z) F (signs z) := fun F' H sF sH i => by
  have hl : (signs z).length = z.length := by unfold signs; rw [List.length_map]; rfl
  refine ⟨fun d hd => ?_, fun h => by rw [hl] at h; exact h⟩
  have hi : i < z.length := by
    have := (List.getElem?_eq_some_iff.mp hd).1
    rw [hl] at this; exact this
  refine ⟨hi, fun x H' ⟨e1, c, e2, e3⟩ => ?_⟩
  subst e1 e3
  unfold signs at hd
  rw [List.getElem?_map] at hd
  have e4 : z.cps.toList[i]? = some c := by simpa using e2
  rw [e4] at hd
  cases hd
  exact ⟨Same.refl _, [], List.nodup_nil, fun _ h => (nomatch h), .str _⟩
section
variable {Z : Ent K} {H : Hp} {σ : L2.St} {Q : VK} {E : Ends}
@[simp] noncomputable def anyI (fe : FE) : FD := fun δ => (fe δ).bind fun p => (frz p.1 p.2).bind fun q => match q.1 with
  | .lst xs => some (xs, q.2)
  | .tup xs => some (xs, q.2)
  | .str z => some (signs z, q.2)
  | _ => none
theorem l_anyI {fe : FE} {R : It → Hp → Prop} (h : liftI Z (anyI fe) σ H R) : iAny K (liftE Z fe) σ H R := by
  obtain ⟨F, δ, own, ds, δ', s, e, k⟩ := h
  obtain ⟨⟨rv, δ1⟩, e1, e2⟩ := Option.bind_eq_some_iff.mp e
  obtain ⟨⟨d, δ2⟩, e3, e4⟩ := Option.bind_eq_some_iff.mp e2
  refine ⟨F, δ, own, rv, δ1, s, e1, fun v H1 F1 own1 sH sF s1 r1 => ?_⟩
  obtain ⟨F2, sF2, s2, r2⟩ := s1.settleR r1
  obtain ⟨F3, own3, sF3, s3, r3⟩ := s2.frzR r2 e3
  dsimp only at e4
  split at e4
  · cases e4
    cases r3 with
    | lst h r => exact .inl ⟨_, rfl, ⟨_, sqL_mono s3.le h⟩, k _ H1 F3 own3 sH (sF.trans (sF2.trans sF3)) s3 (yields_list h r)⟩
  · cases e4
    cases r3 with
    | tup h r => exact .inr (.inl ⟨_, rfl, ⟨_, sqT_mono s3.le (tupSq h)⟩, k _ H1 F3 own3 sH (sF.trans (sF2.trans sF3)) s3 (yields_tup (tupSq h) r)⟩)
  · cases e4
    cases r3 with
    | str x => exact .inr (.inr ⟨_, rfl, k _ H1 F3 own3 sH (sF.trans (sF2.trans sF3)) s3 yields_text⟩)
  · cases e4
/-! ### in -/
@[simp] noncomputable def inS (i j : Str) : Bool := !(Builtin.Str.occurrences j i 0 j.length 1).isEmpty
@[simp] noncomputable def inD : D → D → Option SV
  | .str i, .str j => some (.fz (.bl (inS i j)))
  | _, _ => none
@[simp] noncomputable def notinD : D → D → Option SV
  | .str i, .str j => some (.fz (.bl (!inS i j)))
  | _, _ => none
theorem p_in : Prim2 Z (fun x y H Q => ∃ i j, x = .str i ∧ y = .str j ∧ Q (.bl (!(Builtin.Str.occurrences j i 0 j.length 1).isEmpty)) H) inD := by
  intro F H σ δ own x y d1 d2 sv Q s r1 r2 e k
  unfold inD at e
  split at e
  · cases e; exact ⟨_, _, r1.str, r2.str, k.fz s (.bl _)⟩
  · cases e
theorem p_notin : Prim2 Z (fun x y H Q => ∃ i j, x = .str i ∧ y = .str j ∧ Q (.bl (!(!(Builtin.Str.occurrences j i 0 j.length 1).isEmpty))) H) notinD := by
  intro F H σ δ own x y d1 d2 sv Q s r1 r2 e k
  unfold notinD at e
  split at e
  · cases e; exact ⟨_, _, r1.str, r2.str, k.fz s (.bl _)⟩
  · cases e
/-! ### split, partition, all -/
@[simp] noncomputable def splitD : List D → Option SV
  | [.str a, .str b] => if (b.length == 0) = false ∧ a.length ≤ PySem.sizeLine ∧ (Txt.split a b).length ≤ PySem.sizeLine then some (.ol ((Txt.split a b).map D.str)) else none
  | _ => none
@[simp] noncomputable def partitionD : List D → Option SV
  | [.str a, .str b] => if (b.length == 0) = false ∧ a.length ≤ PySem.sizeLine then some (.fz (.tup [.str (Txt.partition a b).1, .str (Txt.partition a b).2.1, .str (Txt.partition a b).2.2])) else none
  | _ => none
@[simp] noncomputable def bools? : List D → Option (List Bool)
  | [] => some []
  | .bl x :: r => (bools? r).bind fun t => some (x :: t)
  | _ => none
@[simp] noncomputable def allD : List D → Option SV
  | [.lst xs] => (bools? xs).bind fun bs => some (.fz (.bl (bs.all id)))
  | _ => none
/-! x.clear() -/
@[simp] noncomputable def clearF (i : Nat) : FS := fun δ => match δ[i]? with
  | some (some (.ol _)) => some (.nx (δ.set i (some (.ol []))))
  | _ => none
end
/-! ## the rules -/
section
variable {X : Cx} {Z : Ent X.K} {a b c : Expr} {fa fb fc : FE} {pos : Pos} {tg : Expr}
theorem i_any (ha : PE X a (liftE Z fa)) : PI X tg a (liftI Z (anyI fa)) := fun pins s σ H R I h => pi_any ha pins s σ H R I (l_anyI h)
end
end DL

/-! enumerate(a tuple) -/
namespace L2
open PySem PySem.Spec PyProof.Rows
open AutoSeq1 (wpAny_loadPart')
section
variable {prog : Program} {w : World} {A : Around} {E : Value → Shared → Prop} {s : Shared}
theorem nextOf_tup_item {it t : Addr} {i : Nat} {items : Array Value} {x : Value} {Q : Value → Shared → Prop} (hit : s.heap.IsTupleIter it t i) (ht : s.heap.IsTuple t items) (hx : items[i]? = some x)
    (hQ : ∀ h', h'.IsTupleIter it t (i + 1) → Heap.SameBut it s.heap h' → Q x { s with heap := h' }) : wpAny (model prog w) A (Builtin.SmallTypes.nextOf (.ref it)) Q E s := by
  obtain ⟨o, ho, hc, hd⟩ := id hit; obtain ⟨ol, hol, _, nl, hdl⟩ := ht; unfold Builtin.SmallTypes.nextOf
  refine wpAny_bind (wpAny_callSpecial?_slot (name := Str.ofString "__next__") hit.typeIs F.slot_tuple_iterator_next (wpAny_call_entry F.slot_tuple_iterator_next hit.typeIs F.entry_tuple_iterator_next ?_ (F.args_tuple_iterator_next_1 _)))
  show wpAny _ _ (field (.ref it) 0 >>= _) _ _ s; refine wpAny_bind (wpAny_field ho hd (x := .ref t) rfl ?_)
  show wpAny _ _ (if (Value.ref t == Value.none) = true then _ else _) _ _ s; rw [if_neg (show ¬ ((Value.ref t == Value.none) = true) from Bool.false_ne_true)]
  show wpAny _ _ (field (.ref it) 1 >>= _) _ _ s; refine wpAny_bind (wpAny_field ho hd (x := .int i 0) rfl ?_)
  show wpAny _ _ (seqItems? (.ref t) >>= _) _ _ s; refine wpAny_bind (wpAny_seqItems hol hdl ?_); simp only [Int.toNat_natCast, hx]
  refine wpAny_bind (wpAny_setField ho hd (by simp) (wpAny_pure ⟨x, rfl, wpAny_pure (hQ _ ⟨_, Heap.get?_update_self _ ho (Obj.isFreed_of_fields (Obj.data_mapFields hd _)), (Obj.cls_mapFields ..).trans hc, by rw [Obj.data_mapFields hd]; simp [rawInt]⟩ (Heap.SameBut.update ..))⟩))
theorem nextOf_tup_end {it t : Addr} {i : Nat} {items : Array Value} {Q : Value → Shared → Prop} (hh : A.handled = none) (hit : s.heap.IsTupleIter it t i) (ht : s.heap.IsTuple t items) (hx : items[i]? = none)
    (hE : ∀ h' e, Heap.ExtBut it s.heap h' → (∃ o, h'.get? e = some o ∧ o.cls = .type "StopIteration") → E (.ref e) { s with heap := h' }) : wpAny (model prog w) A (Builtin.SmallTypes.nextOf (.ref it)) Q E s := by
  obtain ⟨o, ho, hc, hd⟩ := id hit; obtain ⟨ol, hol, _, nl, hdl⟩ := ht; unfold Builtin.SmallTypes.nextOf
  refine wpAny_bind (wpAny_callSpecial?_slot (name := Str.ofString "__next__") hit.typeIs F.slot_tuple_iterator_next (wpAny_call_entry F.slot_tuple_iterator_next hit.typeIs F.entry_tuple_iterator_next ?_ (F.args_tuple_iterator_next_1 _)))
  show wpAny _ _ (field (.ref it) 0 >>= _) _ _ s; refine wpAny_bind (wpAny_field ho hd (x := .ref t) rfl ?_)
  show wpAny _ _ (if (Value.ref t == Value.none) = true then _ else _) _ _ s; rw [if_neg (show ¬ ((Value.ref t == Value.none) = true) from Bool.false_ne_true)]
  show wpAny _ _ (field (.ref it) 1 >>= _) _ _ s; refine wpAny_bind (wpAny_field ho hd (x := .int i 0) rfl ?_)
  show wpAny _ _ (seqItems? (.ref t) >>= _) _ _ s; refine wpAny_bind (wpAny_seqItems hol hdl ?_); simp only [Int.toNat_natCast, hx]
  refine wpAny_bind (wpAny_rule (wpAny_bind (wpAny_setField ho hd (by simp) ?_))); show wpAny _ _ (newExc (.type "StopIteration") [] >>= _) _ _ _
  refine wpAny_bind ?_; simp only [newExc, newTuple]; refine wpAny_bind (wpAny_newObj_type ?_ (by size_fits))
  refine wpAny_bind (m := firstArgMember _ _) (wpAny_of_eq (a := Value.none) (by first | rfl | (simp only [firstArgMember]; rfl)) ?_); refine wpAny_newObj_type ?_ (by size_fits)
  simp only [raiseNew]; refine wpAny_bind (wpAny_handled ?_); first | rw [show A.in1.handled = none from hh] | rw [hh]
  refine wpAny_bind (wpAny_pure (wpAny_throw ?_)); exact hE _ _ (((Heap.SameBut.update ..).extBut.push _).push _) ⟨_, Heap.get?_push_size _ rfl, rfl⟩
theorem isTuple_ext {h h' : Heap} {t it : Addr} {items : Array Value} (x : h.IsTuple t items) (hs : Heap.ExtBut it h h') (hne : t ≠ it) : h'.IsTuple t items := let ⟨o, ho, r⟩ := x; ⟨o, hs t o hne ho, r⟩
theorem draws_tup {prog : Program} {w : World} {A : Around} (hh : A.handled = none) (it l : Addr) (hne : l ≠ it) (items : Array Value) :
    Draws prog w A it [it, l] items.size (fun i v => items[i]? = some v) (fun i h => h.IsTupleIter it l i ∧ h.IsTuple l items) where
  live := fun _ _ st => let ⟨o, ho, _⟩ := st.1; ⟨o, ho⟩
  frame := fun _ _ _ st hk => ⟨st.1.at fun o e => hk it (by simp) o e, let ⟨o, ho, r⟩ := st.2; ⟨o, hk l (by simp) o ho, r⟩⟩
  item := fun i s Q E hi st hQ => by
    refine nextOf_tup_item st.1 st.2 (x := items[i]) (by simp [hi]) fun h' hit' hs' => ?_
    exact hQ _ h' s.toks (by simp [hi]) ⟨hit', isTuple_ext st.2 hs'.extBut hne⟩ hs'
  done := fun s Q E st hE => nextOf_tup_end hh st.1 st.2 (by simp) hE
theorem new_enum_tup (l : Addr) (items : Array Value) (n : Nat) (dct : Option Addr) (sl : Array (Option Value)) :
    Meets (Builtin.«enumerate.__new__» ⟨[.type "enumerate", .ref l], []⟩) (fun _ R s => s.heap.get? l = some { cls := .type "tuple", dict := dct, data := .seq items n, slots := sl } ∧
      R (.ok (.ret (.ref (s.heap.push { cls := .type "tuple_iterator", data := .fields #[.ref l, .int 0 0] }).objs.size))) { s with heap := (s.heap.push { cls := .type "tuple_iterator", data := .fields #[.ref l, .int 0 0] }).push { cls := .type "enumerate", data := .fields #[.none, .bool false, .ref s.heap.objs.size, rawInt 0, .none, .none] } }) :=
  .of_wp fun prog w A R s h => by
    obtain ⟨hp, g, d, tk, os⟩ := s; obtain ⟨hl, h⟩ := h; have hsub := sub_enumerate
    have hL : Heap.IsTuple (Shared.heap ⟨hp, g, d, tk, os⟩) l items := ⟨_, hl, rfl, n, rfl⟩
    wp_walk using wpAny_loadPart' hl
    refine wpAny_stack_any fun st => wpAny_pure ?_; split
    · rename_i c _ _ _ _ _
      cases (c == Value.type "enumerate")
      · wp_walk using wpAny_loadPart' hl, wpAny_pyIter_tuple hL
        exact ⟨_, rfl, h⟩
      · wp_walk using wpAny_loadPart' hl, wpAny_pyIter_tuple hL
        exact ⟨_, rfl, h⟩
    · wp_walk using wpAny_loadPart' hl, wpAny_pyIter_tuple hL
      exact ⟨_, rfl, h⟩
theorem call_enum_tup {l : Addr} {items : Array Value} {Q : Value → Shared → Prop} (hL : s.heap.IsTuple l items)
    (h : ∀ h', IsEnum h' (s.heap.objs.size + 1) s.heap.objs.size 0 .none → h'.IsTupleIter s.heap.objs.size l 0 → h'.objs.size = s.heap.objs.size + 2 → (∀ b o, s.heap.get? b = some o → h'.get? b = some o) → Q (.ref (s.heap.objs.size + 1)) { s with heap := h' }) :
    wpAny (model prog w) A (call (.type "enumerate") [.ref l]) Q E s := by
  obtain ⟨⟨c, dct, dt, sl⟩, hl, hc, n, hd⟩ := hL; replace hc : c = .type "tuple" := hc; replace hd : dt = .seq items n := hd; subst hc hd
  refine callType_new F.called_enumerate (by decide) (F.typeCall_enumerate_1 _) (F.newCall_enumerate_1 _) (fun obj => F.args_object_init_2 obj _) F.entry_enumerate_new (new_enum_tup l items n dct sl) ⟨hl, ?_⟩
  have hz : (s.heap.push { cls := .type "tuple_iterator", data := .fields #[.ref l, .int 0 0] }).objs.size = s.heap.objs.size + 1 := Heap.size_push ..
  show _ ∧ _; rw [hz]
  have he : IsEnum ((s.heap.push { cls := .type "tuple_iterator", data := .fields #[.ref l, .int 0 0] }).push { cls := .type "enumerate", data := .fields #[.none, .bool false, .ref s.heap.objs.size, rawInt 0, .none, .none] }) (s.heap.objs.size + 1) s.heap.objs.size 0 .none := by
    have := Heap.get?_push_size (s.heap.push { cls := .type "tuple_iterator", data := .fields #[.ref l, .int 0 0] }) (o := { cls := .type "enumerate", data := .fields #[.none, .bool false, .ref s.heap.objs.size, rawInt 0, .none, .none] }) rfl
    rw [hz] at this; exact this
  exact ⟨⟨_, he, rfl⟩, h _ he ⟨_, Heap.get?_push_of_some _ (Heap.get?_push_size _ rfl), rfl, rfl⟩ (by rw [Heap.size_push, hz]) fun b o x => Heap.get?_push_of_some _ (Heap.get?_push_of_some _ x)⟩
theorem enum_end_tup {e it l : Addr} {i : Nat} {items : Array Value} {old : Value} {Q : Option Value → Shared → Prop} (hh : A.handled = none) (he : IsEnum s.heap e it i old) (hit : s.heap.IsTupleIter it l i) (hl : s.heap.IsTuple l items) (hx : items[i]? = none)
    (hQ : ∀ h', Heap.ExtBut it s.heap h' → Q none { s with heap := h' }) : wpAny (model prog w) A (pyNext (.ref e)) Q E s := by
  have hT : s.TypeIs (.ref e) "enumerate" := ⟨_, he, rfl⟩; unfold pyNext
  refine wpAny_bind (wpAny_attempt (wpAny_callSpecial?_slot (name := Str.ofString "__next__") hT F.slot_enumerate_next (wpAny_call_entry F.slot_enumerate_next hT F.entry_enumerate_next ?_ (F.args_enumerate_next_1 _))))
  show wpAny _ _ (field (.ref e) 2 >>= _) _ _ _; refine wpAny_bind (wpAny_field he rfl (x := .ref it) rfl ?_)
  refine wpAny_bind (nextOf_tup_end (by first | exact hh | (rw [show A.in1.handled = A.handled from rfl]; exact hh)) hit hl hx fun h' x he' hx' => ?_); obtain ⟨o, ho, hc⟩ := hx'
  refine wpAny_bind (wpAny_isInstance (T := "StopIteration") (b := true) ⟨o, ho, hc⟩ isSubtype_stop ?_); exact wpAny_pure (hQ _ he')
end
section
variable {X : Cx} {tg : Expr}
noncomputable def IteT (K : PySem.W.Frag) (a : Addr) : It :=
  ⟨fun i H => ∃ xs x, SqT K H a xs ∧ xs[i]? = some x, fun i H x H' => ∃ p v, x = .ref p ∧ H p = none ∧ H' = upd H p (.tup [.int (i : Nat), v]) ∧ ∀ xs, SqT K H a xs → xs[i]? = some v, fun i H => ∃ xs, SqT K H a xs ∧ xs.length ≤ i⟩
theorem turn_enumT {P : Program} {w : World} {K : PySem.W.Frag} {elts : List Expr} {kk : Nat} {tpos : Pos} (a e it : Addr) (hei : e ≠ it) : Turn P w K (.Tuple elts kk tpos) (IteT K a) [e, it] e (fun i h => (∃ old, IsEnum h e it ((i : Nat) : Int) old) ∧ h.IsTupleIter it a i) where
  mem := by simp
  obj := fun i h st b hb => by
    have hb' : b = e ∨ b = it := by simpa using hb
    rcases hb' with z | z
    · subst z
      obtain ⟨old, q⟩ := st.1
      exact ⟨_, q, fun v y => by
        have y' : Data.fields _ = Data.cell v := y
        cases y'⟩
    · subst z
      obtain ⟨o, q, c, d⟩ := st.2
      exact ⟨o, q, fun v y => by rw [d] at y; cases y⟩
  keep := fun i h h' st k => ⟨let ⟨old, q⟩ := st.1; ⟨old, k e (by simp) _ q⟩, st.2.at fun o q => k it (by simp) o q⟩
  item := by
    intro X hP hw hK hc i pins s σ H E I hf st hg
    subst hP hw hK
    obtain ⟨xs, x, hq, hx⟩ := hg
    obtain ⟨its, rv, p, hz⟩ := I.tuple hq
    obtain ⟨u, hu, ru⟩ := rv.get hx
    obtain ⟨⟨old, he⟩, hit⟩ := st
    have hl : s.heap.IsTuple a its.toArray := p
    have ai : a ≠ it := fun z => by
      obtain ⟨o1, q1, c1, _⟩ := hit
      obtain ⟨o2, q2, c2, _⟩ := hl
      rw [z, q1] at q2; cases q2
      rw [c1] at c2; exact absurd c2 (by decide)
    have ae : e ∉ [it, a] := fun z => by
      have z' : e = it ∨ e = a := by simpa using z
      rcases z' with z | z
      · exact hei z
      · obtain ⟨o2, q2, c2, _⟩ := hl
        rw [← z, he] at q2; cases q2; exact absurd (show Value.type "enumerate" = Value.type "tuple" from c2) (by decide)
    have D := draws_tup (prog := X.prog) (w := X.w) (A := X.A.in1) (by first | exact I.ok.hd hc | (rw [show X.A.in1.handled = X.A.handled from rfl]; exact I.ok.hd hc)) it a ai its.toArray
    have hlt : i < its.toArray.size := by
      have := (List.getElem?_eq_some_iff.mp hu).1
      rw [List.size_toArray]; exact this
    refine wpAny_pyNext_enum_itemD D he ⟨hit, hl⟩ hlt hei ae fun y h' tk hy hout st' hT hsz hk => ⟨.ref s.heap.objs.size, rfl, ?_⟩
    refine wpAny_letOwnedTupleGo_enum hout fun h2 he2 hs2 => ?_
    have hy' : its.toArray[i]? = some y := hy
    have ey : y = u := by
      have : its[i]? = some y := by simpa using hy'
      rw [hu] at this; cases this; rfl
    subst ey
    have kk : ∀ b o, b ≠ e → b ≠ it → s.heap.get? b = some o → h2.get? b = some o := fun b o h1 h3 q => (hs2.2 b h1).trans (hk b o h1 h3 q)
    have neT : s.heap.objs.size ≠ e := Nat.ne_of_gt (Heap.lt_size he)
    have I2 := I.turnedT (h' := h2) (t' := tk + 1) (e := e) (it := it) (T := s.heap.objs.size) (xs := [.int (i : Nat), x]) (its := [.int i tk, y]) kk (hf e (by simp)) (hf it (by simp)) rfl ⟨_, (hs2.2 _ neT).trans hT, rfl, _, rfl⟩ (.cons ⟨tk, rfl⟩ (.cons ru .nil)) (by show 2 ≤ sizeLine; decide)
      ⟨_, he2⟩ (let ⟨o, q, _⟩ := st'.1; ⟨o, (hs2.2 it (Ne.symm hei)).trans q⟩)
    refine ⟨.ref s.heap.objs.size, _, I2, rfl, ⟨s.heap.objs.size, x, rfl, I.hok.fresh (Nat.le_refl _), rfl, fun ys hy2 => by rw [I.tuple_inj hy2 hq]; exact hx⟩, ⟨⟨_, he2⟩, st'.1.at fun o q => (hs2.2 it (Ne.symm hei)).trans q⟩, fun b hb => ?_⟩
    rw [upd_ne fun z => ?_]
    · exact (hf b hb).1
    · have hb' : b = e ∨ b = it := by simpa using hb
      rcases hb' with y | y
      · rw [← z, y] at neT; exact neT rfl
      · obtain ⟨o, q, _⟩ := hit
        rw [y] at z
        exact absurd (Heap.lt_size q) (by rw [z]; exact Nat.lt_irrefl _)
  done := by
    intro X hP hw hK hc i pins s σ H E I hf st hg
    subst hP hw hK
    obtain ⟨xs, hq, hx⟩ := hg
    obtain ⟨its, rv, p, hz⟩ := I.tuple hq
    obtain ⟨⟨old, he⟩, hit⟩ := st
    obtain ⟨f0, f1, f2, f3, f4, f5⟩ := hf it (by simp)
    have hl := rv.length
    exact enum_end_tup (I.ok.hd hc) he hit (show s.heap.IsTuple a its.toArray from p) (by simp; omega) fun h' eb => ⟨rfl, I.turned (t' := s.toks) (fun b o hb q => eb b o hb q) f0 f1 f3 f4 f5⟩
  self := fun _ _ _ _ _ st h => let ⟨⟨old, he⟩, _⟩ := st; wpAny_pyIter_enum he h
noncomputable def iEnumT (K : PySem.W.Frag) (ta : TA) : TI := fun σ H R => ta σ H fun vs H1 => ∃ a xs, vs = [.ref a] ∧ SqT K H1 a xs ∧ R (IteT K a) H1
theorem pi_enumT {l : Expr} {elts : List Expr} {kk : Nat} {tpos p pos : Pos} {ta : TA} (hg : Gl X "enumerate") (hm : X.mg "enumerate" = none) (ha : PA X [l] ta) (hs : starEach [l] X.env = [(false, eval l X.env)] := by rfl) :
    PI X (.Tuple elts kk tpos) (.Call (.Name "enumerate" p) [l] [] pos) (iEnumT X.K ta) := by
  intro pins s σ H R I h
  refine Call_ (ld_blt I hg hm boot_enumerate (PyProof.Rows.callWith_type1 (thn (ha pos pins s σ H _ I h) fun us s1 ⟨vs, H1, I1, r1, q1⟩ => ?_) hs rfl))
  obtain ⟨a, xs, e, hq, q⟩ := q1
  subst e
  obtain ⟨u, rfl, ru⟩ := vals1 r1
  cases ru
  obtain ⟨its, rv, p, hz⟩ := I1.tuple hq
  refine call_enum_tup (show s1.heap.IsTuple a its.toArray from p) fun h' he hit hsz hk => wpAny_pyIter_enum he ?_
  have I2 : Inv X pins σ H1 { s1 with heap := h' } := I1.kept (t' := s1.toks) hk
  refine ⟨s1.heap.objs.size + 1, [s1.heap.objs.size + 1, s1.heap.objs.size], _, _, H1, rfl, I2, turn_enumT a _ _ (Nat.succ_ne_self _), ⟨⟨.none, by simpa using he⟩, hit⟩, fun b hb => ?_, q⟩
  have hb' : b = s1.heap.objs.size + 1 ∨ b = s1.heap.objs.size := by simpa using hb
  rcases hb' with z | z
  · subst z; exact I1.fpOk (Nat.le_succ _) (I1.hok.fresh (Nat.le_succ _))
  · subst z; exact I1.fpOk (Nat.le_refl _) (I1.hok.fresh (Nat.le_refl _))

end
end L2
namespace DL
open PySem PySem.Spec PyProof.Rows L2
variable {K : PySem.W.Frag}
theorem yields_enumT {F : Hp} {a : Addr} {xs : List D} {vs : List V} (h : SqT K F a vs) (r : Reps K F xs vs) : Yields K (IteT K a) F (enumL xs) := fun F' H sF sH i => by
  have q : SqT K H a vs := sqT_mono (sF.trans sH) h
  refine ⟨fun d hd => ?_, fun hl => ⟨vs, q, by rw [← r.length, ← enumL_len]; exact hl⟩⟩
  obtain ⟨x, hx, rfl⟩ := enumL_get hd
  obtain ⟨v, h1, h2⟩ := r.get hx
  refine ⟨⟨vs, v, q, h1⟩, fun y H' ⟨p, w, e1, e2, e3, e4⟩ => ?_⟩
  subst e1 e3
  have e5 := e4 vs q
  rw [h1] at e5; cases e5
  have hp : F' p = none := sH.free e2
  have sm : Same F' (addL F' [(p, .tup [.int (i : Nat), v])]) := addL_same fun z hz => by obtain rfl := List.mem_singleton.mp hz; exact hp
  refine ⟨same_new e2, [(p, .tup [.int (i : Nat), v])], nd1, fun z hz => ?_, .tup upd_same (.cons (.int _) (.cons (h2.mono (sF.trans sm)) .nil))⟩
  obtain rfl := List.mem_singleton.mp hz
  exact ⟨e2, upd_same⟩
section
variable {Z : Ent K} {H : Hp} {σ : L2.St} {Q : VK}
@[simp] noncomputable def enumTI (fd : FD) : FD := fun δ => (fd δ).bind fun p => match p.1 with
  | [.tup xs] => some (enumL xs, p.2)
  | _ => none
theorem l_enumTI {fd : FD} {R : It → Hp → Prop} (h : liftI Z (enumTI fd) σ H R) : iEnumT K (liftD Z fd) σ H R := by
  obtain ⟨F, δ, own, ds, δ', s, e, k⟩ := h
  obtain ⟨⟨ds1, δ1⟩, e1, e2⟩ := Option.bind_eq_some_iff.mp e
  refine ⟨F, δ, own, ds1, δ1, s, e1, fun vs H1 F1 own1 sH sF s1 r1 => ?_⟩
  dsimp only at e2
  split at e2
  · rename_i xs
    cases e2
    cases r1 with
    | cons h t =>
      cases t
      cases h with
      | tup h r => exact ⟨_, _, rfl, sqT_mono s1.le (tupSq h), k _ H1 F1 own1 sH sF s1 (yields_enumT (tupSq h) r)⟩
  · cases e2
end
section
variable {X : Cx} {Z : Ent X.K} {a : Expr} {fa : FE} {pos : Pos}
@[simp] noncomputable def enumXI (fd : FD) : FD := fun δ => (fd δ).bind fun p => match p.1 with
  | [.lst xs] => some (enumL xs, p.2)
  | [.tup xs] => some (enumL xs, p.2)
  | _ => none
theorem l_enumXI {H : Hp} {σ : L2.St} {fd : FD} {R : It → Hp → Prop} (h : liftI Z (enumXI fd) σ H R) : liftI Z (enumI fd) σ H R ∨ liftI Z (enumTI fd) σ H R := by
  obtain ⟨F, δ, own, ds, δ', s, e, k⟩ := h
  obtain ⟨⟨ds1, δ1⟩, e1, e2⟩ := Option.bind_eq_some_iff.mp e
  dsimp only at e2
  split at e2
  · rename_i xs
    exact .inl ⟨F, δ, own, ds, δ', s, Option.bind_eq_some_iff.mpr ⟨_, e1, e2⟩, k⟩
  · rename_i xs
    exact .inr ⟨F, δ, own, ds, δ', s, Option.bind_eq_some_iff.mpr ⟨_, e1, e2⟩, k⟩
  · cases e2
theorem i_enumX {elts : List Expr} {kk : Nat} {tpos p : Pos} {fd : FD} (hm : X.mg "enumerate" = none) (ha : PA X [a] (liftD Z fd)) (hg : Gl X "enumerate" := by rfl) (hs : starEach [a] X.env = [(false, eval a X.env)] := by rfl) :
    PI X (.Tuple elts kk tpos) (.Call (.Name "enumerate" p) [a] [] pos) (liftI Z (enumXI fd)) := fun pins s σ H R I h => by
  rcases l_enumXI h with h | h
  · exact pi_enum hg hm ha hs pins s σ H R I (l_enumI h)
  · exact pi_enumT hg hm ha hs pins s σ H R I (l_enumTI h)
end
end DL

/-! join of a list or a tuple -/
namespace L2
open PySem PySem.Spec PyProof.Rows
variable {X : Cx}
noncomputable def rJoinX (K : PySem.W.Frag) : V → List V → Hp → VK → Prop := fun x xs H Q => ∃ sep p ys, x = .str sep ∧ xs = [.ref p] ∧ (SqL K H p (ys.map V.str) ∨ SqT K H p (ys.map V.str)) ∧ JoinOk sep ys = true ∧ Q (.str (Txt.join sep ys)) H
end L2
namespace DL
open PySem PySem.Spec PyProof.Rows L2
variable {K : PySem.W.Frag}
@[simp] noncomputable def joinXD : List D → Option SV
  | [.str sep, .lst xs] => (strs? xs).bind fun ys => if JoinOk sep ys = true then some (.fz (.str (Txt.join sep ys))) else none
  | [.str sep, .tup xs] => (strs? xs).bind fun ys => if JoinOk sep ys = true then some (.fz (.str (Txt.join sep ys))) else none
  | _ => none
section
variable {X : Cx} {Z : Ent X.K} {a b : Expr} {fa fb : FE}
end
end DL

/-! DICTS: looked up, asked, got, made, put -/
namespace L2
open PySem PySem.Spec PyProof.Rows
variable {X : Cx}
noncomputable def rDGet : R2 := fun x y H Q => ∃ a v, x = .ref a ∧ DGet H a y (some v) ∧ Q v H
noncomputable def rDIn : R2 := fun y x H Q => ∃ a o, x = .ref a ∧ DGet H a y o ∧ Q (.bl o.isSome) H
noncomputable def rDNotIn : R2 := fun y x H Q => ∃ a o, x = .ref a ∧ DGet H a y o ∧ Q (.bl (!o.isSome)) H
theorem op_in_dict (hu : X.A.units + 1 < cLine) : OpR X (compareOp .In) rDIn := by
  intro pins s σ H y x v u Q I ry rx h
  obtain ⟨a, o, rfl, g, q⟩ := h
  cases rx
  exact d_in hu I g ry fun s' I' => ⟨.bl o.isSome, H, I', rfl, q⟩
theorem op_notin_dict (hu : X.A.units + 1 < cLine) : OpR X (compareOp .NotIn) rDNotIn := by
  intro pins s σ H y x v u Q I ry rx h
  obtain ⟨a, o, rfl, g, q⟩ := h
  cases rx
  exact d_notIn hu I g ry fun s' I' => ⟨.bl (!o.isSome), H, I', rfl, q⟩
end L2
namespace DL
open PySem PySem.Spec PyProof.Rows L2
variable {K : PySem.W.Frag}
@[simp] noncomputable def D.key? : D → Option Key
  | .int i => some (.inl i)
  | .str x => some (.inr x)
  | _ => none
@[simp] noncomputable def keys? : List D → Option (List Key)
  | [] => some []
  | d :: r => d.key?.bind fun k => (keys? r).bind fun t => some (k :: t)
section
variable {κ : Type} [DecidableEq κ]
@[simp] noncomputable def look (ks : List κ) (vs : List D) (k : κ) : Option D := match ks, vs with
  | a :: ks, v :: vs => if a = k then some v else look ks vs k
  | _, _ => none
theorem look_ok {F : Hp} (k : κ) : ∀ (kvs : List (κ × V)) (ds : List D), Reps K F ds (kvs.map (·.2)) → match look (kvs.map (·.1)) ds k with
    | some d => ∃ v, valV kvs k = some v ∧ Rep K F d v
    | none => valV kvs k = none
  | [], _, r => by cases r; exact valV_nil
  | p :: kvs, _, r => by
    cases r with
    | @cons d v ds vs h t =>
      show match (if p.1 = k then some d else look (kvs.map (·.1)) ds k) with
        | some d => ∃ v, valV (p :: kvs) k = some v ∧ Rep K F d v
        | none => valV (p :: kvs) k = none
      by_cases e : p.1 = k
      · rw [if_pos e]
        exact ⟨p.2, valV_pos e, h⟩
      · rw [if_neg e, valV_neg e]
        exact look_ok k kvs ds t
@[simp] noncomputable def putA (ks : List κ) (vs : List D) (k : κ) (v : D) : List κ × List D :=
  if k ∈ ks then (ks, (ks.zip vs).map fun p => if p.1 = k then v else p.2) else (ks ++ [k], vs ++ [v])
theorem Reps.length_map {F : Hp} {α : Type} {ds : List D} {kvs : List (α × V)} (r : Reps K F ds (kvs.map (·.2))) : ds.length = kvs.length := by rw [r.length, List.length_map]
theorem put_map {F : Hp} {k : κ} {d : D} {v : V} (hd : Rep K F d v) : ∀ (kvs : List (κ × V)) (ds : List D), Reps K F ds (kvs.map (·.2)) →
    Reps K F (((kvs.map (·.1)).zip ds).map fun p => if p.1 = k then d else p.2) ((kvs.map fun kv => if kv.1 = k then (kv.1, v) else kv).map (·.2))
  | [], _, r => by cases r; exact .nil
  | p :: kvs, _, r => by
    cases r with
    | @cons d' v' ds vs h t =>
      have ih := put_map (k := k) hd kvs ds t
      show Reps K F ((if p.1 = k then d else d') :: (((kvs.map (·.1)).zip ds).map fun p => if p.1 = k then d else p.2)) ((if p.1 = k then (p.1, v) else p).2 :: ((kvs.map fun kv => if kv.1 = k then (kv.1, v) else kv).map (·.2)))
      refine .cons ?_ ih
      by_cases e : p.1 = k
      · rw [if_pos e, if_pos e]; exact hd
      · rw [if_neg e, if_neg e]; exact h
theorem put_keys {k : κ} {v : V} (kvs : List (κ × V)) : (kvs.map fun kv => if kv.1 = k then (kv.1, v) else kv).map (·.1) = kvs.map (·.1) := by
  rw [List.map_map]
  refine List.map_congr_left fun p _ => ?_
  show (if p.1 = k then (p.1, v) else p).1 = p.1
  split <;> rfl
theorem any_mem (k : κ) (kvs : List (κ × V)) : (kvs.any fun kv => decide (kv.1 = k)) = true ↔ k ∈ kvs.map (·.1) := by
  rw [List.any_eq_true, List.mem_map]
  constructor
  · rintro ⟨p, h1, h2⟩; exact ⟨p, h1, of_decide_eq_true h2⟩
  · rintro ⟨p, h1, h2⟩; exact ⟨p, h1, decide_eq_true h2⟩
theorem put_ok {F : Hp} {k : κ} {d : D} {v : V} (hd : Rep K F d v) (kvs : List (κ × V)) (ds : List D) (r : Reps K F ds (kvs.map (·.2))) :
    (putK kvs k v).map (·.1) = (putA (kvs.map (·.1)) ds k d).1 ∧ Reps K F (putA (kvs.map (·.1)) ds k d).2 ((putK kvs k v).map (·.2)) := by
  unfold putK putA
  by_cases h : k ∈ kvs.map (·.1)
  · rw [if_pos h, if_pos ((any_mem k kvs).mpr h)]
    exact ⟨put_keys kvs, put_map hd kvs ds r⟩
  · rw [if_neg h, if_neg fun z => h ((any_mem k kvs).mp z), List.map_append, List.map_append]
    exact ⟨rfl, r.snoc hd⟩
end
theorem key_ok {F H : Hp} {d : D} {k : Key} {y : V} (e : d.key? = some k) (r : RepN K F H d y) : y = kV k := by
  cases d with
  | int i => cases e; exact r.int
  | str x => cases e; exact r.str
  | _ => cases e
theorem key_rep {F : Hp} {d : D} {k : Key} {y : V} (e : d.key? = some k) (r : Rep K F d y) : y = kV k := key_ok (H := F) e (RepN.of r)
theorem keys_ok {F : Hp} : ∀ {ds : List D} {ks : List Key} {vs : List V}, keys? ds = some ks → Reps K F ds vs → vs = ks.map kV
  | [], _, _, e, r => by cases e; cases r; rfl
  | d :: ds, _, _, e, r => by
    cases r with
    | cons h t =>
      obtain ⟨k, e1, e2⟩ := Option.bind_eq_some_iff.mp e
      obtain ⟨t', e3, e4⟩ := Option.bind_eq_some_iff.mp e2
      cases e4
      rw [key_rep e1 h, keys_ok e3 t]; rfl
theorem RepN.tupH {F H : Hp} {xs : List D} {v : V} (le : Same F H) (h : RepN K F H (.tup xs) v) : ∃ a vs, v = .ref a ∧ H a = some (.tup vs) ∧ Reps K F xs vs := by
  obtain ⟨sv, ns, e, n, sh, hp⟩ := h
  cases sh with
  | fz r => cases e; cases r with | tup h r => exact ⟨_, _, rfl, le _ _ h, r⟩
  | ol r => cases e
  | oK e' r => cases e
  | oT kb e' r => cases e
  | oN e' r => cases n
@[simp] noncomputable def getO : D → D → Option (Option D)
  | .dK ks vs, d => d.key?.bind fun k => some (look ks vs k)
  | .dT ks vs, .tup xs => (keys? xs).bind fun k => some (look ks vs k)
  | _, _ => none
theorem get_ok {F H : Hp} {d1 d2 : D} {x y : V} {o : Option D} (le : Same F H) (e : getO d1 d2 = some o) (r1 : RepN K F H d1 x) (r2 : RepN K F H d2 y) :
    ∃ a, x = .ref a ∧ IsD H a ∧ match o with
      | some d => ∃ v, DGet H a y (some v) ∧ Rep K F d v
      | none => DGet H a y none := by
  unfold getO at e
  split at e
  · obtain ⟨k, e1, e2⟩ := Option.bind_eq_some_iff.mp e
    obtain ⟨a, kvs, rfl, ha, rfl, rr⟩ := r1.dK le
    refine ⟨a, rfl, .inl ⟨kvs, ha.rd⟩, ?_⟩
    rw [key_ok e1 r2]
    have z := look_ok k kvs _ rr
    have g := DGet.k (k := k) ha
    rw [Option.some.inj e2] at z
    cases o with
    | none => rw [show valV kvs k = none from z] at g; exact g
    | some d => obtain ⟨v, z1, z2⟩ := z; rw [z1] at g; exact ⟨v, g, z2⟩
  · obtain ⟨k, e1, e2⟩ := Option.bind_eq_some_iff.mp e
    obtain ⟨a, kvs, rfl, ha, rfl, rr⟩ := r1.dT le
    obtain ⟨b, vs, rfl, hb, rb⟩ := r2.tupH le
    refine ⟨a, rfl, .inr ⟨kvs, ha.rd⟩, ?_⟩
    rw [keys_ok e1 rb] at hb
    have z := look_ok k kvs _ rr
    have g := DGet.t ha hb
    rw [Option.some.inj e2] at z
    cases o with
    | none => rw [show valV kvs k = none from z] at g; exact g
    | some d => obtain ⟨v, z1, z2⟩ := z; rw [z1] at g; exact ⟨v, g, z2⟩
  · cases e
section
variable {Z : Ent K}
@[simp] noncomputable def dgetD (d1 d2 : D) : Option SV := (getO d1 d2).bind fun o => o.bind fun d => some (.fz d)
theorem p_dget : Prim2 Z rDGet dgetD := by
  intro F H σ δ own x y d1 d2 sv Q s r1 r2 e k
  obtain ⟨o, e1, e2⟩ := Option.bind_eq_some_iff.mp e
  obtain ⟨d, e3, e4⟩ := Option.bind_eq_some_iff.mp e2
  cases e4
  subst e3
  obtain ⟨a, rfl, _, v, g, rv⟩ := get_ok s.le e1 r1 r2
  exact ⟨a, v, rfl, g, k.fz s rv⟩
@[simp] noncomputable def inDd (d1 d2 : D) : Option SV := (getO d2 d1).bind fun o => some (.fz (.bl o.isSome))
@[simp] noncomputable def notinDd (d1 d2 : D) : Option SV := (getO d2 d1).bind fun o => some (.fz (.bl (!o.isSome)))
theorem p_inDd : Prim2 Z rDIn inDd := by
  intro F H σ δ own x y d1 d2 sv Q s r1 r2 e k
  obtain ⟨o, e1, e2⟩ := Option.bind_eq_some_iff.mp e
  cases e2
  obtain ⟨a, rfl, _, g⟩ := get_ok s.le e1 r2 r1
  cases o with
  | none => exact ⟨a, none, rfl, g, k.fz s (.bl _)⟩
  | some d => obtain ⟨v, g, _⟩ := g; exact ⟨a, some v, rfl, g, k.fz s (.bl _)⟩
theorem p_notinDd : Prim2 Z rDNotIn notinDd := by
  intro F H σ δ own x y d1 d2 sv Q s r1 r2 e k
  obtain ⟨o, e1, e2⟩ := Option.bind_eq_some_iff.mp e
  cases e2
  obtain ⟨a, rfl, _, g⟩ := get_ok s.le e1 r2 r1
  cases o with
  | none => exact ⟨a, none, rfl, g, k.fz s (.bl _)⟩
  | some d => obtain ⟨v, g, _⟩ := g; exact ⟨a, some v, rfl, g, k.fz s (.bl _)⟩
@[simp] noncomputable def D.isD : D → Bool
  | .dK _ _ => true | .dT _ _ => true | _ => false
@[simp] noncomputable def ixX (d1 d2 : D) : Option SV := if d1.isD = true then dgetD d1 d2 else ixD d1 d2
@[simp] noncomputable def inX (d1 d2 : D) : Option SV := if d2.isD = true then inDd d1 d2 else inD d1 d2
@[simp] noncomputable def notinX (d1 d2 : D) : Option SV := if d2.isD = true then notinDd d1 d2 else notinD d1 d2
theorem bin_split {H : Hp} {σ : L2.St} {Q : VK} {fa fb : FE} {g g1 g2' : D → D → Option SV} (hg : ∀ d1 d2 sv, g d1 d2 = some sv → g1 d1 d2 = some sv ∨ g2' d1 d2 = some sv) (h : liftE Z (binF g fa fb) σ H Q) : liftE Z (binF g1 fa fb) σ H Q ∨ liftE Z (binF g2' fa fb) σ H Q := by
  obtain ⟨F, δ, own, rv, δ', s, e, k⟩ := h
  obtain ⟨⟨rvs, δ1⟩, e1, e2⟩ := Option.bind_eq_some_iff.mp e
  obtain ⟨ds, e3, e4⟩ := Option.bind_eq_some_iff.mp e2
  obtain ⟨sv, e5, e6⟩ := Option.bind_eq_some_iff.mp e4
  have : (g2 g1) ds = some sv ∨ (g2 g2') ds = some sv := by
    unfold g2 at e5 ⊢
    split at e5
    · exact hg _ _ _ e5
    · cases e5
  rcases this with z | z
  · exact .inl ⟨F, δ, own, rv, δ', s, Option.bind_eq_some_iff.mpr ⟨_, e1, Option.bind_eq_some_iff.mpr ⟨_, e3, Option.bind_eq_some_iff.mpr ⟨_, z, e6⟩⟩⟩, k⟩
  · exact .inr ⟨F, δ, own, rv, δ', s, Option.bind_eq_some_iff.mpr ⟨_, e1, Option.bind_eq_some_iff.mpr ⟨_, e3, Option.bind_eq_some_iff.mpr ⟨_, z, e6⟩⟩⟩, k⟩
theorem p_inX : Prim2 Z (fun x y H Q => (∃ i j, x = .str i ∧ y = .str j ∧ Q (.bl (!(Builtin.Str.occurrences j i 0 j.length 1).isEmpty)) H) ∨ rDIn x y H Q) inX := by
  intro F H σ δ own x y d1 d2 sv Q s r1 r2 e k
  unfold inX at e
  split at e
  · exact .inr (p_inDd F H σ δ own x y d1 d2 sv Q s r1 r2 e k)
  · exact .inl (p_in F H σ δ own x y d1 d2 sv Q s r1 r2 e k)
theorem p_notinX : Prim2 Z (fun x y H Q => (∃ i j, x = .str i ∧ y = .str j ∧ Q (.bl (!(!(Builtin.Str.occurrences j i 0 j.length 1).isEmpty))) H) ∨ rDNotIn x y H Q) notinX := by
  intro F H σ δ own x y d1 d2 sv Q s r1 r2 e k
  unfold notinX at e
  split at e
  · exact .inr (p_notinDd F H σ δ own x y d1 d2 sv Q s r1 r2 e k)
  · exact .inl (p_notin F H σ δ own x y d1 d2 sv Q s r1 r2 e k)
end
section
variable {X : Cx} {Z : Ent X.K} {a b c : Expr} {fa fb fc : FE} {pos : Pos}
theorem e_ixX (hu : X.A.units + 1 < cLine) (ha : PE X a (liftE Z fa)) (hb : PE X b (liftE Z fb)) (hs : PlainIx b := by intro _ _; rfl) : PE X (.Subscript a b pos) (liftE Z (binF ixX fa fb)) := fun pins s σ H Q I h => by
  rcases bin_split (g1 := dgetD) (g2' := ixD) (fun d1 d2 sv e => by
    unfold ixX at e
    split at e
    · exact .inl e
    · exact .inr e) h with h | h
  · exact pe_dget hu ha hb hs pins s σ H Q I (l_bin p_dget h)
  · exact pe_ix ix_seq ha hb hs pins s σ H Q I (l_bin p_ix h)
end
end DL

namespace L2
open PySem PySem.Spec PyProof.Rows
variable {X : Cx}
noncomputable def rDGetM : V → List V → Hp → VK → Prop := fun x xs H Q => ∃ a, x = .ref a ∧ ((∃ y o, xs = [y] ∧ DGet H a y o ∧ Q (o.getD .non) H) ∨ (∃ y z o, xs = [y, z] ∧ DGet H a y o ∧ Q (o.getD z) H))
theorem mt_dget (hu : X.A.units + 1 < cLine) : MtR X "dict.get" rDGetM := by
  intro pins s σ H x xs v us Q I rx rs h
  obtain ⟨a, rfl, h⟩ := h
  cases rx
  rcases h with ⟨y, o, rfl, g, q⟩ | ⟨y, z, o, rfl, g, q⟩
  · obtain ⟨u, rfl, ru⟩ := vals1 rs
    exact d_get1 hu I g ru fun w' s' I' r' => ⟨_, H, I', r', q⟩
  · obtain ⟨u, w', rfl, r1, r2⟩ := vals2 rs
    exact d_get2 hu I g r1 r2 fun w' s' I' r' => ⟨_, H, I', r', q⟩
end L2
namespace DL
open PySem PySem.Spec PyProof.Rows L2
variable {K : PySem.W.Frag}
section
variable {Z : Ent K} {H : Hp} {σ : L2.St} {Q : VK} {E : Ends}
/-! {} -/
@[simp] noncomputable def dnewK : FE := fun δ => some (.tmp (.oK [] []), δ)
@[simp] noncomputable def dnewT : FE := fun δ => some (.tmp (.oT [] []), δ)
theorem l_dnewK (h : liftE Z dnewK σ H Q) : tDNewK σ H Q := by
  obtain ⟨F, δ, own, rv, δ', s, e, k⟩ := h
  cases e
  intro p hp
  have f : Fin Z F H σ δ own (.oK [] []) Q := fun v H' F' ns a b c t => k v H' F' own a b c ⟨ns, t⟩
  exact f.one s (.oK (kvs := []) rfl .nil) hp
theorem l_dnewT (h : liftE Z dnewT σ H Q) : tDNewT σ H Q := by
  obtain ⟨F, δ, own, rv, δ', s, e, k⟩ := h
  cases e
  intro p hp
  have f : Fin Z F H σ δ own (.oT [] []) Q := fun v H' F' ns a b c t => k v H' F' own a b c ⟨ns, t⟩
  exact f.one s (.oT (kvs := []) .nil rfl .nil) hp
/-! d[k] = v, of a slot's own dict -/
@[simp] noncomputable def SV.isOD : Option (Option SV) → Bool
  | some (some (.oK _ _)) => true
  | some (some (.oT _ _)) => true
  | _ => false
@[simp] noncomputable def putS (kd d : D) : Option (Option SV) → Option SV
  | some (some (.oK ks vs)) => kd.key?.bind fun k => if vs.length < PySem.sizeLine then some (.oK (putA ks vs k d).1 (putA ks vs k d).2) else none
  | some (some (.oT ks vs)) => match kd with
    | .tup xs => (keys? xs).bind fun k => if vs.length < PySem.sizeLine then some (.oT (putA ks vs k d).1 (putA ks vs k d).2) else none
    | _ => none
  | _ => none
@[simp] noncomputable def putF (i : Nat) (fk fv : FE) : FS := fun δ => (fv δ).bind fun p => (frz p.1 p.2).bind fun q => if SV.isOD (q.2[i]?) = true then (fk q.2).bind fun r => (rdv r.1 r.2).bind fun kd => (putS kd q.1 (r.2[i]?)).bind fun sv => some (.nx (r.2.set i (some sv))) else none
theorem shape_oK {F : Hp} {ks : List Key} {ds : List D} {v : V} {ns : Nodes} (h : Shape K F (.oK ks ds) v ns) : ∃ a kvs ep, v = .ref a ∧ ns = [(a, .dK kvs ep)] ∧ kvs.map (·.1) = ks ∧ Reps K F ds (kvs.map (·.2)) := by
  cases h with
  | oK e r => exact ⟨_, _, _, rfl, rfl, e, r⟩
theorem shape_oT {F : Hp} {ks : List (List Key)} {ds : List D} {v : V} {ns : Nodes} (h : Shape K F (.oT ks ds) v ns) : ∃ a kvs ep bs, v = .ref a ∧ ns = [(a, .dT kvs ep bs)] ∧ KB F kvs bs ∧ kvs.map (·.1) = ks ∧ Reps K F ds (kvs.map (·.2)) := by
  cases h with
  | oT kb e r => exact ⟨_, _, _, _, rfl, rfl, kb, e, r⟩
theorem KB.put {F : Hp} {kvs : List (List Key × V)} {bs : List Addr} {k : List Key} {b : Addr} {v : V} (h : KB F kvs bs) (hb : F b = some (.tup (k.map kV))) : KB F (putK kvs k v) (putB kvs bs k b) := by
  unfold putK putB
  split
  · unfold KB at *
    clear hb
    rename_i hq
    clear hq
    induction h with
    | nil => exact .nil
    | @cons p c ps cs h1 t ih =>
      rw [List.map_cons]
      refine .cons ?_ ih
      by_cases e : p.1 = k
      · rw [if_pos e]; exact h1
      · rw [if_neg e]; exact h1
  · exact Paired.snoc h hb
theorem RepN.tupF {F H : Hp} {xs : List D} {v : V} (h : RepN K F H (.tup xs) v) : ∃ a vs, v = .ref a ∧ F a = some (.tup vs) ∧ Reps K F xs vs := by
  obtain ⟨sv, ns, e, n, sh, hp⟩ := h
  cases sh with
  | fz r => cases e; cases r with | tup h r => exact ⟨_, _, rfl, h, r⟩
  | ol r => cases e
  | oK e' r => cases e
  | oT kb e' r => cases e
  | oN e' r => cases n
theorem od_some {o : Option (Option SV)} (h : SV.isOD o = true) : ∃ sv, o = some (some sv) := by
  unfold SV.isOD at h
  split at h
  · exact ⟨_, rfl⟩
  · exact ⟨_, rfl⟩
  · cases h
theorem l_put {i : Nat} {fk fv : FE} (h : liftS Z (putF i fk fv) E σ H) : sDPut (tVar i) (liftE Z fk) (liftE Z fv) E σ H := by
  obtain ⟨F, δ, own, fl, s, e, k⟩ := h
  obtain ⟨⟨rv, δ1⟩, e1, e⟩ := Option.bind_eq_some_iff.mp e
  obtain ⟨⟨d, δ2⟩, e2, e⟩ := Option.bind_eq_some_iff.mp e
  dsimp only at e
  split at e
  · rename_i hod
    obtain ⟨⟨rk, δ3⟩, e3, e⟩ := Option.bind_eq_some_iff.mp e
    obtain ⟨kd, e4, e⟩ := Option.bind_eq_some_iff.mp e
    obtain ⟨sv, e5, e⟩ := Option.bind_eq_some_iff.mp e
    cases e
    refine ⟨F, δ, own, rv, δ1, s, e1, fun v H1 F1 own1 sH1 sF1 s1 r1 => ?_⟩
    obtain ⟨F2, sF2, s2, r2⟩ := s1.settleR r1
    obtain ⟨F3, own3, sF3, s3, r3⟩ := s2.frzR r2 e2
    obtain ⟨sv0, hsv0⟩ := od_some hod
    obtain ⟨x, hx, _⟩ := s3.at' i sv0 hsv0
    refine ⟨x, hx, F3, δ2, own3, rk, δ3, s3, e3, fun y H4 F4 own4 sH4 sF4 s4 r4 => ?_⟩
    obtain ⟨F5, sF5, s5, r5⟩ := s4.settleR r4
    have rk' := s5.rd r5 e4
    have rd : Rep K F5 d v := r3.mono (sF4.trans sF5)
    have sF : Same F F5 := sF1.trans (sF2.trans (sF3.trans (sF4.trans sF5)))
    dsimp only at e5
    generalize ho : δ3[i]? = o at e5
    unfold putS at e5
    split at e5
    · rename_i ks vs
      obtain ⟨kk, f1, f2⟩ := Option.bind_eq_some_iff.mp e5
      split at f2
      · rename_i hz
        cases f2
        obtain ⟨x', hx', sh⟩ := s5.at' i _ ho
        rw [hx] at hx'; cases hx'
        obtain ⟨a, kvs, ep0, ea, en, rfl, rr⟩ := shape_oK sh
        subst ea
        have mb : (a, HO.dK kvs ep0) ∈ own4 i := by rw [en]; exact List.mem_cons_self
        have hH := (s5.ok i _ mb).2.2
        have z := put_ok (k := kk) rd kvs vs rr
        refine ⟨a, rfl, ?_⟩
        rw [key_ok f1 rk']
        refine DPut.k ⟨_, hH⟩ (by rw [← rr.length_map]; exact hz) fun ep => ?_
        exact k σ _ F5 _ sF (s5.change (sv' := .oK (putA (kvs.map (·.1)) vs kk d).1 (putA (kvs.map (·.1)) vs kk d).2) (o' := .dK (putK kvs kk v) ep) (ns' := [(a, .dK (putK kvs kk v) ep)]) ho hx mb (.oK z.1 z.2) (fun p hp => .inl (List.mem_singleton.mp hp)) nd1)
      · cases f2
    · rename_i ks vs
      split at e5
      · rename_i xs
        obtain ⟨kk, f1, f2⟩ := Option.bind_eq_some_iff.mp e5
        split at f2
        · rename_i hz
          cases f2
          obtain ⟨x', hx', sh⟩ := s5.at' i _ ho
          rw [hx] at hx'; cases hx'
          obtain ⟨a, kvs, ep0, bs0, ea, en, kb, rfl, rr⟩ := shape_oT sh
          subst ea
          have mb : (a, HO.dT kvs ep0 bs0) ∈ own4 i := by rw [en]; exact List.mem_cons_self
          have hH := (s5.ok i _ mb).2.2
          have z := put_ok (k := kk) rd kvs vs rr
          obtain ⟨b, us, rfl, hbF, rb⟩ := rk'.tupF
          rw [keys_ok f1 rb] at hbF
          refine ⟨a, rfl, DPut.t ⟨_, _, hH⟩ (s5.le _ _ hbF) (by rw [← rr.length_map]; exact hz) fun ep ep1 bs1 hq => ?_⟩
          rw [hH] at hq
          cases hq
          exact k σ _ F5 _ sF (s5.change (sv' := .oT (putA (kvs.map (·.1)) vs kk d).1 (putA (kvs.map (·.1)) vs kk d).2) (o' := .dT (putK kvs kk v) ep (putB kvs bs0 kk b)) (ns' := [(a, .dT (putK kvs kk v) ep (putB kvs bs0 kk b))]) ho hx mb (.oT (kb.put hbF) z.1 z.2) (fun p hp => .inl (List.mem_singleton.mp hp)) nd1)
        · cases f2
      · cases e5
    · cases e5
  · cases e
/-! o.m(..), the arguments frozen -/
@[simp] noncomputable def bmDF (T : String) (g : D → List D → Option SV) (fo : FE) (fd : FD) : FE := fun δ => (fo δ).bind fun p => (rdv p.1 p.2).bind fun d0 => if tyOk T d0 = true then (fd p.2).bind fun q => (rdv p.1 q.2).bind fun d1 => (g d1 q.1).bind fun sv => some (.tmp sv, q.2) else none
noncomputable def PrimF (Z : Ent K) (r : V → List V → Hp → VK → Prop) (g : D → List D → Option SV) : Prop :=
  ∀ (F H : Hp) (σ : L2.St) (δ : DSt) (own : Nat → Nodes) (x : V) (d : D) (vs : List V) (ds : List D) (sv : SV) (Q : VK), SR Z F H σ δ own → RepN K F H d x → Reps K F ds vs → g d ds = some sv → Fin Z F H σ δ own sv Q → r x vs H Q
theorem l_bmD {T : String} {r : V → List V → Hp → VK → Prop} {g : D → List D → Option SV} {fo : FE} {fd : FD} (hg : PrimF Z r g) (h : liftE Z (bmDF T g fo fd) σ H Q) : tBM K T r (liftE Z fo) (liftD Z fd) σ H Q := by
  obtain ⟨F, δ, own, rv, δ', s, e, k⟩ := h
  obtain ⟨⟨rv1, δ1⟩, e1, e⟩ := Option.bind_eq_some_iff.mp e
  obtain ⟨d0, e2, e⟩ := Option.bind_eq_some_iff.mp e
  dsimp only at e
  split at e
  · rename_i ht
    obtain ⟨⟨ds, δ2⟩, e3, e⟩ := Option.bind_eq_some_iff.mp e
    obtain ⟨d1, e4, e⟩ := Option.bind_eq_some_iff.mp e
    obtain ⟨sv, e5, e⟩ := Option.bind_eq_some_iff.mp e
    cases e
    refine ⟨F, δ, own, rv1, δ1, s, e1, fun v H1 F1 own1 sH1 sF1 s1 r1 => ?_⟩
    obtain ⟨F1', sF1', s1', r1'⟩ := s1.settleR r1
    refine ⟨ty_ok s1'.le (s1'.rd r1' e2) ht, F1', δ1, own1, ds, δ2, s1', e3, fun vs H2 F2 own2 sH2 sF2 s2 r2 => ?_⟩
    exact hg F2 H2 σ δ2 own2 v d1 vs ds sv Q s2 (s2.rd (r1'.mono sF2) e4) r2 e5 fun q H4 F4 ns sH4 sF4 s4 t4 =>
      k q H4 F4 own2 (sH1.trans (sH2.trans sH4)) (sF1.trans (sF1'.trans (sF2.trans sF4))) s4 ⟨ns, t4⟩
  · cases e
@[simp] noncomputable def dgetMD : D → List D → Option SV
  | d, [y] => (getO d y).bind fun o => some (.fz (o.getD .non))
  | d, [y, z] => (getO d y).bind fun o => some (.fz (o.getD z))
  | _, _ => none
theorem p_dgetM : PrimF Z rDGetM dgetMD := by
  intro F H σ δ own x d vs ds sv Q s r1 r2 e k
  unfold dgetMD at e
  split at e
  · obtain ⟨o, e1, e2⟩ := Option.bind_eq_some_iff.mp e
    cases e2
    cases r2 with
    | cons h t =>
      cases t
      obtain ⟨a, rfl, _, g⟩ := get_ok s.le e1 r1 (RepN.of h)
      cases o with
      | none => exact ⟨a, rfl, .inl ⟨_, none, rfl, g, k.fz s .non⟩⟩
      | some d => obtain ⟨v, g, rv⟩ := g; exact ⟨a, rfl, .inl ⟨_, some v, rfl, g, k.fz s rv⟩⟩
  · obtain ⟨o, e1, e2⟩ := Option.bind_eq_some_iff.mp e
    cases e2
    cases r2 with
    | cons h t =>
      cases t with
      | cons h2 t =>
        cases t
        obtain ⟨a, rfl, _, g⟩ := get_ok s.le e1 r1 (RepN.of h)
        cases o with
        | none => exact ⟨a, rfl, .inr ⟨_, _, none, rfl, g, k.fz s h2⟩⟩
        | some d => obtain ⟨v, g, rv⟩ := g; exact ⟨a, rfl, .inr ⟨_, _, some v, rfl, g, k.fz s rv⟩⟩
  · cases e
end
section
variable {X : Cx} {Z : Ent X.K} {a b c : Expr} {fa fb fc : FE} {pos : Pos}
theorem e_dnewK : PE X (.Dict [] [] pos) (liftE Z dnewK) := pe_dnewK.imp fun _ _ _ h => l_dnewK h
theorem e_dnewT : PE X (.Dict [] [] pos) (liftE Z dnewT) := pe_dnewT.imp fun _ _ _ h => l_dnewT h
theorem e_dget {apos cpos : Pos} {es : List Expr} {fd : FD} (hu : X.A.units + 1 < cLine) (ha : PE X a (liftE Z fa)) (hb : PA X (b :: es) (liftD Z fd)) (hbase : attributeBase a "get" X.env (eval a X.env) = eval a X.env := by rfl)
    (hfew : ((backTo cpos (starEach (b :: es) X.env)).all (fun x => !x.1) && (backToKw cpos (keywordEach [] X.env)).all (fun x => x.1.isSome) && decide ((b :: es).length + ([] : List Keyword).length + (if ([] : List Keyword).isEmpty then 0 else 1) < 30)) = true := by rfl)
    (hline : (apos.endLine == cpos.line) = true := by rfl) (hs : starEach (b :: es) X.env = (false, eval b X.env) :: starEach es X.env := by rfl) (hpl : (backTo cpos (starEach es X.env)).any (·.1) = false := by rfl) :
    PE X (.Call (.Attribute a "get" apos) (b :: es) [] cpos) (liftE Z (bmDF "dict" dgetMD fa fd)) :=
  (pe_bm PySem.F.plainAttrs_dict PySem.F.slot_dict_get PySem.F.type_dict_get (mt_dget hu) ha hb hbase hfew hline hs hpl).imp fun _ _ _ h => l_bmD p_dgetM h
theorem s_put (i : Nat) {x : Str} {px p1 : Pos} (hu : X.A.units + 1 < cLine) (hb : PE X b (liftE Z fb)) (hv' : PE X a (liftE Z fa)) (hN : X.N[i]? = some x := by rfl) (hv : Vis X.env.scope x := by first | exact Or.inl rfl | exact Or.inr (Or.inl rfl) | exact Or.inr (Or.inr rfl)) (hd : (x == ("__debug__" : Str)) = false := by decide)
    (hcd : (x == ("__classdict__" : Str)) = false := by decide) (hs : swapsWith a (some (.Subscript (.Name x px) b p1)) pos.line X.env = pure false := by rfl) :
    PS X (.Assign [.Subscript (.Name x px) b p1] a pos) (liftS Z (putF i fb fa)) := (ps_dput hu (pe_var (i := i) hN hv hd hcd) hb hv' hs).imp fun _ _ _ h => l_put h
end
end DL

/-! dict(d); {text: name}; d.pop(k) -/
namespace L2
open PySem PySem.Spec PyProof.Rows
variable {X : Cx}
noncomputable def rDictOf : List V → Hp → VK → Prop := fun xs H Q => ∃ a kvs, xs = [.ref a] ∧ RdK H a kvs ∧ ∀ p ep, H p = none → Q (.ref p) (upd H p (.dK kvs ep))
theorem call_dictOf : CallR X (.type "dict") rDictOf := by
  intro pins s σ H xs us Q I rs h
  obtain ⟨a, kvs, rfl, e, q⟩ := h
  obtain ⟨u, rfl, ru⟩ := vals1 rs
  cases ru
  exact d_copyOf I e fun p ep s' hp I' => ⟨.ref p, _, I', rfl, q p ep hp⟩
end L2
namespace DL
open PySem PySem.Spec PyProof.Rows L2
variable {K : PySem.W.Frag}
section
variable {Z : Ent K} {H : Hp} {σ : L2.St} {Q : VK} {E : Ends}
@[simp] noncomputable def dictD : List D → Option SV
  | [.dK ks vs] => some (.oK ks vs)
  | _ => none
theorem p_dictOf : PrimN Z rDictOf dictD := by
  intro F H σ δ own vs ds sv Q s r e k
  unfold dictD at e
  split at e
  · cases e
    cases r with
    | cons h t =>
      cases t
      obtain ⟨a, kvs, rfl, ha, ek, rr⟩ := h.dK s.le
      exact ⟨a, kvs, rfl, ha.rd, fun p ep hp => k.one s (.oK ek rr) hp⟩
  · cases e
@[simp] noncomputable def disp1F (k : Str) (i : Nat) : FE := fun δ => match δ[i]? with
  | some (some sv) => some (.tmp (.oK [.inr k] [sv.toD]), δ.set i (some (.fz sv.toD)))
  | _ => none
theorem l_disp1 {kk : Str} {i : Nat} (h : liftE Z (disp1F kk i) σ H Q) : tDisp [(tC (.str kk), tVar i)] σ H Q := by
  obtain ⟨F, δ, own, rv, δ', s, e, k⟩ := h
  unfold disp1F at e
  split at e
  · rename_i sv hsv
    cases e
    obtain ⟨F1, v, sF, hv, rp, s1⟩ := s.freeze hsv
    intro p hp
    refine ⟨v, hv, upd_same, [(.inr kk, v)], rfl, by show 1 ≤ 15; decide, fun ep => ?_⟩
    have hu2 : upd (upd H p (.dK [] 0)) p (.dK (mergeK [] [(.inr kk, v)]) ep) = upd H p (.dK [(.inr kk, v)] ep) := by
      funext b
      by_cases hb : b = p
      · subst hb; rw [upd_same, upd_same]; rfl
      · rw [upd_ne hb, upd_ne hb, upd_ne hb]
    rw [hu2]
    have f : Fin Z F1 H σ (δ.set i (some (.fz sv.toD))) (put own i []) (.oK [.inr kk] [sv.toD]) Q := fun w H' F' ns a b c t => k w H' F' _ a (sF.trans b) c ⟨ns, t⟩
    exact f.one s1 (.oK (kvs := [(.inr kk, v)]) rfl (.cons rp .nil)) hp
  · cases e
@[simp] noncomputable def dropA (ks : List Key) (vs : List D) (k : Key) : List Key × List D := (((ks.zip vs).filter fun p => decide (p.1 ≠ k)).map (·.1), ((ks.zip vs).filter fun p => decide (p.1 ≠ k)).map (·.2))
theorem drop_ok {F : Hp} (k : Key) : ∀ (kvs : List (Key × V)) (ds : List D), Reps K F ds (kvs.map (·.2)) →
    (dropK kvs k).map (·.1) = (dropA (kvs.map (·.1)) ds k).1 ∧ Reps K F (dropA (kvs.map (·.1)) ds k).2 ((dropK kvs k).map (·.2))
  | [], _, r => by cases r; exact ⟨rfl, .nil⟩
  | p :: kvs, _, r => by
    cases r with
    | @cons d v ds vs h t =>
      obtain ⟨i1, i2⟩ := drop_ok k kvs ds t
      have e1 : dropK (p :: kvs) k = if p.1 ≠ k then p :: dropK kvs k else dropK kvs k := by unfold dropK; rw [List.filter_cons]; by_cases e : p.1 = k <;> simp [e]
      have e2 : dropA ((p :: kvs).map (·.1)) (d :: ds) k = if p.1 ≠ k then (p.1 :: (dropA (kvs.map (·.1)) ds k).1, d :: (dropA (kvs.map (·.1)) ds k).2) else dropA (kvs.map (·.1)) ds k := by
        unfold dropA
        rw [List.map_cons, List.zip_cons_cons, List.filter_cons]
        by_cases e : p.1 = k <;> simp [e]
      rw [e1, e2]
      by_cases e : p.1 = k
      · rw [if_neg (fun z => z e), if_neg (fun z => z e)]; exact ⟨i1, i2⟩
      · rw [if_pos e, if_pos e]
        exact ⟨by rw [List.map_cons, i1], .cons h i2⟩
@[simp] noncomputable def popF (i : Nat) (fk : FE) : FS := fun δ => match δ[i]? with
  | some (some (.oK _ _)) => (fk δ).bind fun r => (rdv r.1 r.2).bind fun kd => kd.key?.bind fun k => match r.2[i]? with
    | some (some (.oK ks vs)) => if (look ks vs k).isSome = true then some (.nx (r.2.set i (some (.oK (dropA ks vs k).1 (dropA ks vs k).2)))) else none
    | _ => none
  | _ => none
theorem l_pop {i : Nat} {fk : FE} (h : liftS Z (popF i fk) E σ H) : tDrop (tDPop1 (tVar i) (liftE Z fk)) E σ H := by
  obtain ⟨F, δ, own, fl, s, e, k⟩ := h
  unfold popF at e
  split at e
  · rename_i ks0 vs0 hx0
    obtain ⟨⟨rk, δ1⟩, e1, e⟩ := Option.bind_eq_some_iff.mp e
    obtain ⟨kd, e2, e⟩ := Option.bind_eq_some_iff.mp e
    obtain ⟨kk, e3, e⟩ := Option.bind_eq_some_iff.mp e
    obtain ⟨x, hx, sh0⟩ := s.at' i _ hx0
    obtain ⟨a, kvs0, ep0, ea, en0, ek0, rr0⟩ := shape_oK sh0
    subst ea
    have mb0 : (a, HO.dK kvs0 ep0) ∈ own i := by rw [en0]; exact List.mem_cons_self
    refine ⟨_, hx, a, rfl, .inl ⟨kvs0, ep0, .inl (s.ok i _ mb0).2.2⟩, F, δ, own, rk, δ1, s, e1, fun y H1 F1 own1 sH1 sF1 s1 r1 => ?_⟩
    obtain ⟨F2, sF2, s2, r2⟩ := s1.settleR r1
    have rk' := s2.rd r2 e2
    dsimp only at e
    split at e
    · rename_i ks vs ho
      split at e
      · rename_i hl
        cases e
        obtain ⟨x', hx', sh⟩ := s2.at' i _ ho
        rw [hx] at hx'; cases hx'
        obtain ⟨b, kvs, ep1, eb, en, rfl, rr⟩ := shape_oK sh
        cases eb
        have mb : (a, HO.dK kvs ep1) ∈ own1 i := by rw [en]; exact List.mem_cons_self
        have z := look_ok kk kvs vs rr
        obtain ⟨d, hd⟩ := Option.isSome_iff_exists.mp hl
        rw [hd] at z
        obtain ⟨v, z1, _⟩ := z
        have dk := drop_ok kk kvs vs rr
        refine ⟨kvs, kk, v, ⟨_, (s2.ok i _ mb).2.2⟩, key_ok e3 rk', z1, fun ep => ?_⟩
        exact k σ _ F2 _ (sF1.trans sF2) (s2.change (sv' := .oK (dropA (kvs.map (·.1)) vs kk).1 (dropA (kvs.map (·.1)) vs kk).2) (o' := .dK (dropK kvs kk) ep) (ns' := [(a, .dK (dropK kvs kk) ep)]) ho hx mb (.oK dk.1 dk.2) (fun p hp => .inl (List.mem_singleton.mp hp)) nd1)
      · cases e
    · cases e
  · cases e
end
section
variable {X : Cx} {Z : Ent X.K} {a b c : Expr} {fa fb fc : FE} {pos : Pos}
theorem e_dictOf {p : Pos} (hm : X.mg "dict" = none) (ha : PE X a (liftE Z fa)) (hg : Gl X "dict" := by rfl) (he : starEach [a] X.env = (false, eval a X.env) :: starEach [] X.env := by rfl) (hpl : (backTo pos (starEach [] X.env)).any (·.1) = false := by rfl) : PE X (.Call (.Name "dict" p) [a] [] pos) (liftE Z (primF dictD (argCons fa argNil))) :=
  e_callT call_dictOf p_dictOf hm boot_dict (a_cons ha a_nil he) hg (by decide) (by decide) he hpl
theorem e_disp1 (i : Nat) {kk x : Str} {j : Nat} {p1 p2 : Pos} (hN : X.N[i]? = some x := by rfl) (hv : Vis X.env.scope x := by first | exact Or.inl rfl | exact Or.inr (Or.inl rfl) | exact Or.inr (Or.inr rfl)) (hd : (x == ("__debug__" : Str)) = false := by decide) (hcd : (x == ("__classdict__" : Str)) = false := by decide) :
    PE X (.Dict [some (.Constant (.str kk) j p1)] [.Name x p2] pos) (liftE Z (disp1F kk i)) :=
  (pe_disp (pps_cons pe_str (pe_var (i := i) hN hv hd hcd) pps_nil) rfl rfl (by simp) (by show 1 ≤ 15; decide)).imp fun _ _ _ h => l_disp1 h
theorem s_pop (i : Nat) {x : Str} {px apos cpos : Pos} (hb : PE X b (liftE Z fb)) (hN : X.N[i]? = some x := by rfl) (hv : Vis X.env.scope x := by first | exact Or.inl rfl | exact Or.inr (Or.inl rfl) | exact Or.inr (Or.inr rfl)) (hd : (x == ("__debug__" : Str)) = false := by decide)
    (hcd : (x == ("__classdict__" : Str)) = false := by decide) (m : M1 X (.Name x px) "pop" apos b cpos := by exact ⟨rfl, rfl, rfl, rfl⟩) (hsw : swapsWith (.Call (.Attribute (.Name x px) "pop" apos) [b] [] cpos) none pos.line X.env = pure false := by rfl) :
    PS X (.Expr (.Call (.Attribute (.Name x px) "pop" apos) [b] [] cpos) pos) (liftS Z (popF i fb)) :=
  (ps_expr (pe_dpop1 (pe_var (i := i) hN hv hd hcd) hb m) hsw).imp fun _ _ _ h => l_pop h
end
end DL

/-! None looked for among texts and whole numbers -/
namespace L2
open PySem PySem.Spec PyProof.Rows
section
variable {prog : Program} {w : World} {A : Around} {E : Value → Shared → Prop} {s : Shared}
theorem pyHash_non {Q : Int → Shared → Prop} (h : Q 0xFCA86420 { s with toks := s.toks + 1 }) : wpAny (model prog w) A (pyHash .none) Q E s := by
  have hT : s.TypeIs .none "NoneType" := rfl
  refine PySem.W.pyHash_slot (v := .none) (Q := Q) hT F.slot_NoneType_hash F.entry_NoneType_hash (F.args_NoneType_hash_1 _) rfl (.inl rfl) ?_
  show wpAny (model prog w) A.in1 (mkInt 0xFCA86420 >>= fun v => ret v) _ E s
  refine wpAny_bind (wpAny_mkInt ?_)
  exact wpAny_pure ⟨_, _, rfl, h⟩
end
noncomputable def nonIs : Option Key → Value → Bool
  | none, .none => true
  | none, _ => false
  | some k, v => keyIs k v
theorem nonIs_shape {k : Option Key} {v : Value} (h : nonIs k v = true) : (k = none ∧ v = .none) ∨ ∃ j, k = some j ∧ keyIs j v = true := by
  cases k with
  | none => cases v <;> first | exact .inl ⟨rfl, rfl⟩ | cases h
  | some j => exact .inr ⟨j, rfl, h⟩
theorem key_none {j : Key} (h : keyIs j .none = true) : False := by
  rcases keyIs_shape h with ⟨i, t, _, e⟩ | ⟨x, t, _, e⟩ <;> cases e
noncomputable def optKind (prog : Program) (w : World) : PySem.KeyKind prog w (Option Key) where
  is := nonIs
  hash := fun | none => 0xFCA86420 | some k => (mixKind prog w).hash k
  inj := fun v a b ha hb => by
    rcases nonIs_shape ha with ⟨rfl, rfl⟩ | ⟨i, rfl, hi⟩
    · rcases nonIs_shape hb with ⟨rfl, _⟩ | ⟨j, rfl, hj⟩
      · rfl
      · exact (key_none hj).elim
    · rcases nonIs_shape hb with ⟨rfl, rfl⟩ | ⟨j, rfl, hj⟩
      · exact (key_none hi).elim
      · rw [(mixKind prog w).inj v i j hi hj]
  byValue := fun k v h => by
    rcases nonIs_shape h with ⟨rfl, rfl⟩ | ⟨i, rfl, hi⟩
    · rfl
    · exact (mixKind prog w).byValue i v hi
  pyHash := fun {A E s k v Q} hv h => by
    rcases nonIs_shape hv with ⟨rfl, rfl⟩ | ⟨i, rfl, hi⟩
    · exact pyHash_non h
    · exact (mixKind prog w).pyHash hi h
  eqBool := fun {A E s a b u v Q} hu hv h => by
    rcases nonIs_shape hu with ⟨rfl, rfl⟩ | ⟨i, rfl, hi⟩
    · rcases nonIs_shape hv with ⟨rfl, rfl⟩ | ⟨j, rfl, hj⟩
      · exact SeqAt.EqAt.same _ _ _ _ _ (by simpa using h)
      · rw [decide_eq_false (fun z => nomatch z)] at h
        rcases keyIs_shape hj with ⟨i, t, rfl, rfl⟩ | ⟨x, t, rfl, rfl⟩
        · exact SeqAt.EqAt.none_int i t _ _ _ _ h
        · exact SeqAt.EqAt.none_str x t _ _ _ _ h
    · rcases nonIs_shape hv with ⟨rfl, rfl⟩ | ⟨j, rfl, hj⟩
      · rw [decide_eq_false (fun z => nomatch z)] at h
        rcases keyIs_shape hi with ⟨i, t, rfl, rfl⟩ | ⟨x, t, rfl, rfl⟩
        · exact SeqAt.EqAt.int_none i t _ _ _ _ h
        · exact SeqAt.EqAt.str_none x t _ _ _ _ h
      · refine (mixKind prog w).eqBool hi hj ?_
        have e : decide (some i = some j) = decide (i = j) := by simp
        rw [← e]; exact h
  «strs» := fun k x t v h => by
    rcases nonIs_shape h with ⟨rfl, e⟩ | ⟨i, rfl, hi⟩
    · cases e
    · exact (mixKind prog w).strs i x t v hi
variable {X : Cx}
theorem map_opt {P : Program} {w : World} {h : Heap} {a : Addr} {vs : List (Key × Value)} (d : h.DictOf (mixKind P w) a vs) : h.MapOf (optKind P w) a (fun | none => none | some k => valueAt vs k) := by
  obtain ⟨o, es, ep, ho, hc, hd, hk, hf⟩ := d.mapOf
  refine ⟨o, es, ep, ho, hc, hd, fun e he => ?_, fun k => ?_⟩
  · obtain ⟨k, h1, h2⟩ := hk e he
    exact ⟨some k, h1, h2⟩
  · cases k with
    | some k => exact hf k
    | none =>
      show (es.find? fun e => nonIs none e.key).map (·.val) = none
      rw [Array.find?_eq_none.mpr fun e he z => ?_]
      · rfl
      · obtain ⟨k, h1, _⟩ := hk e he
        rcases nonIs_shape z with ⟨_, e2⟩ | ⟨j, e2, _⟩
        · rw [e2] at h1; exact key_none h1
        · cases e2
noncomputable def rNonIn (neg : Bool) : R2 := fun y x H Q => ∃ a kvs, y = .non ∧ x = .ref a ∧ RdK H a kvs ∧ Q (.bl neg) H
theorem op_non_in : OpR X (compareOp .In) (rNonIn false) := by
  intro pins s σ H y x v u Q I ry rx h
  obtain ⟨a, kvs, rfl, rfl, e, q⟩ := h
  cases ry
  cases rx
  obtain ⟨z, hd, vs, rel, dd⟩ := dk_rd I.hok e
  exact wpAny_in_of (knd := optKind X.prog X.w) (k := none) rfl hd (map_opt dd) ⟨.bl false, H, I.tok _, rfl, q⟩
theorem op_non_notin : OpR X (compareOp .NotIn) (rNonIn true) := by
  intro pins s σ H y x v u Q I ry rx h
  obtain ⟨a, kvs, rfl, rfl, e, q⟩ := h
  cases ry
  cases rx
  obtain ⟨z, hd, vs, rel, dd⟩ := dk_rd I.hok e
  exact wpAny_notIn_of (knd := optKind X.prog X.w) (k := none) rfl hd (map_opt dd) ⟨.bl true, H, I.tok _, rfl, q⟩
end L2

/-! == of dicts whose keys are texts: looked up by the texts alone, so it hangs on no world -/
namespace L2
open PySem PySem.Spec PyProof.Rows
noncomputable def SPairs (es : Array DictEntry) (kvs : List (Str × Value)) : Prop := es.size = kvs.length ∧ ∀ (i : Nat) (p : Str × Value), kvs[i]? = some p → ∃ e t, es[i]? = some e ∧ e.key = .str p.1 t ∧ e.val = p.2
noncomputable def SDict (h : Heap) (a : Addr) (kvs : List (Str × Value)) : Prop := ∃ o es ep, h.get? a = some o ∧ o.ExactDict ∧ o.data = .dict es ep ∧ SPairs es kvs
noncomputable def place (kvs : List (Str × Value)) (x : Str) : Option Nat := kvs.findIdx? fun p => decide (p.1 = x)
theorem SPairs.find {es : Array DictEntry} {kvs : List (Str × Value)} (h : SPairs es kvs) (x : Str) : (es.findIdx? fun e => e.key.isStr x) = place kvs x := by
  unfold place
  have hA : (es.findIdx? fun e => e.key.isStr x) = es.toList.findIdx? fun e => e.key.isStr x := by obtain ⟨l⟩ := es; simp
  rw [hA]
  have : ∀ (es : List DictEntry) (kvs : List (Str × Value)), es.length = kvs.length → (∀ (i : Nat) (p : Str × Value), kvs[i]? = some p → ∃ e t, es[i]? = some e ∧ e.key = .str p.1 t ∧ e.val = p.2) →
      es.findIdx? (fun e => e.key.isStr x) = kvs.findIdx? fun p => decide (p.1 = x) := by
    intro es
    induction es with
    | nil => intro kvs hl _; cases kvs with
      | nil => rfl
      | cons p r => cases hl
    | cons e es ih =>
      intro kvs hl hp
      cases kvs with
      | nil => cases hl
      | cons p r =>
        obtain ⟨e', t, h1, h2, h3⟩ := hp 0 p rfl
        obtain rfl : e = e' := by simpa using h1
        have hk : e.key.isStr x = decide (p.1 = x) := by
          rw [h2]
          show (p.1 == x) = _
          by_cases z : p.1 = x
          · rw [z]; simp
          · rw [decide_eq_false z]; exact beq_eq_false_iff_ne.mpr z
        rw [List.findIdx?_cons, List.findIdx?_cons, hk, ih r (by simpa using hl) (fun i q hq => hp (i + 1) q (by simpa using hq))]
  exact this es.toList kvs (by rw [Array.length_toList]; exact h.1) (fun i p hp => by
    obtain ⟨e, t, h1, h2⟩ := h.2 i p hp
    exact ⟨e, t, by rw [Array.getElem?_toList]; exact h1, h2⟩)
section
variable {prog : Program} {w : World} {A : Around} {E : Value → Shared → Prop} {s : Shared}
theorem find_text {d : Addr} {o : Obj} {es : Array DictEntry} {ep : Nat} {kvs : List (Str × Value)} {x : Str} {t : Tok} {n : Int} {Q : Option Nat → Shared → Prop} (ho : s.heap.get? d = some o) (hd : o.data = .dict es ep) (hp : SPairs es kvs) (q : Q (place kvs x) s) :
    wpAny (model prog w) A (dictFind d (.str x t) n) Q E s := by
  have hall : (es.all fun e => isExactStrKey e.key) = true := by
    rw [Array.all_eq_true]
    intro i hi
    have hi' : i < kvs.length := by rw [← hp.1]; exact hi
    obtain ⟨e, t', h1, h2, _⟩ := hp.2 i kvs[i] (by simp [hi'])
    rw [Array.getElem?_eq_getElem hi] at h1
    cases h1
    rw [h2]; rfl
  unfold dictFind
  try with_reducible refine wpAny_holding ?_
  refine wpAny_bind (wpAny_dictEntries ho hd ?_)
  dsimp only
  rw [if_pos hall]
  unfold foundByValue
  rw [hp.find x]
  cases hj : place kvs x with
  | none => rw [hj] at q; exact wpAny_pure q
  | some j =>
    rw [hj] at q
    obtain ⟨hlt, hx, _⟩ := List.findIdx?_eq_some_iff_getElem.mp hj
    obtain ⟨e, t', h1, h2, h3⟩ := hp.2 j kvs[j] (by simp [hlt])
    have hx' : kvs[j].1 = x := of_decide_eq_true hx
    rw [hx'] at h2
    dsimp only
    rw [h1]
    dsimp only
    refine wpAny_bind (wpAny_dictEpoch ho hd ?_)
    rw [h2]
    refine wpAny_bind (SeqAt.EqAt.str_str x t' x t prog w _ _ ?_)
    refine wpAny_bind (wpAny_dictEpoch ho hd ?_)
    rw [if_neg (by simp)]
    simp only [beq_self_eq_true, if_true]
    exact wpAny_bind (wpAny_rule (wpAny_pure q))
end
inductive SHits (A : Around) (s : Shared) (kb : List (Str × Value)) : List (Str × Value) → Bool → Prop where
  | nil : SHits A s kb [] true
  | miss {k : Str} {v : Value} {r : List (Str × Value)} : place kb k = none → SHits A s kb ((k, v) :: r) false
  | hit {k : Str} {v : Value} {r : List (Str × Value)} {j : Nat} {p : Str × Value} {e b : Bool} : place kb k = some j → kb[j]? = some p → SeqAt.EqAt A s v p.2 e → SHits A s kb r b → SHits A s kb ((k, v) :: r) (e && b)
section
variable {prog : Program} {w : World} {A : Around} {E : Value → Shared → Prop} {s : Shared}
theorem same_texts {nm : String} {a b : Addr} {ka kb : List (Str × Value)} {r : Bool} {Q : Bool → Shared → Prop} (ha : (a == sysModules) = false) (hb : (b == sysModules) = false) (da : SDict s.heap a ka) (db : SDict s.heap b kb)
    (hits : ka.length = kb.length → SHits A s kb ka r) (q : Q (ka.length == kb.length && r) s) : wpAny (model prog w) A (Builtin.Dict.samePairs nm a b) Q E s := by
  obtain ⟨oa, es, ep, ga, _, dta, pa⟩ := da
  obtain ⟨ob, es', ep', gb, _, dtb, pb⟩ := db
  have la := pa.1
  have lb := pb.1
  unfold Builtin.Dict.samePairs Builtin.Dict.showsAll
  rw [if_neg (by rw [ha]; exact Bool.false_ne_true), if_neg (by rw [hb]; exact Bool.false_ne_true)]
  refine wpAny_bind (wpAny_pure (wpAny_bind (wpAny_pure (wpAny_bind (wpAny_dictEntries ga dta ?_)))))
  refine wpAny_bind (wpAny_dictEntries gb dtb ?_)
  by_cases hz : es.size = es'.size
  · have hl : ka.length = kb.length := by omega
    have q' : Q r s := by simpa [hl] using q
    have hh := hits hl
    rw [if_neg (by rw [hz]; simp)]
    refine wpAny_bind (wpAny_dictEpoch ga dta (wpAny_bind ?_))
    rw [Std.Legacy.Range.forIn_eq_forIn_range']
    simp only [Std.Legacy.Range.size, Nat.sub_zero, Nat.add_sub_cancel, Nat.div_one]
    refine wpAny_forIn_list _ (fun rest x s' => s' = s ∧ x = (none, ()) ∧ ∃ i, rest = List.range' i (es.size - i) ∧ i ≤ es.size ∧ SHits A s kb (ka.drop i) r) _ ?_ ?_ _ _ ⟨rfl, rfl, 0, by simp, Nat.zero_le _, hh⟩
    · rintro x rest y s' ⟨rfl, rfl, i, hr, hi, hS⟩
      have hlt : i < es.size := by
        rcases Nat.lt_or_ge i es.size with z | z
        · exact z
        · rw [Nat.sub_eq_zero_of_le z] at hr; cases hr
      rw [show es.size - i = (es.size - (i + 1)) + 1 by omega, List.range'_succ] at hr
      injection hr with hx hrest
      subst hx
      have hlk : x < ka.length := by omega
      obtain ⟨e, t, h1, h2, h3⟩ := pa.2 x ka[x] (by simp [hlk])
      rw [List.drop_eq_getElem_cons hlk] at hS
      refine wpAny_bind (wpAny_dictEntries ga dta ?_)
      rw [h1]
      show wpAny _ _ (holding [e.key, e.val] _ >>= _) _ _ _
      rw [h2]
      refine wpAny_bind (wpAny_holding (wpAny_bind (find_text gb dtb pb ?_)))
      generalize hk : ka[x] = p at hS h2 h3 ⊢
      obtain ⟨k, v⟩ := p
      cases hS with
      | miss hn =>
        rw [hn]
        refine wpAny_pure ?_
        show wpAny _ _ (if (!false) = true then _ else _) _ _ _
        rw [if_pos (by decide)]
        exact wpAny_pure (wpAny_pure q')
      | @hit _ _ _ j p' eb bb hn hp he hr' =>
        rw [hn]
        obtain ⟨f, t', g1, g2, g3⟩ := pb.2 j p' hp
        refine wpAny_bind (wpAny_dictEntries gb dtb ?_)
        rw [g1]
        rw [show e.val = v from h3]
        dsimp only
        rw [g3]
        refine wpAny_holding (he prog w _ _ ?_)
        cases eb with
        | false =>
          rw [Bool.false_and] at q'
          show wpAny _ _ (if (!false) = true then _ else _) _ _ _
          rw [if_pos (by decide)]
          exact wpAny_pure (wpAny_pure q')
        | true =>
          show wpAny _ _ (if (!true) = true then _ else _) _ _ _
          rw [if_neg (by decide)]
          refine wpAny_bind (wpAny_dictEpoch ga dta ?_)
          rw [if_neg (by simp)]
          exact wpAny_pure ⟨rfl, rfl, x + 1, hrest, hlt, by rw [Bool.true_and]; exact hr'⟩
    · rintro x s' ⟨rfl, rfl, i, hr, hi, hS⟩
      have e : i = es.size := by
        rcases Nat.lt_or_ge i es.size with z | z
        · rw [show es.size - i = (es.size - (i + 1)) + 1 by omega, List.range'_succ] at hr; cases hr
        · omega
      rw [e, la, List.drop_length] at hS
      cases hS
      exact wpAny_pure q'
  · rw [if_pos (by simpa using hz)]
    have hf : (ka.length == kb.length) = false := by rw [← la, ← lb]; simpa using hz
    rw [hf, Bool.false_and] at q
    exact wpAny_bind (wpAny_rule (wpAny_pure q))
end
section
variable {A : Around} {s : Shared} {a b : Addr} {ka kb : List (Str × Value)} {r : Bool}
theorem SDict.typeIs (d : SDict s.heap a ka) : s.TypeIs (.ref a) "dict" := let ⟨o, _, _, ho, hc, _⟩ := d; ⟨o, ho, hc.1⟩
theorem rc_texts (ha : (a == sysModules) = false) (hb : (b == sysModules) = false) (da : SDict s.heap a ka) (db : SDict s.heap b kb) (hu : A.units < cLine) (hits : ka.length = kb.length → SHits A.in1 s kb ka r) : SeqAt.RcAt A s (.ref a) (.ref b) (ka.length == kb.length && r) := fun prog w E Q q => by
  refine wpAny_richCompare_same_room (op := .Eq) da.typeIs db.typeIs PySem.F.slot_dict_eq (wpAny_call_entry PySem.F.slot_dict_eq da.typeIs PySem.F.entry_dict_eq ?_ (PySem.F.args_dict_eq_2 _ _)) hu; show wpAny _ _ (Builtin.Dict.dictSlotArgs "__eq__" ⟨[.ref a, .ref b], []⟩ >>= _) _ _ s
  refine wpAny_bind ?_; unfold Builtin.Dict.dictSlotArgs; refine wpAny_bind (wpAny_notOrdered_dict da.typeIs ?_); show wpAny _ _ (pure (Value.ref a, Value.ref b)) _ _ s
  refine wpAny_pure (wpAny_bind (wpAny_isInstance (T := "dict") db.typeIs PySem.F.sub_dict_dict ?_)); simp only [Bool.not_true, Bool.false_eq_true, if_false]
  refine wpAny_bind (wpAny_pure (wpAny_bind (wpAny_pure (wpAny_bind (same_texts ha hb da db hits ?_)))))
  exact wpAny_pure ⟨_, rfl, (fun x => nomatch x), by simpa using q⟩
theorem rcNe_texts (ha : (a == sysModules) = false) (hb : (b == sysModules) = false) (da : SDict s.heap a ka) (db : SDict s.heap b kb) (hu : A.units < cLine) (hits : ka.length = kb.length → SHits A.in1 s kb ka r) : SeqAt.RcNeAt A s (.ref a) (.ref b) (!(ka.length == kb.length && r)) := fun prog w E Q q => by
  refine wpAny_richCompare_same_room (op := .NotEq) da.typeIs db.typeIs PySem.F.slot_dict_ne (wpAny_call_entry PySem.F.slot_dict_ne da.typeIs PySem.F.entry_dict_ne ?_ (PySem.F.args_dict_ne_2 _ _)) hu; show wpAny _ _ (Builtin.Dict.dictSlotArgs "__ne__" ⟨[.ref a, .ref b], []⟩ >>= _) _ _ s
  refine wpAny_bind ?_; unfold Builtin.Dict.dictSlotArgs; refine wpAny_bind (wpAny_notOrdered_dict da.typeIs ?_); show wpAny _ _ (pure (Value.ref a, Value.ref b)) _ _ s
  refine wpAny_pure (wpAny_bind (wpAny_isInstance (T := "dict") db.typeIs PySem.F.sub_dict_dict ?_)); simp only [Bool.not_true, Bool.false_eq_true, if_false]
  refine wpAny_bind (wpAny_pure (wpAny_bind (wpAny_pure (wpAny_bind (same_texts ha hb da db hits ?_)))))
  exact wpAny_pure ⟨_, rfl, (fun x => nomatch x), by simpa using q⟩
end
end L2

/-! deep == with dicts of text keys, by values -/
namespace DL
open PySem PySem.Spec PyProof.Rows L2
variable {K : PySem.W.Frag}
@[simp] noncomputable def strK? : List Key → Option (List Str)
  | [] => some []
  | .inr x :: r => (strK? r).bind fun t => some (x :: t)
  | _ => none
@[simp] noncomputable def eqKV (f : D → D → Option Bool) (ys : List Str) (us : List D) : List Str → List D → Option Bool
  | x :: xs, v :: vs => match look ys us x with
    | none => some false
    | some u => (f v u).bind fun b => (eqKV f ys us xs vs).bind fun c => some (b && c)
  | _, _ => some true
@[simp] noncomputable def eqStep2 (f : D → D → Option Bool) : D → D → Option Bool
  | .dK ks vs, .dK ks' vs' => (strK? ks).bind fun xs => (strK? ks').bind fun ys => if xs.length = ys.length then eqKV f ys vs' xs vs else some false
  | d1, d2 => eqStep f d1 d2
@[simp] noncomputable def eqM : Nat → D → D → Option Bool
  | 0 => fun _ _ => none
  | n + 1 => eqStep2 (eqM n)
theorem pairs_s {P : Program} {w : World} : ∀ {es : List DictEntry} {kvs : List (Key × Value)} {xs : List Str}, Pairs (mixKind P w) es kvs → strK? (kvs.map (·.1)) = some xs →
    ∃ skv : List (Str × Value), skv.map (·.1) = xs ∧ skv.map (·.2) = kvs.map (·.2) ∧ es.length = skv.length ∧ ∀ (i : Nat) (p : Str × Value), skv[i]? = some p → ∃ e t, es[i]? = some e ∧ e.key = .str p.1 t ∧ e.val = p.2
  | _, _, _, .nil, e => by cases e; exact ⟨[], rfl, rfl, rfl, fun i p h => by simp at h⟩
  | _, _, _, @Pairs.cons _ _ _ _ _ en kv es kvs hi hv t, e => by
    obtain ⟨k, v⟩ := kv
    cases k with
    | inl i => cases e
    | inr x =>
      have e : (strK? (kvs.map (·.1))).bind (fun t => some (x :: t)) = some _ := e
      obtain ⟨xs, e1, e2⟩ := Option.bind_eq_some_iff.mp e
      cases e2
      obtain ⟨skv, h1, h2, h3, h4⟩ := pairs_s t e1
      refine ⟨(x, v) :: skv, by rw [List.map_cons, h1], by rw [List.map_cons, List.map_cons, h2], by rw [List.length_cons, List.length_cons, h3], fun i p hp => ?_⟩
      cases i with
      | zero =>
        obtain rfl : (x, v) = p := by simpa using hp
        rcases keyIs_shape (show keyIs (.inr x) en.key = true from hi) with ⟨j, t', e3, _⟩ | ⟨y, t', e3, e4⟩
        · cases e3
        · cases e3; exact ⟨en, t', rfl, e4, hv⟩
      | succ i => exact h4 i p (by simpa using hp)
theorem kv_vals : ∀ {kvs : List (Key × V)} {vs : List (Key × Value)}, KV kvs vs → vs.map (·.1) = kvs.map (·.1) ∧ Vals (kvs.map (·.2)) (vs.map (·.2))
  | _, _, .nil => ⟨rfl, .nil⟩
  | _, _, .cons h t => ⟨by rw [List.map_cons, List.map_cons, h.1, (kv_vals t).1], .cons h.2 (kv_vals t).2⟩
section
variable {X : Cx} {pins : List (Addr × Obj)} {σ : L2.St} {F H : Hp} {s : Shared}
theorem sdict_of (I : Inv X pins σ H s) {a : Addr} {kvs : List (Key × V)} {xs : List Str} (ha : HK H a kvs) (e : strK? (kvs.map (·.1)) = some xs) :
    (a == sysModules) = false ∧ ∃ skv : List (Str × Value), SDict s.heap a skv ∧ skv.map (·.1) = xs ∧ Vals (kvs.map (·.2)) (skv.map (·.2)) ∧ (kvs.map (·.1)).Nodup := by
  obtain ⟨z, hd, vs, rel, dd⟩ := dk_of I.hok ha
  obtain ⟨k1, k2⟩ := kv_vals rel
  obtain ⟨o, es, ep, ho, hc, hdt, _, hp, nd⟩ := dd
  rw [← k1] at e
  obtain ⟨skv, h1, h2, h3, h4⟩ := pairs_s hp e
  refine ⟨hd, skv, ⟨o, es, ep, ho, hc, hdt, by rw [← h3]; simp, fun i p hpp => ?_⟩, h1, by rw [h2]; exact k2, by rw [← k1]; exact nd⟩
  obtain ⟨en, t, g1, g2⟩ := h4 i p hpp
  exact ⟨en, t, by rw [← Array.getElem?_toList]; exact g1, g2⟩
theorem look_place (x : Str) : ∀ (skv : List (Str × Value)) (us : List D) (Us : List V), Reps X.K F us Us → Vals Us (skv.map (·.2)) → match look (skv.map (·.1)) us x with
    | none => place skv x = none
    | some u => ∃ j p U, place skv x = some j ∧ skv[j]? = some p ∧ Rep X.K F u U ∧ RelV U p.2
  | [], _, _, r, v => by cases v; cases r; rfl
  | p :: skv, _, _, r, v => by
    cases v with
    | @cons U u' Us us' hU tU =>
    cases r with
    | @cons d v' ds vs' h t =>
      have ih := look_place x skv ds Us t tU
      show match (if p.1 = x then some d else look (skv.map (·.1)) ds x) with
        | none => place (p :: skv) x = none
        | some u => ∃ j q U, place (p :: skv) x = some j ∧ (p :: skv)[j]? = some q ∧ Rep X.K F u U ∧ RelV U q.2
      have hpl : place (p :: skv) x = if p.1 = x then some 0 else (place skv x).map (· + 1) := by
        unfold place
        rw [List.findIdx?_cons]
        by_cases e : p.1 = x <;> simp [e]
      by_cases e : p.1 = x
      · rw [if_pos e, hpl, if_pos e]
        exact ⟨0, p, U, rfl, rfl, h, hU⟩
      · rw [if_neg e, hpl, if_neg e]
        cases hl : look (skv.map (·.1)) ds x with
        | none => rw [hl] at ih; dsimp only at ih ⊢; rw [ih]; rfl
        | some u =>
          rw [hl] at ih
          obtain ⟨j, q, U', h1, h2, h3, h4⟩ := ih
          exact ⟨j + 1, q, U', by rw [h1]; rfl, by simpa using h2, h3, h4⟩
theorem hits_of {A : Around} {f : D → D → Option Bool} (ih : ∀ d1 d2 b x y v u, Rep X.K F d1 x → RelV x v → Rep X.K F d2 y → RelV y u → f d1 d2 = some b → SeqAt.EqAt A s v u b) {skv2 : List (Str × Value)} {us : List D} {Us : List V} (ru : Reps X.K F us Us) (vu : Vals Us (skv2.map (·.2))) :
    ∀ (skv : List (Str × Value)) (vs : List D) (Vs : List V) (r : Bool), Reps X.K F vs Vs → Vals Vs (skv.map (·.2)) → eqKV f (skv2.map (·.1)) us (skv.map (·.1)) vs = some r → SHits A s skv2 skv r
  | [], _, _, _, r, v, e => by cases v; cases r; cases e; exact .nil
  | p :: skv, _, _, _, r, v, e => by
    obtain ⟨k, w⟩ := p
    cases v with
    | @cons V0 u' Vs us' hV tV =>
    cases r with
    | @cons d v' ds vs' h t =>
      have lp := look_place (X := X) (F := F) k skv2 us Us ru vu
      have e : (match look (skv2.map (·.1)) us k with
        | none => some false
        | some u => (f d u).bind fun b => (eqKV f (skv2.map (·.1)) us (skv.map (·.1)) ds).bind fun c => some (b && c)) = some _ := e
      cases hl : look (skv2.map (·.1)) us k with
      | none =>
        rw [hl] at lp e
        cases e
        exact .miss lp
      | some u =>
        rw [hl] at lp e
        obtain ⟨j, q, U, h1, h2, h3, h4⟩ := lp
        obtain ⟨b, e1, e2⟩ := Option.bind_eq_some_iff.mp e
        obtain ⟨c, e3, e4⟩ := Option.bind_eq_some_iff.mp e2
        cases e4
        exact .hit h1 h2 (ih _ _ _ _ _ _ _ h hV h3 h4 e1) (hits_of ih ru vu skv ds Vs c t tV e3)
end
end DL

namespace DL
open PySem PySem.Spec PyProof.Rows L2
variable {K : PySem.W.Frag}
theorem place_mem : ∀ (skv : List (Str × Value)), (skv.map (·.1)).Nodup → ∀ q ∈ skv, ∃ j, place skv q.1 = some j ∧ skv[j]? = some q
  | [], _, _, h => nomatch h
  | p :: r, nd, q, h => by
    obtain ⟨n1, n2⟩ := List.nodup_cons.mp nd
    have hpl : place (p :: r) q.1 = if p.1 = q.1 then some 0 else (place r q.1).map (· + 1) := by
      unfold place
      rw [List.findIdx?_cons]
      by_cases e : p.1 = q.1 <;> simp [e]
    rcases List.mem_cons.mp h with e | e
    · subst e; exact ⟨0, by rw [hpl, if_pos rfl], rfl⟩
    · obtain ⟨j, h1, h2⟩ := place_mem r n2 q e
      have hne : ¬ p.1 = q.1 := fun z => n1 (List.mem_map.mpr ⟨q, e, z.symm⟩)
      exact ⟨j + 1, by rw [hpl, if_neg hne, h1]; rfl, by simpa using h2⟩
theorem strK_map : ∀ {ks : List Key} {xs : List Str}, strK? ks = some xs → ks = xs.map Sum.inr
  | [], _, e => by cases e; rfl
  | .inr x :: ks, _, e => by
    obtain ⟨t, e1, e2⟩ := Option.bind_eq_some_iff.mp e
    cases e2
    rw [strK_map e1]; rfl
  | .inl i :: ks, _, e => by cases e
theorem nodup_strK {ks : List Key} {xs : List Str} (e : strK? ks = some xs) (nd : ks.Nodup) : xs.Nodup := by
  rw [strK_map e] at nd
  have z : (xs.map Sum.inr : List Key).Pairwise (· ≠ ·) := nd
  rw [List.pairwise_map] at z
  exact z.imp fun h e => h (by rw [e])
section
variable {X : Cx} {pins : List (Addr × Obj)} {σ : L2.St} {F H : Hp} {s : Shared}
theorem same_hits {f : D → D → Option Bool} (ih : ∀ (d1 d2 : D) (b : Bool) (x y : V) (v : Value), Rep X.K F d1 x → RelV x v → Rep X.K F d2 y → RelV y v → f d1 d2 = some b → b = true) {skv : List (Str × Value)} {us : List D} {Us : List V} (ru : Reps X.K F us Us) (vu : Vals Us (skv.map (·.2))) :
    ∀ (skv1 : List (Str × Value)) (vs : List D) (Vs : List V) (r : Bool), (∀ q ∈ skv1, ∃ j, place skv q.1 = some j ∧ skv[j]? = some q) → Reps X.K F vs Vs → Vals Vs (skv1.map (·.2)) → eqKV f (skv.map (·.1)) us (skv1.map (·.1)) vs = some r → r = true
  | [], _, _, _, _, r, v, e => by cases v; cases r; cases e; rfl
  | p :: skv1, _, _, _, hs, r, v, e => by
    obtain ⟨k, w⟩ := p
    cases v with
    | @cons V0 u' Vs us' hV tV =>
    cases r with
    | @cons d v' ds vs' h t =>
      have lp := look_place (X := X) (F := F) k skv us Us ru vu
      obtain ⟨j, hj1, hj2⟩ := hs (k, w) List.mem_cons_self
      have e : (match look (skv.map (·.1)) us k with
        | none => some false
        | some u => (f d u).bind fun b => (eqKV f (skv.map (·.1)) us (skv1.map (·.1)) ds).bind fun c => some (b && c)) = some _ := e
      cases hl : look (skv.map (·.1)) us k with
      | none =>
        rw [hl] at lp
        rw [show place skv k = some j from hj1] at lp
        cases lp
      | some u =>
        rw [hl] at lp e
        obtain ⟨j', q, U, h1, h2, h3, h4⟩ := lp
        rw [show place skv k = some j from hj1] at h1
        cases h1
        rw [hj2] at h2
        cases h2
        obtain ⟨b, e1, e2⟩ := Option.bind_eq_some_iff.mp e
        obtain ⟨c, e3, e4⟩ := Option.bind_eq_some_iff.mp e2
        cases e4
        rw [ih _ _ _ _ _ _ h hV h3 h4 e1, same_hits ih ru vu skv1 ds Vs c (fun q hq => hs q (List.mem_cons_of_mem _ hq)) t tV e3]; rfl
theorem eqM_same (I : Inv X pins σ H s) (le : Same F H) : ∀ (n : Nat) (d1 d2 : D) (b : Bool) (x y : V) (v : Value), Rep X.K F d1 x → RelV x v → Rep X.K F d2 y → RelV y v → eqM n d1 d2 = some b → b = true
  | 0, _, _, _, _, _, _, _, _, _, _, e => by cases e
  | n + 1, d1, d2, b, x, y, v, r1, v1, r2, v2, e => by
    unfold eqM eqStep2 at e
    split at e
    · cases r1 with
      | @dK a ks ds kvs ep1 h1 e1 rr1 =>
      cases r2 with
      | @dK a' ks' ds' kvs' ep2 h2 e2 rr2 =>
      cases v1
      cases (show Value.ref a = Value.ref a' from v2)
      rw [h1] at h2
      cases h2
      subst e1 e2
      obtain ⟨xs, f1, e⟩ := Option.bind_eq_some_iff.mp e
      obtain ⟨ys, f2, e⟩ := Option.bind_eq_some_iff.mp e
      rw [f1] at f2
      cases f2
      rw [if_pos rfl] at e
      obtain ⟨_, skv, _, hk, hv, nd⟩ := sdict_of I ⟨_, le _ _ h1⟩ f1
      have ndx := nodup_strK f1 nd
      rw [← hk] at e ndx
      exact same_hits (eqM_same I le n) rr2 hv skv _ _ b (place_mem skv ndx) rr1 hv e
    · exact same_step I le (eqM_same I le n) d1 d2 b x y v r1 v1 r2 v2 e
theorem rcM (I : Inv X pins σ H s) (le : Same F H) {A : Around} {f : D → D → Option Bool} {d1 d2 : D} {b : Bool} {x y : V} {v u : Value}
    (ih : ∀ d1 d2 b x y v u, Rep X.K F d1 x → RelV x v → Rep X.K F d2 y → RelV y u → f d1 d2 = some b → SeqAt.EqAt A.in1 s v u b) (r1 : RepN X.K F H d1 x) (v1 : RelV x v) (r2 : RepN X.K F H d2 y) (v2 : RelV y u)
    (e : eqStep2 f d1 d2 = some b) (hu : A.units < cLine) (hr : flatV x = false ∨ flatV y = false) : (∃ a c, v = .ref a ∧ u = .ref c) ∧ SeqAt.RcAt A s v u b ∧ SeqAt.RcNeAt A s v u (!b) := by
  unfold eqStep2 at e
  split at e
  · obtain ⟨a1, kvs1, rfl, ha1, rfl, rr1⟩ := r1.dK le
    obtain ⟨a2, kvs2, rfl, ha2, rfl, rr2⟩ := r2.dK le
    cases v1; cases v2
    obtain ⟨xs, f1, e⟩ := Option.bind_eq_some_iff.mp e
    obtain ⟨ys, f2, e⟩ := Option.bind_eq_some_iff.mp e
    obtain ⟨m1, skv1, sd1, hk1, hv1, _⟩ := sdict_of I ha1 f1
    obtain ⟨m2, skv2, sd2, hk2, hv2, _⟩ := sdict_of I ha2 f2
    have l1 : skv1.length = xs.length := by rw [← hk1, List.length_map]
    have l2 : skv2.length = ys.length := by rw [← hk2, List.length_map]
    refine ⟨⟨_, _, rfl, rfl⟩, ?_⟩
    split at e
    · rename_i hl
      rw [← hk1, ← hk2] at e
      have hits : skv1.length = skv2.length → SHits A.in1 s skv2 skv1 b := fun _ => hits_of ih rr2 hv2 skv1 _ _ b rr1 hv1 e
      have hb : b = (skv1.length == skv2.length && b) := by rw [l1, l2, hl]; simp
      rw [hb]
      exact ⟨rc_texts m1 m2 sd1 sd2 hu hits, rcNe_texts m1 m2 sd1 sd2 hu hits⟩
    · rename_i hl
      cases e
      have hits : skv1.length = skv2.length → SHits A.in1 s skv2 skv1 false := fun z => absurd (by omega) hl
      have hb : false = (skv1.length == skv2.length && false) := by simp
      rw [hb]
      exact ⟨rc_texts m1 m2 sd1 sd2 hu hits, rcNe_texts m1 m2 sd1 sd2 hu hits⟩
  · exact rcN I le ih r1 v1 r2 v2 e hu hr
theorem eqM_at (I : Inv X pins σ H s) (le : Same F H) : ∀ (n : Nat) (A : Around) (d1 d2 : D) (b : Bool) (x y : V) (v u : Value), A.units + n < cLine → Rep X.K F d1 x → RelV x v → Rep X.K F d2 y → RelV y u → eqM n d1 d2 = some b → SeqAt.EqAt A s v u b
  | 0, _, _, _, _, _, _, _, _, _, _, _, _, _, e => by cases e
  | n + 1, A, d1, d2, b, x, y, v, u, hu, r1, v1, r2, v2, e => by
    by_cases hf : flatV x = true ∧ flatV y = true
    · have e' : eqS d1 d2 = some b := by
        unfold eqM eqStep2 at e
        split at e
        · cases r1; cases hf.1
        · unfold eqStep at e
          split at e
          · cases r1; cases hf.1
          · cases r1; cases hf.1
          · cases r1; cases hf.1
          · cases r1; cases hf.1
          · exact e
      obtain ⟨f1, f2, rfl⟩ := eqS_flat (H := H) e' (RepN.of r1) (RepN.of r2)
      exact eqAt_V v1 v2 f1 f2
    · have hf' : flatV x = false ∨ flatV y = false := by
        cases h1 : flatV x with
        | false => exact .inl rfl
        | true => cases h2 : flatV y with
          | false => exact .inr rfl
          | true => exact absurd ⟨h1, h2⟩ hf
      obtain ⟨⟨a, c, rfl, rfl⟩, h1, _⟩ := rcM I le (A := A) (f := eqM n) (fun d1 d2 b x y v u q1 w1 q2 w2 e => eqM_at I le n A.in1 d1 d2 b x y v u (by have : A.in1.units = A.units + 1 := rfl; omega) q1 w1 q2 w2 e) (RepN.of r1) v1 (RepN.of r2) v2 e (by omega) hf'
      by_cases hac : a = c
      · subst hac
        rw [eqM_same I le (n + 1) d1 d2 b x y _ r1 v1 r2 v2 e]
        exact SeqAt.EqAt.same _
      · exact SeqAt.EqAt.of_refs hac h1
noncomputable def rEqM (K : PySem.W.Frag) (neg : Bool) : R2 := fun x y H Q => ∃ F d1 d2 b, Same F H ∧ RepN K F H d1 x ∧ RepN K F H d2 y ∧ eqM 48 d1 d2 = some b ∧ (flatV x = false ∨ flatV y = false) ∧ Q (.bl (if neg then !b else b)) H
theorem op_eqM (hu : X.A.units + 64 < cLine) : OpR X (compareOp .Eq) (rEqM X.K false) := by
  intro pins s σ H x y v u Q I rx ry h
  obtain ⟨F, d1, d2, b, le, r1, r2, e, hf, q⟩ := h
  obtain ⟨_, h1, _⟩ := rcM I le (A := X.A) (f := eqM 47) (fun d1 d2 b x y v u q1 w1 q2 w2 e => eqM_at I le 47 X.A.in1 d1 d2 b x y v u (by have : X.A.in1.units = X.A.units + 1 := rfl; omega) q1 w1 q2 w2 e) r1 rx r2 ry e (by omega) hf
  exact h1 X.prog X.w X.xe _ ⟨.bl b, H, I, rfl, q⟩
theorem op_neM (hu : X.A.units + 64 < cLine) : OpR X (compareOp .NotEq) (rEqM X.K true) := by
  intro pins s σ H x y v u Q I rx ry h
  obtain ⟨F, d1, d2, b, le, r1, r2, e, hf, q⟩ := h
  obtain ⟨_, _, h1⟩ := rcM I le (A := X.A) (f := eqM 47) (fun d1 d2 b x y v u q1 w1 q2 w2 e => eqM_at I le 47 X.A.in1 d1 d2 b x y v u (by have : X.A.in1.units = X.A.units + 1 := rfl; omega) q1 w1 q2 w2 e) r1 rx r2 ry e (by omega) hf
  exact h1 X.prog X.w X.xe _ ⟨.bl !b, H, I, rfl, q⟩
end
end DL

namespace DL
open PySem PySem.Spec PyProof.Rows L2
variable {K : PySem.W.Frag}
@[simp] noncomputable def eqY (d1 d2 : D) : Option SV := if d1.isFlat = true ∧ d2.isFlat = true then eqD d1 d2 else (eqM 48 d1 d2).bind fun b => some (.fz (.bl b))
@[simp] noncomputable def neY (d1 d2 : D) : Option SV := if d1.isFlat = true ∧ d2.isFlat = true then neD d1 d2 else (eqM 48 d1 d2).bind fun b => some (.fz (.bl !b))
@[simp] noncomputable def inY (d1 d2 : D) : Option SV := match d1, d2 with
  | .non, .dK _ _ => some (.fz (.bl false))
  | _, _ => inX d1 d2
@[simp] noncomputable def notinY (d1 d2 : D) : Option SV := match d1, d2 with
  | .non, .dK _ _ => some (.fz (.bl true))
  | _, _ => notinX d1 d2
section
variable {Z : Ent K}
theorem flat_or {F H : Hp} {d1 d2 : D} {x y : V} (r1 : RepN K F H d1 x) (r2 : RepN K F H d2 y) (hf : ¬ (d1.isFlat = true ∧ d2.isFlat = true)) : flatV x = false ∨ flatV y = false := by
  cases h1 : d1.isFlat with
  | false => exact .inl (notFlat_ok r1 h1)
  | true => cases h2 : d2.isFlat with
    | false => exact .inr (notFlat_ok r2 h2)
    | true => exact absurd ⟨h1, h2⟩ hf
theorem p_eqY : Prim2 Z (fun x y H Q => rEq x y H Q ∨ rEqM K false x y H Q) eqY := by
  intro F H σ δ own x y d1 d2 sv Q s r1 r2 e k
  unfold eqY at e
  split at e
  · exact .inl (p_eq F H σ δ own x y d1 d2 sv Q s r1 r2 e k)
  · rename_i hf
    obtain ⟨b, e1, e2⟩ := Option.bind_eq_some_iff.mp e
    cases e2
    exact .inr ⟨F, d1, d2, b, s.le, r1, r2, e1, flat_or r1 r2 hf, k.fz s (.bl _)⟩
theorem p_neY : Prim2 Z (fun x y H Q => rNe x y H Q ∨ rEqM K true x y H Q) neY := by
  intro F H σ δ own x y d1 d2 sv Q s r1 r2 e k
  unfold neY at e
  split at e
  · exact .inl (p_ne F H σ δ own x y d1 d2 sv Q s r1 r2 e k)
  · rename_i hf
    obtain ⟨b, e1, e2⟩ := Option.bind_eq_some_iff.mp e
    cases e2
    exact .inr ⟨F, d1, d2, b, s.le, r1, r2, e1, flat_or r1 r2 hf, k.fz s (.bl _)⟩
theorem p_inY : Prim2 Z (fun x y H Q => ((∃ i j, x = .str i ∧ y = .str j ∧ Q (.bl (!(Builtin.Str.occurrences j i 0 j.length 1).isEmpty)) H) ∨ rDIn x y H Q) ∨ rNonIn false x y H Q) inY := by
  intro F H σ δ own x y d1 d2 sv Q s r1 r2 e k
  unfold inY at e
  split at e
  · cases e
    obtain ⟨a, kvs, rfl, ha, _, _⟩ := r2.dK s.le
    exact .inr ⟨a, kvs, r1.non, rfl, ha.rd, k.fz s (.bl _)⟩
  · exact .inl (p_inX F H σ δ own x y d1 d2 sv Q s r1 r2 e k)
theorem p_notinY : Prim2 Z (fun x y H Q => ((∃ i j, x = .str i ∧ y = .str j ∧ Q (.bl (!(!(Builtin.Str.occurrences j i 0 j.length 1).isEmpty))) H) ∨ rDNotIn x y H Q) ∨ rNonIn true x y H Q) notinY := by
  intro F H σ δ own x y d1 d2 sv Q s r1 r2 e k
  unfold notinY at e
  split at e
  · cases e
    obtain ⟨a, kvs, rfl, ha, _, _⟩ := r2.dK s.le
    exact .inr ⟨a, kvs, r1.non, rfl, ha.rd, k.fz s (.bl _)⟩
  · exact .inl (p_notinX F H σ δ own x y d1 d2 sv Q s r1 r2 e k)
end
section
variable {X : Cx} {Z : Ent X.K} {a b c : Expr} {fa fb fc : FE} {pos : Pos}
theorem e_eqY (hv : X.A.units + 64 < cLine) (ha : PE X a (liftE Z fa)) (hb : PE X b (liftE Z fb)) : PE X (.Compare a [.Eq] [b] pos) (liftE Z (binF eqY fa fb)) := e_cmp (op_eq.or (op_eqM hv)) p_eqY ha hb (nomark _)
theorem t_eqY (hv : X.A.units + 64 < cLine) (ha : PE X a (liftE Z fa)) (hb : PE X b (liftE Z fb)) : PT X (.Compare a [.Eq] [b] pos) (liftT Z (testF (binF eqY fa fb))) := t_cmp (op_eq.or (op_eqM hv)) p_eqY ha hb (nomark _)
theorem t_neY (hv : X.A.units + 64 < cLine) (ha : PE X a (liftE Z fa)) (hb : PE X b (liftE Z fb)) : PT X (.Compare a [.NotEq] [b] pos) (liftT Z (testF (binF neY fa fb))) := t_cmp (op_ne.or (op_neM hv)) p_neY ha hb (nomark _)
end
end DL

/-! a slot's own dict of own lists: t = {}; t[k] = []; t[k].append(x) -/
namespace DL
open PySem PySem.Spec PyProof.Rows L2
variable {K : PySem.W.Frag}
section
variable {Z : Ent K} {H : Hp} {σ : L2.St} {Q : VK} {E : Ends}
@[simp] noncomputable def dnewN : FE := fun δ => some (.tmp (.oN [] []), δ)
@[simp] noncomputable def putNF (i j : Nat) : FS := fun δ => match δ[i]?, δ[j]? with
  | some (some (.oN ks xss)), some (some (.fz kd)) => kd.key?.bind fun k => if (ks.any fun x => decide (x = k)) = false ∧ xss.length < PySem.sizeLine then some (.nx (δ.set i (some (.oN (ks ++ [k]) (xss ++ [[]]))))) else none
  | _, _ => none
end
@[simp] noncomputable def placeK : List Key → Key → Option Nat
  | [], _ => none
  | a :: r, k => if a = k then some 0 else (placeK r k).map (· + 1)
section
variable {Z : Ent K} {H : Hp} {σ : L2.St} {Q : VK} {E : Ends}
@[simp] noncomputable def appNF (i j : Nat) (fe : FE) : FS := fun δ => match δ[i]?, δ[j]? with
  | some (some (.oN ks _)), some (some (.fz kd)) => kd.key?.bind fun k => (placeK ks k).bind fun p => (fe δ).bind fun q => (frz q.1 q.2).bind fun r => match r.2[i]? with
    | some (some (.oN ks' xss)) => if ks' = ks then (xss[p]?).bind fun xs => if xs.length < PySem.sizeLine then some (.nx (r.2.set i (some (.oN ks (xss.set p (xs ++ [r.1])))))) else none else none
    | _ => none
  | _, _ => none
end
end DL

namespace DL
open PySem PySem.Spec PyProof.Rows L2
variable {K : PySem.W.Frag}
section
variable {Z : Ent K} {H : Hp} {σ : L2.St} {E : Ends}
@[simp] noncomputable def retZ (fe : FE) : FS := fun δ => (fe δ).bind fun p => (frz p.1 p.2).bind fun q => some (.rt (.fz q.1))
end
section
variable {X : Cx} {Z : Ent X.K} {a b c : Expr} {fa fb fc : FE} {pos : Pos}
end
end DL

/-! in a list; list.index, str.index, rstrip; a text times a number; str of a number -/
namespace L2
open PySem PySem.Spec PyProof.Rows
variable {X : Cx}
noncomputable def rIndexL (K : PySem.W.Frag) : V → List V → Hp → VK → Prop := fun x xs H Q => ∃ p ys y j, x = .ref p ∧ xs = [y] ∧ SqL K H p ys ∧ flatV y = true ∧ ys.all flatV = true ∧ (ys.findIdx? fun z => eqV z y) = some j ∧ Q (.int (j : Nat)) H
noncomputable def rIndexS : V → List V → Hp → VK → Prop := fun x xs H Q => ∃ a b i rest, x = .str a ∧ xs = [.str b] ∧ Builtin.Str.occurrences a b 0 a.length 1 = i :: rest ∧ Q (.int (i : Nat)) H
noncomputable def rRstrip : V → List V → Hp → VK → Prop := fun x xs H Q => ∃ a b, x = .str a ∧ xs = [.str b] ∧ a.length ≤ sizeLine ∧ Q (.str (Txt.rstripChars a b)) H
noncomputable def rSRep : R2 := fun x y H Q => ∃ a k, x = .str a ∧ y = .int k ∧ MulOk a k ∧ Q (.str (Txt.mul a k)) H
theorem op_srep : OpR X (binaryOp .Mult) rSRep := by
  intro pins s σ H x y v u Q I rx ry h
  obtain ⟨a, k, rfl, rfl, hm, q⟩ := h
  obtain ⟨t, rfl⟩ := rx
  obtain ⟨t', rfl⟩ := ry
  exact SB.mul hm fun t' k => ⟨.str _, H, I.tok _, ⟨_, rfl⟩, q⟩
end L2

namespace DL
open PySem PySem.Spec PyProof.Rows L2
variable {K : PySem.W.Frag}
@[simp] noncomputable def D.fv : D → V
  | .bl b => .bl b
  | .int i => .int i
  | .str x => .str x
  | _ => .non
theorem fv_ok {F H : Hp} {d : D} {x : V} (r : RepN K F H d x) (h : d.isFlat = true) : x = d.fv ∧ flatV x = true := by
  cases d with
  | non => rw [r.non]; exact ⟨rfl, rfl⟩
  | bl b => rw [r.bl]; exact ⟨rfl, rfl⟩
  | int i => rw [r.int]; exact ⟨rfl, rfl⟩
  | str y => rw [r.str]; exact ⟨rfl, rfl⟩
  | _ => cases h
theorem fvs_ok {F : Hp} : ∀ {ds : List D} {vs : List V}, Reps K F ds vs → ds.all D.isFlat = true → vs = ds.map D.fv ∧ vs.all flatV = true
  | _, _, .nil, _ => ⟨rfl, rfl⟩
  | _, _, .cons h t, e => by
    rw [List.all_cons, Bool.and_eq_true] at e
    obtain ⟨a1, a2⟩ := fv_ok (H := F) (RepN.of h) e.1
    obtain ⟨b1, b2⟩ := fvs_ok t e.2
    refine ⟨by rw [List.map_cons, ← a1, ← b1], by rw [List.all_cons, a2, b2]; rfl⟩
noncomputable def eqFl (y x : D) : Bool := eqV y.fv x.fv
@[simp] theorem eqFl_str (a b : Str) : eqFl (.str a) (.str b) = decide (a = b) := by
  show (a == b) = decide (a = b)
  by_cases h : a = b
  · subst h; simp
  · rw [decide_eq_false h]; exact beq_eq_false_iff_ne.mpr h
@[simp] theorem eqFl_bl (a b : Bool) : eqFl (.bl a) (.bl b) = decide (a = b) := by cases a <;> cases b <;> rfl
@[simp] theorem eqFl_non : eqFl .non .non = true := rfl
@[simp] theorem eqFl_sn (a : Str) : eqFl (.str a) .non = false := rfl
noncomputable def inFl (x : D) (xs : List D) : Bool := xs.any fun y => eqFl y x
theorem inFl_ok {d : D} {ds : List D} : inV d.fv (ds.map D.fv) = inFl d ds := by
  unfold inV inFl
  rw [List.any_map]; rfl
noncomputable def D.seq? : D → Option (List D)
  | .lst xs => some xs
  | .tup xs => some xs
  | _ => none
@[simp] theorem seq_lst (xs : List D) : D.seq? (.lst xs) = some xs := rfl
@[simp] theorem seq_tup (xs : List D) : D.seq? (.tup xs) = some xs := rfl
@[simp] theorem seq_str (x : Str) : D.seq? (.str x) = none := rfl
@[simp] theorem seq_dK (ks : List Key) (vs : List D) : D.seq? (.dK ks vs) = none := rfl
@[simp] theorem seq_dT (ks : List (List Key)) (vs : List D) : D.seq? (.dT ks vs) = none := rfl
@[simp] noncomputable def inZ (d1 d2 : D) : Option SV := match d2.seq? with
  | some xs => if d1.isFlat = true ∧ xs.all D.isFlat = true then some (.fz (.bl (inFl d1 xs))) else none
  | none => inY d1 d2
@[simp] noncomputable def notinZ (d1 d2 : D) : Option SV := match d2.seq? with
  | some xs => if d1.isFlat = true ∧ xs.all D.isFlat = true then some (.fz (.bl (!inFl d1 xs))) else none
  | none => notinY d1 d2
section
variable {Z : Ent K} {H : Hp} {σ : L2.St} {Q : VK} {E : Ends}
theorem seq_ok {F : Hp} {d : D} {x : V} {xs : List D} (le : Same F H) (r : RepN K F H d x) (h : d.seq? = some xs) : ∃ a vs, x = .ref a ∧ (SqL K H a vs ∨ SqT K H a vs) ∧ Reps K F xs vs := by
  cases d with
  | lst ys => cases h; obtain ⟨a, vs, e, q, rr⟩ := r.lst le; exact ⟨a, vs, e, .inl q, rr⟩
  | tup ys => cases h; obtain ⟨a, vs, e, q, rr⟩ := r.tup le; exact ⟨a, vs, e, .inr q, rr⟩
  | _ => cases h
theorem p_inZ : Prim2 Z (fun x y H Q => (((∃ i j, x = .str i ∧ y = .str j ∧ Q (.bl (!(Builtin.Str.occurrences j i 0 j.length 1).isEmpty)) H) ∨ rDIn x y H Q) ∨ rNonIn false x y H Q) ∨ rIn K false x y H Q) inZ := by
  intro F H σ δ own x y d1 d2 sv Q s r1 r2 e k
  unfold inZ at e
  split at e
  · rename_i xs hx
    split at e
    · rename_i hf
      cases e
      obtain ⟨a, vs, rfl, hq, rr⟩ := seq_ok s.le r2 hx
      obtain ⟨e1, f1⟩ := fv_ok r1 hf.1
      obtain ⟨e2, f2⟩ := fvs_ok rr hf.2
      refine .inr ⟨a, vs, rfl, hq, f1, f2, ?_⟩
      rw [e1, e2, inFl_ok]
      exact k.fz s (.bl _)
    · cases e
  · exact .inl (p_inY F H σ δ own x y d1 d2 sv Q s r1 r2 e k)
theorem p_notinZ : Prim2 Z (fun x y H Q => (((∃ i j, x = .str i ∧ y = .str j ∧ Q (.bl (!(!(Builtin.Str.occurrences j i 0 j.length 1).isEmpty))) H) ∨ rDNotIn x y H Q) ∨ rNonIn true x y H Q) ∨ rIn K true x y H Q) notinZ := by
  intro F H σ δ own x y d1 d2 sv Q s r1 r2 e k
  unfold notinZ at e
  split at e
  · rename_i xs hx
    split at e
    · rename_i hf
      cases e
      obtain ⟨a, vs, rfl, hq, rr⟩ := seq_ok s.le r2 hx
      obtain ⟨e1, f1⟩ := fv_ok r1 hf.1
      obtain ⟨e2, f2⟩ := fvs_ok rr hf.2
      refine .inr ⟨a, vs, rfl, hq, f1, f2, ?_⟩
      rw [e1, e2, inFl_ok]
      exact k.fz s (.bl _)
    · cases e
  · exact .inl (p_notinY F H σ δ own x y d1 d2 sv Q s r1 r2 e k)
/-! index, rstrip -/
@[simp] noncomputable def indexD : List D → Option SV
  | [.lst xs, x] => if x.isFlat = true ∧ xs.all D.isFlat = true then (xs.findIdx? fun y => eqFl y x).bind fun j => some (.fz (.int (j : Nat))) else none
  | _ => none
@[simp] noncomputable def sindexD : List D → Option SV
  | [.str a, .str b] => match Builtin.Str.occurrences a b 0 a.length 1 with
    | i :: _ => some (.fz (.int (i : Nat)))
    | [] => none
  | _ => none
@[simp] noncomputable def rstripD : List D → Option SV
  | [.str a, .str b] => if a.length ≤ PySem.sizeLine then some (.fz (.str (Txt.rstripChars a b))) else none
  | _ => none
/-! text times number -/
open Classical in
noncomputable def mulS (a : Str) (k : Int) : Option SV := if MulOk a k then some (.fz (.str (Txt.mul a k))) else none
theorem mulS_of {a : Str} {k : Int} {sv : SV} (h : mulS a k = some sv) : MulOk a k ∧ sv = .fz (.str (Txt.mul a k)) := by
  unfold mulS at h
  split at h
  · rename_i hm; cases h; exact ⟨hm, rfl⟩
  · cases h
noncomputable def CMulP (i j : Int) : Prop := cMul i j = true
open Classical in
noncomputable def mulI (i j : Int) : Option SV := if CMulP i j then some (.fz (.int (i * j))) else none
theorem mulI_of {i j : Int} {sv : SV} (h : mulI i j = some sv) : mulD (.int i) (.int j) = some sv := by
  unfold mulI at h
  split at h
  · rename_i hc
    cases h
    unfold CMulP at hc
    simp [hc]
  · cases h
theorem mulI_r {i j : Int} (h : -(2 ^ 64) < j ∧ j < 2 ^ 64) : mulI i j = some (.fz (.int (i * j))) := by
  unfold mulI
  rw [if_pos]
  unfold CMulP cMul
  rw [decide_eq_true h.1, decide_eq_true h.2]; simp
theorem mulI_l {i j : Int} (h : -(2 ^ 64) < i ∧ i < 2 ^ 64) : mulI i j = some (.fz (.int (i * j))) := by
  unfold mulI
  rw [if_pos]
  unfold CMulP cMul
  rw [decide_eq_true h.1, decide_eq_true h.2]; simp
noncomputable def mulZ : D → D → Option SV
  | .str a, .int k => mulS a k
  | .int i, .int j => mulI i j
  | _, _ => none
@[simp] theorem mulZ_si (a : Str) (k : Int) : mulZ (.str a) (.int k) = mulS a k := rfl
@[simp] theorem mulZ_ii (i j : Int) : mulZ (.int i) (.int j) = mulI i j := rfl
theorem p_mulZ : Prim2 Z (fun x y H Q => rI CMul (fun i j => V.int (i * j)) x y H Q ∨ rSRep x y H Q) mulZ := by
  intro F H σ δ own x y d1 d2 sv Q s r1 r2 e k
  unfold mulZ at e
  split at e
  · obtain ⟨hm, rfl⟩ := mulS_of e
    exact .inr ⟨_, _, r1.str, r2.int, hm, k.fz s (.str _)⟩
  · exact .inl (p_mul F H σ δ own x y _ _ sv Q s r1 r2 (mulI_of e) k)
  · cases e
/-! str of a whole number -/
@[simp] noncomputable def strD : List D → Option SV
  | [.int i] => if i.natAbs.log2 < 1920 then some (.fz (.str (toString i))) else none
  | _ => none
/-! x[i] = v of a slot's own list -/
@[simp] noncomputable def putLS (kd d : D) : Option (Option SV) → Option SV
  | some (some (.ol xs)) => match kd with
    | .int i => (ixN xs.length i).bind fun j => some (.ol (xs.set j d))
    | _ => none
  | _ => none
@[simp] noncomputable def SV.isOL : Option (Option SV) → Bool
  | some (some (.ol _)) => true
  | _ => false
@[simp] noncomputable def putLF (i : Nat) (fk fv : FE) : FS := fun δ => (fv δ).bind fun p => (frz p.1 p.2).bind fun q => if SV.isOL (q.2[i]?) = true then (fk q.2).bind fun r => (rdv r.1 r.2).bind fun kd => (putLS kd q.1 (r.2[i]?)).bind fun sv => some (.nx (r.2.set i (some sv))) else none
/-! x.extend(new list) -/
@[simp] noncomputable def SV.ol? : RV → Option (List D)
  | .tmp (.ol ys) => some ys
  | _ => none
@[simp] noncomputable def extF (i : Nat) (fe : FE) : FS := fun δ => match δ[i]? with
  | some (some (.ol _)) => (fe δ).bind fun p => (SV.ol? p.1).bind fun ys => match p.2[i]? with
    | some (some (.ol xs)) => if xs.length + ys.length ≤ PySem.sizeLine then some (.nx (p.2.set i (some (.ol (xs ++ ys))))) else none
    | _ => none
  | _ => none
end
section
variable {X : Cx} {Z : Ent X.K} {a b c : Expr} {fa fb fc : FE} {pos : Pos}
theorem t_inZ (hu : X.A.units + 1 < cLine) (ha : PE X a (liftE Z fa)) (hb : PE X b (liftE Z fb)) (hm : behindInMarks .In b = false := by rfl) : PT X (.Compare a [.In] [b] pos) (liftT Z (testF (binF inZ fa fb))) := t_cmp (((op_in_str.or (op_in_dict hu)).or op_non_in).or op_in_seq) p_inZ ha hb hm
theorem t_notinZ (hu : X.A.units + 1 < cLine) (ha : PE X a (liftE Z fa)) (hb : PE X b (liftE Z fb)) (hm : behindInMarks .NotIn b = false := by rfl) : PT X (.Compare a [.NotIn] [b] pos) (liftT Z (testF (binF notinZ fa fb))) := t_cmp (((op_notIn_str.or (op_notin_dict hu)).or op_non_notin).or op_notIn_seq) p_notinZ ha hb hm
theorem e_mulZ (ha : PE X a (liftE Z fa)) (hb : PE X b (liftE Z fb)) : PE X (.BinOp a .Mult b pos) (liftE Z (binF mulZ fa fb)) := e_bin (op_mul.or op_srep) p_mulZ ha hb
end
end DL

namespace DL
open PySem PySem.Spec PyProof.Rows L2
end DL

/-! a test leaves all slots as they are -/
namespace DL
open PySem PySem.Spec PyProof.Rows L2
variable {K : PySem.W.Frag}
section
variable {Z : Ent K} {H : Hp} {σ : L2.St} {Q : Bool → Hp → Prop}
@[simp] noncomputable def keepT (f : FT) : FT := fun δ => (f δ).bind fun p => some (p.1, δ)
end
section
variable {X : Cx} {Z : Ent X.K} {a : Expr} {ft : FT}
end
end DL

/-! a new list, so many times -/
namespace DL
open PySem PySem.Spec PyProof.Rows L2
variable {K : PySem.W.Frag}
noncomputable def repP (n : Nat) (k : Int) : Prop := -(2 ^ 63) ≤ k ∧ k < 2 ^ 63 ∧ n * k.toNat ≤ PySem.sizeLine
section
variable {Z : Ent K} {H : Hp} {σ : L2.St} {Q : VK}
open Classical in
noncomputable def repI (xs : List D) : D → Option SV
  | .int k => if repP xs.length k then some (.ol (List.replicate k.toNat xs).flatten) else none
  | _ => none
@[simp] theorem repI_int {xs : List D} {k : Int} (h : repP xs.length k) : repI xs (.int k) = some (.ol (List.replicate k.toNat xs).flatten) := by
  unfold repI; dsimp only; rw [if_pos h]
@[simp] noncomputable def repF (fa fb : FE) : FE := fun δ => (fa δ).bind fun p => (SV.ol? p.1).bind fun xs => (fb p.2).bind fun q => (rdv q.1 q.2).bind fun d => (repI xs d).bind fun sv => some (.tmp sv, q.2)
end
section
variable {X : Cx} {Z : Ent X.K} {a b : Expr} {fa fb : FE} {pos : Pos}
end
end DL

/-! a part of a tuple -/
namespace DL
open PySem PySem.Spec PyProof.Rows L2
variable {K : PySem.W.Frag}
section
variable {Z : Ent K}
@[simp] noncomputable def slT : D → Option Int → Option Int → Option SV
  | .tup xs, lo, hi => if ¬ (HT.sIx xs.length 0 lo = 0 ∧ HT.sIx xs.length xs.length hi = xs.length) then some (.fz (.tup (cutD xs lo hi))) else none
  | _, _, _ => none
end
section
variable {X : Cx} {Z : Ent X.K} {a : Expr} {fa : FE} {pos : Pos}
end
end DL

/-! EXPRESSIONS THAT MAY RAISE, and what passes it on -/
namespace DL
open PySem L2
variable {K : PySem.W.Frag}
inductive RX where
  | v (rv : RV) (δ : DSt) | x (e : Exn) (δ : DSt)
inductive RL (α : Type) where
  | v (xs : List α) (δ : DSt) | x (e : Exn) (δ : DSt)
noncomputable abbrev FX := DSt → Option RX
noncomputable abbrev FAX := DSt → Option (RL RV)
noncomputable abbrev FDX := DSt → Option (RL D)
noncomputable def XOk (Z : Ent K) (F : Hp) (σ : St) (e : Exn) (δ : DSt) : Prop := ∀ H' F' own' cls od, Same F F' → SR Z F' H' σ δ own' → ExcRep K F' e cls od → Z.x cls od σ H'
noncomputable def liftX (Z : Ent K) (f : FX) : TE := fun σ H Q => ∃ F δ own r, SR Z F H σ δ own ∧ f δ = some r ∧ match r with
  | .v rv δ' => ∀ v H' F' own', Same H H' → Same F F' → SR Z F' H' σ δ' own' → RVRep Z F' H' σ own' rv v → Q v H'
  | .x e δ' => XOk Z F σ e δ'
noncomputable def liftAX (Z : Ent K) (f : FAX) : TA := fun σ H Q => ∃ F δ own r, SR Z F H σ δ own ∧ f δ = some r ∧ match r with
  | .v rvs δ' => ∀ vs H' F' own', Same H H' → Same F F' → SR Z F' H' σ δ' own' → RVSs K F' σ rvs vs → Q vs H'
  | .x e δ' => XOk Z F σ e δ'
noncomputable def liftDX (Z : Ent K) (f : FDX) : TA := fun σ H Q => ∃ F δ own r, SR Z F H σ δ own ∧ f δ = some r ∧ match r with
  | .v ds δ' => ∀ vs H' F' own', Same H H' → Same F F' → SR Z F' H' σ δ' own' → Reps K F' ds vs → Q vs H'
  | .x e δ' => XOk Z F σ e δ'
@[simp] noncomputable def FX.val (f : FX) : FE := fun δ => match f δ with
  | some (.v rv δ') => some (rv, δ')
  | _ => none
section
variable {Z : Ent K} {H : Hp} {σ : St} {Q : VK} {E : Ends}
@[simp] noncomputable def pureX (fe : FE) : FX := fun δ => (fe δ).bind fun p => some (.v p.1 p.2)
@[simp] noncomputable def argNilX : FAX := fun δ => some (.v [] δ)
@[simp] noncomputable def argConsX (fx : FX) (fa : FAX) : FAX := fun δ => (fx δ).bind fun
  | .v rv δ1 => (fa δ1).bind fun
    | .v rvs δ2 => some (.v (rv :: rvs) δ2)
    | .x e δ2 => some (.x e δ2)
  | .x e δ1 => some (.x e δ1)
@[simp] noncomputable def dispNilX : FDX := fun δ => some (.v [] δ)
@[simp] noncomputable def dispConsX (fx : FX) (fd : FDX) : FDX := fun δ => (fx δ).bind fun
  | .v rv δ1 => (frz rv δ1).bind fun q => (fd q.2).bind fun
    | .v ds δ2 => some (.v (q.1 :: ds) δ2)
    | .x e δ2 => some (.x e δ2)
  | .x e δ1 => some (.x e δ1)
@[simp] noncomputable def tupX (fd : FDX) : FX := fun δ => (fd δ).bind fun
  | .v ds δ1 => if ds.length ≤ PySem.sizeLine then some (.v (.tmp (.fz (.tup ds))) δ1) else none
  | .x e δ1 => some (.x e δ1)
@[simp] noncomputable def primX (g : List D → Option SV) (fa : FAX) : FX := fun δ => (fa δ).bind fun
  | .v rvs δ1 => (readAll rvs δ1).bind fun ds => (g ds).bind fun sv => some (.v (.tmp sv) δ1)
  | .x e δ1 => some (.x e δ1)
@[simp] noncomputable def binX (g : D → D → Option SV) (fa fb : FX) : FX := fun δ => (fa δ).bind fun
  | .x e δ1 => some (.x e δ1)
  | .v r1 δ1 => (fb δ1).bind fun
    | .x e δ2 => some (.x e δ2)
    | .v r2 δ2 => (rdv r1 δ2).bind fun d1 => (rdv r2 δ2).bind fun d2 => (g d1 d2).bind fun sv => some (.v (.tmp sv) δ2)
end
/-! ### a def that may raise -/
inductive XO where
  | v (sv : SV) | x (e : Exn)
noncomputable def spX (K : PySem.W.Frag) (n : Nat) (g : List D → Option XO) : Sp := fun vs H Q E => ∃ F ds o, Same F H ∧ Reps K F ds vs ∧ ds.length = n ∧ g ds = some o ∧ match o with
  | .v sv => ∀ v H' F' ns, Same H H' → Same F F' → Same F' H' → (∀ (b : Addr) (o : HO), F' b = some o → F b = some o ∨ H b = none) → Shape K F' sv v ns → (adr ns).Nodup → (∀ p ∈ ns, F' p.1 = none ∧ H p.1 = none ∧ H' p.1 = some p.2) → Q v H'
  | .x e => ∀ cls od H' F', Same H H' → Same F F' → Same F' H' → (∀ (b : Addr) (o : HO), F' b = some o → F b = some o ∨ H b = none) → ExcRep K F' e cls od → E cls od H'
@[simp] noncomputable def outX (f : FS) (n : Nat) (ds : List D) : Option XO := match f (startD n ds) with
  | some (.rt sv) => some (.v sv)
  | some (.nx _) => some (.v (.fz .non))
  | some (.ex e _) => some (.x e)
  | _ => none
@[simp] noncomputable def valG (h : List D → Option XO) (ds : List D) : Option SV := match h ds with
  | some (.v sv) => some sv
  | _ => none
noncomputable abbrev entX (H F : Hp) (E : XK) : Ent K := ⟨H, F, fun cls od _ H' => E cls od H'⟩
section
variable {Z : Ent K} {H : Hp} {σ : St} {Q : VK} {E : Ends}
@[simp] noncomputable def callX (n : Nat) (g : List D → Option XO) (fa : FAX) : FX := fun δ => (fa δ).bind fun
  | .x e δ1 => some (.x e δ1)
  | .v rvs δ1 => (DL.frzAll rvs δ1).bind fun q => if q.1.length = n then (g q.1).bind (fun
    | .v sv => some (.v (.tmp sv) (if sv.scal then δ1 else q.2))
    | .x e => some (.x e q.2)) else none
@[simp] noncomputable def liftG' (g : List D → Option SV) (ds : List D) : Option XO := (g ds).bind fun sv => some (.v sv)
/-! statements -/
@[simp] noncomputable def setX (i : Nat) (fx : FX) : FS := fun δ => (fx δ).bind fun
  | .v rv δ1 => (stow i rv δ1).bind fun δ' => some (.nx δ')
  | .x e δ1 => some (.ex e δ1)
@[simp] noncomputable def retX (fx : FX) : FS := fun δ => (fx δ).bind fun
  | .v rv δ1 => (outF rv δ1).bind fun sv => some (.rt sv)
  | .x e δ1 => some (.ex e δ1)
@[simp] noncomputable def dropX (fx : FX) : FS := fun δ => (fx δ).bind fun
  | .v _ δ1 => some (.nx δ1)
  | .x e δ1 => some (.ex e δ1)
@[simp] noncomputable def appX (i : Nat) (fx : FX) : FS := fun δ => match fx δ with
  | some (.x e δ1) => (match δ[i]? with
    | some (some (.ol _)) => some (.ex e δ1)
    | _ => none)
  | _ => appF i fx.val δ
@[simp] noncomputable def extX (i : Nat) (fx : FX) : FS := fun δ => match fx δ with
  | some (.x e δ1) => (match δ[i]? with
    | some (some (.ol _)) => some (.ex e δ1)
    | _ => none)
  | _ => extF i fx.val δ
/-! raise, try -/
@[simp] noncomputable def raiseF (c : Str) : FS := fun δ => some (.ex ⟨c, [], []⟩ δ)
structure HX where
  x : Str
  np : Pos
  nm : Option (Str × Nat)
  b0 : Stmt
  suite : List Stmt
  pos : Pos
  B : Addr
  yes : List Str
  no : List Str
  f : FS
structure HX.Sub (K : PySem.W.Frag) (h : HX) : Prop where
  yes : ∀ c ∈ h.yes, ∀ C, ClsIs K c C → PySem.W.mroIn K C (.ref h.B) = some true
  no : ∀ c ∈ h.no, ∀ C, ClsIs K c C → PySem.W.mroIn K C (.ref h.B) = some false
noncomputable def HX.hd (Z : Ent K) (h : HX) : Hd := ⟨h.x, h.np, h.nm, h.b0, h.suite, h.pos, h.B, liftS Z h.f⟩
structure HF where
  i : Option Nat
  yes : List Str
  no : List Str
  f : FS
@[simp] noncomputable def HX.hf (h : HX) : HF := ⟨h.nm.map (·.2), h.yes, h.no, h.f⟩
@[simp] noncomputable def pickF (c : Str) : List HF → Option HF
  | [] => none
  | h :: r => if c ∈ h.yes then some h else if c ∈ h.no then pickF c r else none
@[simp] noncomputable def Fl.but (i : Nat) : Fl → Fl
  | .nx δ => .nx (δ.set i none)
  | .bk δ => .bk (δ.set i none)
  | .ct δ => .ct (δ.set i none)
  | .ex e δ => .ex e (δ.set i none)
  | .rt sv => .rt sv
@[simp] noncomputable def Fl.isEx : Fl → Bool
  | .ex _ _ => true
  | _ => false
@[simp] noncomputable def HF.run (h : HF) (x : Exn) (δ : DSt) : Option Fl := match h.i with
  | none => h.f δ
  | some i => if i < δ.length then (h.f (δ.set i (some (.fz (.exc x.c x.ks x.vs))))).bind fun fl => if fl.isEx = true then none else some (fl.but i) else none
@[simp] noncomputable def tryF (fb : FS) (hs : List HF) : FS := fun δ => (fb δ).bind fun
  | .ex x δ1 => (pickF x.c hs).bind fun h => h.run x δ1
  | fl => some fl
noncomputable abbrev Ent.wish (Z : Ent K) (EX : EXT) : Ent K := ⟨Z.h, Z.f, EX⟩
end
end DL

/-! THE RULES for what may raise -/
namespace DL
open PySem PySem.Spec PyProof.Rows L2
section
variable {X : Cx} {Z : Ent X.K} {a b c : Expr} {fa fb : FE} {fx fy : FX} {pos : Pos}
/-! statements -/
/-! isinstance(e, ..), e an exception -/
@[simp] noncomputable def isxD (yes no : List Str) : D → Option SV
  | .exc c _ _ => if c ∈ yes then some (.fz (.bl true)) else if c ∈ no then some (.fz (.bl false)) else none
  | _ => none
noncomputable def Kn (K : PySem.W.Frag) (r : Addr → Bool → Prop) (yes no : List Str) : Prop := (∀ c ∈ yes, ∀ C, ClsIs K c C → ExcKit K C ∧ r C true) ∧ ∀ c ∈ no, ∀ C, ClsIs K c C → ExcKit K C ∧ r C false
noncomputable def namesT (Bs : List Addr) : TA := fun _ H R => R (Bs.map V.ref) H
end
end DL

/-! DICT DISPLAYS with text keys; min of two -/
namespace DL
open PySem PySem.Spec PyProof.Rows L2
section
variable {X : Cx} {pins : List (Addr × Obj)} {σ : L2.St} {H : Hp} {s : Shared}
noncomputable def tDispN (trs : List (TE × TE)) : TE := fun σ H Q => tPairs trs σ H fun ps H2 => ∃ kvs : List (Key × V), ps = kvs.map (fun kv => (kV kv.1, kv.2)) ∧ kvs.length ≤ 15 ∧ ∀ p ep, H2 p = none → Q (.ref p) (upd H2 p (.dK (mergeK [] kvs) ep))
end
section
variable {K : PySem.W.Frag} {Z : Ent K} {σ : L2.St} {H : Hp} {Q : VK}
noncomputable def tPD (Z : Ent K) (l : List (Str × FE)) : List (TE × TE) := l.map fun p => (tC (.str p.1), liftE Z p.2)
@[simp] noncomputable def pairsF : List (Str × FE) → FD
  | [] => dispNil
  | p :: r => dispCons p.2 (pairsF r)
@[simp] noncomputable def dispNF (l : List (Str × FE)) : FE := fun δ => (pairsF l δ).bind fun p => if p.1.length = l.length then some (.tmp (.oK (l.map fun q => .inr q.1) p.1), p.2) else none
@[simp] noncomputable def minD : List D → Option SV
  | [.int i, .int j] => some (.fz (.int (if j < i then j else i)))
  | _ => none
end
section
variable {X : Cx} {Z : Ent X.K} {a b c : Expr} {fa fb fc : FE} {pos : Pos}
end
end DL

/-! MANY TEXTS in a display -/
namespace DL
open PySem PySem.Spec PyProof.Rows L2
@[simp] noncomputable def textsF (ss : List Str) (fd : FD) : FD := fun δ => (fd δ).bind fun p => some (ss.map D.str ++ p.1, p.2)
section
variable {X : Cx} {Z : Ent X.K} {pos : Pos}
noncomputable abbrev cst (x : Str × Nat × Pos) : Expr := .Constant (.str x.1) x.2.1 x.2.2
end
end DL

/-! A COMPREHENSION whose items may raise -/
namespace DL
open PySem PySem.Spec PyProof.Rows L2
section
variable {K : PySem.W.Frag}
inductive RC where
  | v (δ : DSt) | x (e : Exn)
noncomputable def xX (K : PySem.W.Frag) (f : FX) (EX : EXT) : TE := fun σ H Q => ∃ Z : Ent K, Z.x = EX ∧ liftX Z f σ H Q
@[simp] noncomputable def compXD (src : List BSrc) (k : Nat) (g : FG) (tt : FT) (te : FX) : List D → DSt → Option RC
  | [], δ => some (.v δ)
  | d :: ds, δ => (g.run d δ).bind fun δ1 => (tt δ1).bind fun p => if p.1 = true then (te p.2).bind (fun
    | .x e _ => some (.x e)
    | .v rv δ2 => (frz rv δ2).bind fun r => match r.2[k]? with
      | some (some (.ol zs)) => if zs.length < PySem.sizeLine then compXD src k g tt te ds (reset src (r.2.set k (some (.ol (zs ++ [r.1]))))) else none
      | _ => none)
    else compXD src k g tt te ds (reset src p.2)
@[simp] noncomputable def compX (src : List BSrc) (k : Nat) (fi : FD) (g : FG) (tt : FT) (te : FX) : FX := fun δ => (fi δ).bind fun p => (frzAll (caps src) p.2).bind fun c => (compXD src k g tt te p.1 (bD src c.2)).bind fun
  | .x e => some (.x e c.2)
  | .v δb => match δb[k]? with
    | some (some (.ol ys)) => some (.v (.tmp (.ol ys)) c.2)
    | _ => none
end
section
variable {X : Cx} {Z : Ent X.K} {pos : Pos}
end
end DL

/-! slices with a step -/
namespace L2
open PySem PySem.Spec PyProof.Rows
noncomputable def pickL {α : Type} (xs : List α) (lo hi st : Option Int) : List α :=
  (sliceRange (sliceBounds lo hi st xs.length).1 (sliceBounds lo hi st xs.length).2.1 (sliceBounds lo hi st xs.length).2.2).filterMap (xs[·]?)
section
variable {X : Cx} {e st : Expr} {te : TE} {lo hi : Option Expr} {tl th ts : TO} {pos p2 : Pos}
noncomputable def SlR3 (X : Cx) (r : V → Option Int → Option Int → Option Int → Hp → VK → Prop) : Prop :=
  ∀ (pins : List (Addr × Obj)) (s : Shared) (σ : St) (H : Hp) (x : V) (v vl vu vs : Value) (lo hi st : Option Int) (sl : Addr) (Q : VK), Inv X pins σ H s → RelV x v → s.heap.IsSliceOf sl vl vu vs → IsPart vl lo → IsPart vu hi → IsPart vs st → r x lo hi st H Q →
    ∃ T id, typeLookup (.type T) "__getitem__" = pure (some (.builtin id)) ∧ s.TypeIs v T ∧ wpAny (model X.prog X.w) X.A (getItem v (.ref sl)) (EP X pins σ Q) X.xe s
noncomputable def tSl3 (r : V → Option Int → Option Int → Option Int → Hp → VK → Prop) (te : TE) (tl th ts : TO) : TE := fun σ H Q => te σ H fun x H1 => tl σ H1 fun l H2 => th σ H2 fun u H3 => ts σ H3 fun w H4 => r x l u w H4 Q
noncomputable def rSl3 (K : PySem.W.Frag) : V → Option Int → Option Int → Option Int → Hp → VK → Prop := fun x lo hi st H Q => ∃ a xs, x = .ref a ∧ SqL K H a xs ∧ st ≠ some 0 ∧ ∀ p, H p = none → Q (.ref p) (upd H p (.lst (pickL xs lo hi st)))
end
end L2
namespace DL
open PySem PySem.Spec PyProof.Rows L2
@[simp] noncomputable def slF3 (g : D → Option Int → Option Int → Option Int → Option SV) (fe : FE) (fl fh fs : FO) : FE := fun δ => (fe δ).bind fun p => (fl p.2).bind fun l => (fh l.2).bind fun h => (fs h.2).bind fun w => (rdv p.1 w.2).bind fun d => (g d l.1 h.1 w.1).bind fun sv => some (.tmp sv, w.2)
section
variable {K : PySem.W.Frag} {Z : Ent K} {H : Hp} {σ : L2.St} {Q : VK}
noncomputable def PrimS3 (Z : Ent K) (r : V → Option Int → Option Int → Option Int → Hp → VK → Prop) (g : D → Option Int → Option Int → Option Int → Option SV) : Prop :=
  ∀ (F H : Hp) (σ : L2.St) (δ : DSt) (own : Nat → Nodes) (x : V) (d : D) (lo hi st : Option Int) (sv : SV) (Q : VK), SR Z F H σ δ own → RepN K F H d x → g d lo hi st = some sv → Fin Z F H σ δ own sv Q → r x lo hi st H Q
@[simp] noncomputable def slD3 : D → Option Int → Option Int → Option Int → Option SV
  | .lst xs, lo, hi, st => if st ≠ some 0 then some (.ol (pickL xs lo hi st)) else none
  | _, _, _, _ => none
end
end DL

/-! lists of a known length, without a match of their own -/
namespace DL
section
variable {α : Type} {P : List α → Prop}
@[elab_as_elim] theorem of0 (h : P []) (us : List α) (hl : us.length = 0) : P us := by
  have : us = [] := List.eq_nil_of_length_eq_zero hl
  rw [this]; exact h
@[elab_as_elim] theorem of1 (h : ∀ a, P [a]) (us : List α) (hl : us.length = 1) : P us := by
  obtain ⟨a, e⟩ := List.length_eq_one_iff.mp hl
  rw [e]; exact h a
theorem ofC {n : Nat} (h : ∀ a (us : List α), us.length = n → P (a :: us)) (us : List α) (hl : us.length = n + 1) : P us := by
  cases us with
  | nil => exact absurd hl (by simp)
  | cons a r => exact h a r (by simpa using hl)
@[elab_as_elim] theorem of2 (h : ∀ a b, P [a, b]) (us : List α) (hl : us.length = 2) : P us := ofC (fun a => of1 (P := fun us => P (a :: us)) (h a)) us hl
@[elab_as_elim] theorem of3 (h : ∀ a b c, P [a, b, c]) (us : List α) (hl : us.length = 3) : P us := ofC (fun a => of2 (P := fun us => P (a :: us)) (h a)) us hl
@[elab_as_elim] theorem of4 (h : ∀ a b c d, P [a, b, c, d]) (us : List α) (hl : us.length = 4) : P us := ofC (fun a => of3 (P := fun us => P (a :: us)) (h a)) us hl
@[elab_as_elim] theorem of5 (h : ∀ a b c d e, P [a, b, c, d, e]) (us : List α) (hl : us.length = 5) : P us := ofC (fun a => of4 (P := fun us => P (a :: us)) (h a)) us hl
@[elab_as_elim] theorem of6 (h : ∀ a b c d e f, P [a, b, c, d, e, f]) (us : List α) (hl : us.length = 6) : P us := ofC (fun a => of5 (P := fun us => P (a :: us)) (h a)) us hl
end
end DL

/-! A DICT, WALKED: for k in d -/
namespace L2
open PySem PySem.Spec PyProof.Rows
section
variable {prog : Program} {w : World} {A : Around} {E : Value → Shared → Prop} {s : Shared} {q d : Addr} {i n ep : Nat} {od : Obj} {es : Array DictEntry}
theorem key_iter {Q : Value → Shared → Prop} (hs : (d == sysModules) = false) (g : s.heap.get? d = some od) (x : od.ExactDict) (c : od.data = .dict es ep)
    (k : Q (.ref s.heap.objs.size) { s with heap := s.heap.push { cls := .type "dict_keyiterator", data := .fields #[.ref d, .int 0 0, .int es.size 0, .int ep 0] } }) : wpAny (model prog w) A (pyIter (.ref d)) Q E s := by
  have T : s.TypeIs (.ref d) "dict" := ⟨od, g, x.1⟩
  refine wpAny_pyIter_slot T PySem.F.slot_dict_iter (wpAny_call_entry PySem.F.slot_dict_iter T PySem.F.entry_dict_iter (show wpAny _ _ (Builtin.«dict.__iter__» _) _ _ _ from ?_) (PySem.F.args_dict_iter_1 _))
  unfold Builtin.«dict.__iter__» Builtin.Dict.dictSlotNone
  refine wpAny_bind (wpAny_bind (wpAny_notOrdered_dict T (show wpAny _ _ (pure (Value.ref d)) _ _ s from wpAny_pure ?_)))
  show wpAny _ _ (Builtin.Dict.showsAll d >>= _) _ _ s
  unfold Builtin.Dict.showsAll
  rw [if_neg (by rw [hs]; decide)]
  refine wpAny_bind (wpAny_pure (wpAny_bind (wpAny_dictEntries g c (wpAny_bind (wpAny_dictEpoch g c (wpAny_bind (wpAny_newObj_type (wpAny_pure ⟨_, rfl, "dict_keyiterator", _, ⟨_, Heap.get?_push_size _ rfl, rfl⟩, PySem.F.slot_dict_keyiterator_next.lookup, ?_⟩))))))))
  simpa [rawInt] using k
theorem key_next {e : DictEntry} {Q : Option Value → Shared → Prop} (t : s.heap.IsKeyIter q d i n ep) (g : s.heap.get? d = some od) (c : od.data = .dict es ep) (hn : es.size = n) (he : es[i]? = some e)
    (k : ∀ h', h'.IsKeyIter q d (i + 1) n ep → Heap.SameBut q s.heap h' → Q (some e.key) { s with heap := h' }) : wpAny (model prog w) A (pyNext (.ref q)) Q E s := by
  obtain ⟨o, ho, hc, hd⟩ := id t
  have T := t.typeIs
  unfold pyNext
  refine wpAny_bind (wpAny_attempt (wpAny_callSpecial?_slot (name := "__next__") T PySem.F.slot_dict_keyiterator_next (wpAny_call_entry PySem.F.slot_dict_keyiterator_next T PySem.F.entry_dict_keyiterator_next (wpAny_bind (wpAny_pure (wpAny_bind (wpAny_bind ?_)))) (PySem.F.args_dict_keyiterator_next_1 _))))
  first | (refine wpAny_bind (wpAny_typeNameOfWhole_keyiter T (wpAny_pure (wpAny_bind (wpAny_fieldsOf ho hd ?_))))) | (refine wpAny_bind (wpAny_typeNameOf_keyiter T (wpAny_pure (wpAny_bind (wpAny_fieldsOf ho hd ?_)))))
  have z0 : Builtin.Dict_items.ownsTuple "dict_keyiterator" = false := rfl
  rw [z0]
  simp only [Bool.false_eq_true, if_false]
  show wpAny _ _ (ite ((Value.ref d == Value.none) = true) _ _) _ _ s
  rw [if_neg (show ¬ (Value.ref d == Value.none) = true from fun z => Bool.false_ne_true z)]
  refine wpAny_bind (wpAny_pure (wpAny_bind (wpAny_dictEntries g c ?_)))
  rw [if_neg (by rw [hn]; simp)]
  refine wpAny_bind (wpAny_pure (wpAny_bind (wpAny_dictEpoch g c ?_)))
  rw [if_neg (by simp)]
  have hi : i < es.size := (Array.getElem?_eq_some_iff.mp he).1
  refine wpAny_pure ?_
  simp only [show ¬ ((i : Int) < 0) by omega, if_false, Int.toNat_natCast, he]
  refine wpAny_bind ?_
  first | (refine wpAny_bind (wpAny_typeNameOfWhole_keyiter T (wpAny_pure (wpAny_bind (wpAny_isOneOf_keyiter T ?_))))) | (refine wpAny_bind (wpAny_typeNameOf_keyiter T (wpAny_pure (wpAny_bind (wpAny_isOneOf_keyiter T ?_)))))
  show wpAny _ _ (setField (.ref q) 1 (rawInt ((i : Int) + 1)) >>= _) _ _ s
  refine wpAny_bind (wpAny_setField ho hd (by simp) ?_)
  have t' : (s.heap.update q (Obj.mapFields (·.setIfInBounds 1 (rawInt ((i : Int) + 1))))).IsKeyIter q d (i + 1) n ep := ⟨_, Heap.get?_update_self _ ho (Obj.isFreed_of_fields (Obj.data_mapFields hd _)), (Obj.cls_mapFields ..).trans hc, (Obj.data_mapFields hd _).trans (by simp [rawInt])⟩
  refine wpAny_bind (wpAny_holding (wpAny_bind (wpAny_isOneOf_keyiter (s := { s with heap := s.heap.update q (Obj.mapFields (·.setIfInBounds 1 (rawInt ((i : Int) + 1)))) }) t'.typeIs (show wpAny _ _ (pure e.key) _ _ _ from wpAny_pure (wpAny_pure ⟨_, rfl, wpAny_pure (k _ t' (Heap.SameBut.update ..))⟩)))))
theorem key_stop {Q : Option Value → Shared → Prop} (hh : A.handled = none) (t : s.heap.IsKeyIter q d i n ep) (g : s.heap.get? d = some od) (c : od.data = .dict es ep) (hn : es.size = n) (hi : n ≤ i)
    (k : ∀ h', Heap.ExtBut q s.heap h' → Q none { s with heap := h' }) : wpAny (model prog w) A (pyNext (.ref q)) Q E s := by
  obtain ⟨o, ho, hc, hd⟩ := id t
  have T := t.typeIs
  unfold pyNext
  refine wpAny_bind (wpAny_attempt (wpAny_callSpecial?_slot (name := "__next__") T PySem.F.slot_dict_keyiterator_next (wpAny_call_entry PySem.F.slot_dict_keyiterator_next T PySem.F.entry_dict_keyiterator_next (wpAny_bind (wpAny_pure (wpAny_bind (wpAny_bind ?_)))) (PySem.F.args_dict_keyiterator_next_1 _))))
  first | (refine wpAny_bind (wpAny_typeNameOfWhole_keyiter T (wpAny_pure (wpAny_bind (wpAny_fieldsOf ho hd ?_))))) | (refine wpAny_bind (wpAny_typeNameOf_keyiter T (wpAny_pure (wpAny_bind (wpAny_fieldsOf ho hd ?_)))))
  have z0 : Builtin.Dict_items.ownsTuple "dict_keyiterator" = false := rfl
  rw [z0]
  simp only [Bool.false_eq_true, if_false]
  show wpAny _ _ (ite ((Value.ref d == Value.none) = true) _ _) _ _ s
  rw [if_neg (show ¬ (Value.ref d == Value.none) = true from fun z => Bool.false_ne_true z)]
  refine wpAny_bind (wpAny_pure (wpAny_bind (wpAny_dictEntries g c ?_)))
  rw [if_neg (by rw [hn]; simp)]
  refine wpAny_bind (wpAny_pure (wpAny_bind (wpAny_dictEpoch g c ?_)))
  rw [if_neg (by simp)]
  have he : es[i]? = none := Array.getElem?_eq_none (by omega)
  refine wpAny_pure ?_
  simp only [show ¬ ((i : Int) < 0) by omega, if_false, Int.toNat_natCast, he]
  refine wpAny_bind ?_
  first | (refine wpAny_bind (wpAny_typeNameOfWhole_keyiter T (wpAny_pure ?_))) | (refine wpAny_bind (wpAny_typeNameOf_keyiter T (wpAny_pure ?_)))
  show wpAny _ _ (setField (.ref q) 0 Value.none >>= _) _ _ s
  refine wpAny_bind (wpAny_setField ho hd (by simp) (show wpAny _ _ (newExc (.type "StopIteration") [] >>= _) _ _ _ from wpAny_bind ?_))
  simp only [newExc, newTuple]
  refine wpAny_bind (wpAny_newObj_type (wpAny_bind (m := firstArgMember _ _) (wpAny_of_eq (a := Value.none) (by first | rfl | (simp only [firstArgMember]; rfl)) (wpAny_newObj_type ?_ (by size_fits)))) (by size_fits))
  simp only [raiseNew]
  refine wpAny_bind (wpAny_handled ?_)
  rw [show A.in1.handled = Option.none from hh]
  refine wpAny_bind (wpAny_pure (wpAny_throw ?_))
  refine wpAny_bind (wpAny_isInstance (T := "StopIteration") (b := true) (by exact ⟨_, Heap.get?_push_size _ rfl, rfl⟩) isSubtype_stop ?_)
  exact wpAny_pure (k _ (((Heap.SameBut.update ..).extBut.push _).push _))
theorem mix_rel {P : Program} {w : World} {k : Key} {u : Value} (h : (mixKind P w).is k u = true) : RelV (kV k) u := by
  rcases keyIs_shape h with ⟨i, t, rfl, rfl⟩ | ⟨x, t, rfl, rfl⟩
  · exact ⟨t, rfl⟩
  · exact ⟨t, rfl⟩
end
noncomputable def Itk (a : Addr) (n ep : Nat) : It :=
  ⟨fun i H => ∃ kvs, H a = some (.dK kvs ep) ∧ kvs.length = n ∧ i < n, fun i H x H' => H' = H ∧ ∃ kvs kv, H a = some (.dK kvs ep) ∧ kvs[i]? = some kv ∧ x = kV kv.1, fun i H => ∃ kvs, H a = some (.dK kvs ep) ∧ kvs.length = n ∧ n ≤ i⟩
noncomputable def Itd (a : Addr) (n ep : Nat) : It :=
  ⟨fun i H => ∃ kvs bs, H a = some (.dT kvs ep bs) ∧ kvs.length = n ∧ i < n, fun i H x H' => H' = H ∧ ∃ kvs bs b, H a = some (.dT kvs ep bs) ∧ bs[i]? = some b ∧ x = .ref b, fun i H => ∃ kvs bs, H a = some (.dT kvs ep bs) ∧ kvs.length = n ∧ n ≤ i⟩
theorem keyIter_keep {q d : Addr} {i n ep : Nat} {h h' : Heap} (t : h.IsKeyIter q d i n ep) (k : ∀ o, h.get? q = some o → h'.get? q = some o) : h'.IsKeyIter q d i n ep := let ⟨o, e, r⟩ := t; ⟨o, k o e, r⟩
theorem pairs_at {P : Program} {w : World} {es : List DictEntry} {vs : List (Key × Value)} (h : Pairs (mixKind P w) es vs) {i : Nat} {kv : Key × Value} (hi : vs[i]? = some kv) : ∃ e, es[i]? = some e ∧ (mixKind P w).is kv.1 e.key = true := by
  induction h generalizing i with
  | nil => simp at hi
  | @cons e0 kv0 es0 kvs0 h1 h2 _ ih =>
    cases i with
    | zero => simp at hi; subst hi; exact ⟨e0, by simp, h1⟩
    | succ j =>
      obtain ⟨e, a1, a2⟩ := ih (i := j) (by simpa using hi)
      exact ⟨e, by simpa using a1, a2⟩
theorem pairs_len {P : Program} {w : World} {es : List DictEntry} {vs : List (Key × Value)} (h : Pairs (mixKind P w) es vs) : es.length = vs.length := by
  induction h with
  | nil => rfl
  | cons _ _ _ ih => rw [List.length_cons, List.length_cons, ih]
theorem paired_at {α β : Type} {R : α → β → Prop} {l : List α} {m : List β} (h : Paired R l m) : ∀ {i : Nat} {x : α}, l[i]? = some x → ∃ y, m[i]? = some y ∧ R x y := by
  induction h with
  | nil => intro i x hi; simp at hi
  | @cons a b as bs h1 t ih =>
    intro i x hi
    cases i with
    | zero => simp at hi; subst hi; exact ⟨b, by simp, h1⟩
    | succ j => obtain ⟨y, a1, a2⟩ := ih (i := j) (by simpa using hi); exact ⟨y, by simpa using a1, a2⟩
theorem turn_dK {P : Program} {w : World} {K : PySem.W.Frag} {tg : Expr} (a it : Addr) (n ep : Nat) : Turn P w K tg (Itk a n ep) [it] it (fun i h => h.IsKeyIter it a i n ep) where
  mem := List.mem_cons_self
  obj := fun i h st b hb => by
    obtain rfl := List.mem_singleton.mp hb
    obtain ⟨o, e, c, d⟩ := st
    exact ⟨o, e, fun v z => by rw [d] at z; cases z⟩
  keep := fun i h h' st k => keyIter_keep st fun o e => k it List.mem_cons_self o e
  item := by
    intro X hP hw hK hc i pins s σ H E I hf st hg
    subst hP hw hK
    obtain ⟨kvs, hq, hn, hi⟩ := hg
    obtain ⟨z, hd, vs, rel, od, es, g, x, c, ko, pr, nd⟩ := (show ObjOk X.prog X.w H s.heap a (.dK kvs ep) from I.hok a _ hq)
    obtain ⟨f0, f1, f2, f3, f4, f5⟩ := hf it List.mem_cons_self
    have hkv : kvs[i]? = some (kvs[i]'(by omega)) := List.getElem?_eq_getElem (by omega)
    obtain ⟨vv, hv, hr⟩ := paired_at rel hkv
    obtain ⟨e, he, hke⟩ := pairs_at pr hv
    have hz : es.size = n := by rw [← Array.length_toList, pairs_len pr, ← Paired.length rel, hn]
    refine key_next st g c hz (e := e) (by rw [← Array.getElem?_toList]; exact he) fun h' st' sb => ?_
    have I1 : Inv X pins σ H { s with heap := h' } := I.turned (t' := s.toks) (fun b o hb e => (sb.2 b hb).trans e) f0 f1 f3 f4 f5
    obtain ⟨o, e1, c1, d1⟩ := id st'
    exact ⟨e.key, rfl, go_of (s := { s with heap := h' }) e1 c1 d1 (by decide) ⟨kV (kvs[i]'(by omega)).1, H, I1, mix_rel (by rw [hr.1]; exact hke), ⟨rfl, kvs, _, hq, hkv, rfl⟩, st', fun b hb => (hf b hb).1⟩⟩
  done := by
    intro X hP hw hK hc i pins s σ H E I hf st hg
    subst hP hw hK
    obtain ⟨kvs, hq, hn, hi⟩ := hg
    obtain ⟨z, hd, vs, rel, od, es, g, x, c, ko, pr, nd⟩ := (show ObjOk X.prog X.w H s.heap a (.dK kvs ep) from I.hok a _ hq)
    obtain ⟨f0, f1, f2, f3, f4, f5⟩ := hf it List.mem_cons_self
    have hz : es.size = n := by rw [← Array.length_toList, pairs_len pr, ← Paired.length rel, hn]
    exact key_stop (I.ok.hd hc) st g c hz hi fun h' eb => ⟨rfl, I.turned (t' := s.toks) (fun b o hb e => eb b o hb e) f0 f1 f3 f4 f5⟩
  self := fun _ _ s _ _ st h => by
    exact wpAny_pyIter_slot st.typeIs PySem.F.slot_dict_keyiterator_iter (wpAny_call_entry PySem.F.slot_dict_keyiterator_iter st.typeIs PySem.F.entry_dict_keyiterator_iter (by exact wpAny_pure ⟨_, rfl, "dict_keyiterator", _, st.typeIs, PySem.F.slot_dict_keyiterator_next.lookup, h⟩) (PySem.F.args_dict_keyiterator_iter_1 _))
theorem turn_dT {P : Program} {w : World} {K : PySem.W.Frag} {tg : Expr} (a it : Addr) (n ep : Nat) : Turn P w K tg (Itd a n ep) [it] it (fun i h => h.IsKeyIter it a i n ep) where
  mem := List.mem_cons_self
  obj := (turn_dK (P := P) (w := w) (K := K) (tg := tg) a it n ep).obj
  keep := (turn_dK (P := P) (w := w) (K := K) (tg := tg) a it n ep).keep
  item := by
    intro X hP hw hK hc i pins s σ H E I hf st hg
    subst hP hw hK
    obtain ⟨kvs, bs, hq, hn, hi⟩ := hg
    obtain ⟨z, hd, xs, rel, od, es, g, x, c, en, nd, hbs⟩ := (show ObjOk X.prog X.w H s.heap a (.dT kvs ep bs) from I.hok a _ hq)
    obtain ⟨f0, f1, f2, f3, f4, f5⟩ := hf it List.mem_cons_self
    have hkv : kvs[i]? = some (kvs[i]'(by omega)) := List.getElem?_eq_getElem (by omega)
    obtain ⟨vv, hv, hr⟩ := paired_at rel hkv
    have hz : es.size = n := by rw [← Array.length_toList, en, List.length_map, ← Paired.length rel, hn]
    have he : es[i]? = some (entryOfKey (tupleKind (mixKind X.prog X.w)) vv) := by rw [← Array.getElem?_toList, en, List.getElem?_map, hv]; rfl
    refine key_next st g c hz he fun h' st' sb => ?_
    have I1 : Inv X pins σ H { s with heap := h' } := I.turned (t' := s.toks) (fun b o hb e => (sb.2 b hb).trans e) f0 f1 f3 f4 f5
    obtain ⟨o, e1, c1, d1⟩ := id st'
    exact ⟨.ref vv.2.1, rfl, go_of (s := { s with heap := h' }) e1 c1 d1 (by decide) ⟨.ref vv.2.1, H, I1, rfl, ⟨rfl, kvs, bs, vv.2.1, hq, by rw [← hbs, List.getElem?_map, hv]; rfl, rfl⟩, st', fun b hb => (hf b hb).1⟩⟩
  done := by
    intro X hP hw hK hc i pins s σ H E I hf st hg
    subst hP hw hK
    obtain ⟨kvs, bs, hq, hn, hi⟩ := hg
    obtain ⟨z, hd, xs, rel, od, es, g, x, c, en, nd, hbs⟩ := (show ObjOk X.prog X.w H s.heap a (.dT kvs ep bs) from I.hok a _ hq)
    obtain ⟨f0, f1, f2, f3, f4, f5⟩ := hf it List.mem_cons_self
    have hz : es.size = n := by rw [← Array.length_toList, en, List.length_map, ← Paired.length rel, hn]
    exact key_stop (I.ok.hd hc) st g c hz hi fun h' eb => ⟨rfl, I.turned (t' := s.toks) (fun b o hb e => eb b o hb e) f0 f1 f3 f4 f5⟩
  self := (turn_dK (P := P) (w := w) (K := K) (tg := tg) a it n ep).self
section
variable {X : Cx} {tg : Expr}
noncomputable def iDic (tl : TE) : TI := fun σ H R => tl σ H fun x H1 => (∃ a kvs ep, x = .ref a ∧ H1 a = some (.dK kvs ep) ∧ R (Itk a kvs.length ep) H1) ∨ (∃ a kvs ep bs, x = .ref a ∧ H1 a = some (.dT kvs ep bs) ∧ R (Itd a kvs.length ep) H1)
theorem pi_dic {l : Expr} {tl : TE} (hl : PE X l tl) : PI X tg l (iDic tl) := by
  intro pins s σ H R I h
  refine thn (hl pins s σ H _ I h) fun v s1 ⟨x, H1, I1, r1, q1⟩ => ?_
  rcases q1 with ⟨a, kvs, ep, rfl, hq, q⟩ | ⟨a, kvs, ep, bs, rfl, hq, q⟩
  · cases r1
    obtain ⟨z, hd, vs, rel, od, es, g, x, c, ko, pr, nd⟩ := (show ObjOk X.prog X.w H1 s1.heap a (.dK kvs ep) from I1.hok a _ hq)
    have hz : es.size = kvs.length := by rw [← Array.length_toList, pairs_len pr, ← Paired.length rel]
    refine key_iter hd g x c ⟨s1.heap.objs.size, [s1.heap.objs.size], _, _, H1, rfl, I1.kept (t' := s1.toks) fun b o e => Heap.get?_push_of_some _ e, turn_dK a _ kvs.length ep, ⟨_, Heap.get?_push_size _ rfl, rfl, by rw [hz]; rfl⟩, fun b hb => ?_, q⟩
    obtain rfl := List.mem_singleton.mp hb
    exact I1.fpOk (Nat.le_refl _) (I1.hok.fresh (Nat.le_refl _))
  · cases r1
    obtain ⟨z, hd, xs, rel, od, es, g, x, c, en, nd, hbs⟩ := (show ObjOk X.prog X.w H1 s1.heap a (.dT kvs ep bs) from I1.hok a _ hq)
    have hz : es.size = kvs.length := by rw [← Array.length_toList, en, List.length_map, ← Paired.length rel]
    refine key_iter hd g x c ⟨s1.heap.objs.size, [s1.heap.objs.size], _, _, H1, rfl, I1.kept (t' := s1.toks) fun b o e => Heap.get?_push_of_some _ e, turn_dT a _ kvs.length ep, ⟨_, Heap.get?_push_size _ rfl, rfl, by rw [hz]; rfl⟩, fun b hb => ?_, q⟩
    obtain rfl := List.mem_singleton.mp hb
    exact I1.fpOk (Nat.le_refl _) (I1.hok.fresh (Nat.le_refl _))
end
end L2
namespace DL
open PySem PySem.Spec PyProof.Rows L2
variable {K : PySem.W.Frag}
@[simp] noncomputable def keyD : Key → D
  | .inl i => .int i
  | .inr x => .str x
theorem keyD_rep {F : Hp} (k : Key) : Rep K F (keyD k) (kV k) := by
  cases k with
  | inl i => exact .int i
  | inr x => exact .str x
theorem keysD_rep {F : Hp} : ∀ k : List Key, Reps K F (k.map keyD) (k.map kV)
  | [] => .nil
  | k :: r => .cons (keyD_rep k) (keysD_rep r)
theorem yields_dK {F : Hp} {a : Addr} {kvs : List (Key × V)} {ep : Nat} (h : F a = some (.dK kvs ep)) : Yields K (Itk a kvs.length ep) F ((kvs.map (·.1)).map keyD) := fun F' H sF sH i => by
  have q : H a = some (.dK kvs ep) := sH _ _ (sF _ _ h)
  refine ⟨fun d hd => ?_, fun hl => ⟨kvs, q, rfl, by simpa using hl⟩⟩
  rw [List.map_map, List.getElem?_map] at hd
  obtain ⟨kv, h1, h2⟩ := Option.map_eq_some_iff.mp hd
  refine ⟨⟨kvs, q, rfl, (List.getElem?_eq_some_iff.mp h1).1⟩, fun x H' ⟨e1, kvs', kv', e2, e3, e4⟩ => ?_⟩
  subst e1
  rw [q] at e2; cases e2
  rw [h1] at e3; cases e3
  subst e4
  rw [← h2]
  exact ⟨Same.refl _, [], List.nodup_nil, fun _ h => (nomatch h), keyD_rep _⟩
theorem yields_dT {F : Hp} {a : Addr} {kvs : List (List Key × V)} {ep : Nat} {bs : List Addr} (h : F a = some (.dT kvs ep bs)) (kb : KB F kvs bs) : Yields K (Itd a kvs.length ep) F ((kvs.map (·.1)).map fun k => D.tup (k.map keyD)) := fun F' H sF sH i => by
  have q : H a = some (.dT kvs ep bs) := sH _ _ (sF _ _ h)
  refine ⟨fun d hd => ?_, fun hl => ⟨kvs, bs, q, rfl, by simpa using hl⟩⟩
  rw [List.map_map, List.getElem?_map] at hd
  obtain ⟨kv, h1, h2⟩ := Option.map_eq_some_iff.mp hd
  refine ⟨⟨kvs, bs, q, rfl, (List.getElem?_eq_some_iff.mp h1).1⟩, fun x H' ⟨e1, kvs', bs', b, e2, e3, e4⟩ => ?_⟩
  subst e1
  rw [q] at e2; cases e2
  subst e4
  obtain ⟨b', g1, g2⟩ := paired_at (kb.mono sF) h1
  rw [e3] at g1; cases g1
  rw [← h2]
  exact ⟨Same.refl _, [], List.nodup_nil, fun _ h => (nomatch h), .tup g2 (keysD_rep _)⟩
section
variable {Z : Ent K} {H : Hp} {σ : L2.St}
@[simp] noncomputable def dicI (fe : FE) : FD := fun δ => (fe δ).bind fun p => (frz p.1 p.2).bind fun q => match q.1 with
  | .dK ks _ => some (ks.map keyD, q.2)
  | .dT ks _ => some (ks.map fun k => D.tup (k.map keyD), q.2)
  | _ => none
theorem l_dicI {fe : FE} {R : It → Hp → Prop} (h : liftI Z (dicI fe) σ H R) : iDic (liftE Z fe) σ H R := by
  obtain ⟨F, δ, own, ds, δ', s, e, k⟩ := h
  obtain ⟨⟨rv, δ1⟩, e1, e2⟩ := Option.bind_eq_some_iff.mp e
  obtain ⟨⟨d, δ2⟩, e3, e4⟩ := Option.bind_eq_some_iff.mp e2
  refine ⟨F, δ, own, rv, δ1, s, e1, fun v H1 F1 own1 sH sF s1 r1 => ?_⟩
  obtain ⟨F2, sF2, s2, r2⟩ := s1.settleR r1
  obtain ⟨F3, own3, sF3, s3, r3⟩ := s2.frzR r2 e3
  dsimp only at e4
  split at e4
  · cases e4
    cases r3 with
    | dK h e r => subst e; exact .inl ⟨_, _, _, rfl, s3.le _ _ h, k _ H1 F3 own3 sH (sF.trans (sF2.trans sF3)) s3 (yields_dK h)⟩
  · cases e4
    cases r3 with
    | dT h kb e r => subst e; exact .inr ⟨_, _, _, _, rfl, s3.le _ _ h, k _ H1 F3 own3 sH (sF.trans (sF2.trans sF3)) s3 (yields_dT h kb)⟩
  · cases e4
end
theorem i_dic {X : Cx} {tg : Expr} {Z : Ent X.K} {a : Expr} {fa : FE} (ha : PE X a (liftE Z fa)) : PI X tg a (liftI Z (dicI fa)) := fun pins s σ H R I h => pi_dic ha pins s σ H R I (l_dicI h)
end DL

/-! in, where no dict is met: a text, a list or tuple of flat things -/
namespace DL
open PySem PySem.Spec PyProof.Rows L2
variable {K : PySem.W.Frag}
@[simp] noncomputable def inW (d1 d2 : D) : Option SV := match d2.seq? with
  | some xs => if d1.isFlat = true ∧ xs.all D.isFlat = true then some (.fz (.bl (inFl d1 xs))) else none
  | none => inD d1 d2
@[simp] noncomputable def notinW (d1 d2 : D) : Option SV := match d2.seq? with
  | some xs => if d1.isFlat = true ∧ xs.all D.isFlat = true then some (.fz (.bl (!inFl d1 xs))) else none
  | none => notinD d1 d2
section
variable {Z : Ent K}
end
section
variable {X : Cx} {Z : Ent X.K} {a b : Expr} {fa fb : FE} {pos : Pos}
end
end DL

/-! == of two dicts with the same tuple keys and the same flat values -/
namespace L2
open PySem PySem.Spec PyProof.Rows
section
variable {prog : Program} {w : World} {A : Around} {E : Value → Shared → Prop} {s : Shared} {a b : Addr} {xs ys : List (List Key × Addr × Value)}
theorem same_tups {nm : String} {Q : Bool → Shared → Prop} (ha : (a == sysModules) = false) (hb : (b == sysModules) = false) (da : s.heap.DictOfH (tupleKind (mixKind prog w)) a xs) (db : s.heap.DictOfH (tupleKind (mixKind prog w)) b ys)
    (hu : (tupleKind (mixKind prog w)).room A) (hk : xs.map (·.1) = ys.map (·.1)) (hv : ∀ (i : Nat) (x y : List Key × Addr × Value), xs[i]? = some x → ys[i]? = some y → SeqAt.EqAt A s x.2.2 y.2.2 true) (q : Q true s) : wpAny (model prog w) A (Builtin.Dict.samePairs nm a b) Q E s := by
  obtain ⟨oa, es, ep, ga, _, dta, ea, ia, na⟩ := da
  obtain ⟨ob, fs, eq, gb, _, dtb, eb, ib, nb⟩ := db
  have la : es.size = xs.length := size_of_entries ea
  have lb : fs.size = ys.length := size_of_entries eb
  have lxy : xs.length = ys.length := by have := congrArg List.length hk; simpa using this
  unfold Builtin.Dict.samePairs Builtin.Dict.showsAll
  rw [if_neg (by rw [ha]; decide), if_neg (by rw [hb]; decide)]
  refine wpAny_bind (wpAny_pure (wpAny_bind (wpAny_pure (wpAny_bind (wpAny_dictEntries ga dta (wpAny_bind (wpAny_dictEntries gb dtb ?_)))))))
  rw [if_neg (by rw [la, lb, lxy]; simp)]
  refine wpAny_bind (wpAny_dictEpoch ga dta (wpAny_bind ?_))
  rw [Std.Legacy.Range.forIn_eq_forIn_range']
  simp only [Std.Legacy.Range.size, Nat.sub_zero, Nat.add_sub_cancel, Nat.div_one]
  refine wpAny_forIn_list _ (fun rest x s' => s' = s ∧ x = (none, ()) ∧ ∃ i, rest = List.range' i (es.size - i) ∧ i ≤ es.size) _ ?_ ?_ _ _ ⟨rfl, rfl, 0, by simp, Nat.zero_le _⟩
  · rintro x rest y s' ⟨rfl, rfl, i, hr, hi⟩
    have hlt : i < es.size := by
      rcases Nat.lt_or_ge i es.size with z | z
      · exact z
      · rw [Nat.sub_eq_zero_of_le z] at hr; cases hr
    rw [show es.size - i = (es.size - (i + 1)) + 1 by omega, List.range'_succ] at hr
    injection hr with hx hrest
    subst hx
    have hlx : x < xs.length := by omega
    have hly : x < ys.length := by omega
    have gx : xs[x]? = some xs[x] := List.getElem?_eq_getElem hlx
    have gy : ys[x]? = some ys[x] := List.getElem?_eq_getElem hly
    have h1 : es[x]? = some (entryOfKey (tupleKind (mixKind prog w)) xs[x]) := by rw [entry_at ea x, gx]; rfl
    have h2 : fs[x]? = some (entryOfKey (tupleKind (mixKind prog w)) ys[x]) := by rw [entry_at eb x, gy]; rfl
    have hkx : ys[x].1 = xs[x].1 := by
      have := congrArg (fun l => l[x]?) hk
      simp only [List.getElem?_map, gx, gy, Option.map_some] at this
      exact (Option.some.inj this).symm
    have hev := hv x _ _ gx gy
    have hix := ia xs[x] (List.getElem_mem hlx)
    generalize xs[x] = p at *
    generalize ys[x] = r at *
    refine wpAny_bind (wpAny_dictEntries ga dta ?_)
    rw [h1]
    show wpAny _ _ (holding [_, _] _ >>= _) _ _ _
    refine wpAny_bind (wpAny_holding (wpAny_bind (wpAny_dictFind_heap (A := A) (k := p.1) (a := p.2.1) hu hix gb dtb eb ib nb (fun hno => ?_) fun j pp hj => ?_)))
    · exact absurd (show ys[x]? = some (p.1, r.2) by rw [gy, ← hkx]) (hno x r.2)
    · have hjx : j = x := idxH_unique nb hj (show ys[x]? = some (p.1, r.2) by rw [gy, ← hkx])
      subst hjx
      refine wpAny_bind (wpAny_dictEntries gb dtb ?_)
      rw [h2]
      refine wpAny_holding (hev prog w _ _ ?_)
      show wpAny _ _ (if (!true) = true then _ else _) _ _ _
      rw [if_neg (by decide)]
      refine wpAny_bind (wpAny_dictEpoch ga dta ?_)
      rw [if_neg (by simp)]
      exact wpAny_pure ⟨rfl, rfl, j + 1, hrest, hlt⟩
  · rintro x s' ⟨rfl, rfl, i, hr, hi⟩
    exact wpAny_pure q
end
theorem eqV_self {x : V} (h : flatV x = true) : eqV x x = true := by
  cases x <;> first | rfl | (simp [eqV]; done) | exact absurd (show false = true from h) Bool.false_ne_true
section
variable {X : Cx}
noncomputable def rEqT : R2 := fun x y H Q => ∃ a b kvs, x = .ref a ∧ y = .ref b ∧ HTt H a kvs ∧ HTt H b kvs ∧ (∀ p ∈ kvs, flatV p.2 = true) ∧ Q (.bl true) H
theorem op_eqT (hu : X.A.units + 64 < cLine) : OpR X (compareOp .Eq) rEqT := by
  intro pins s σ H x y v u Q I rx ry h
  obtain ⟨a, b, kvs, rfl, rfl, ha, hb, hf, q⟩ := h
  cases rx
  cases ry
  obtain ⟨_, ma, xs, ka, da⟩ := dt_of I.hok ha
  obtain ⟨_, mb, ys, kb, db⟩ := dt_of I.hok hb
  have hk : xs.map (·.1) = ys.map (·.1) := by
    have go : ∀ {l : List (List Key × V)} {m : List (List Key × Addr × Value)}, KT H l m → m.map (·.1) = l.map (·.1) := by
      intro l m h
      induction h with
      | nil => rfl
      | cons h1 _ ih => rw [List.map_cons, List.map_cons, ih, h1.1]
    rw [go ka, go kb]
  have hv : ∀ (i : Nat) (x y : List Key × Addr × Value), xs[i]? = some x → ys[i]? = some y → SeqAt.EqAt X.A.in1 s x.2.2 y.2.2 true := by
    intro i x y hx hy
    have hl := (List.getElem?_eq_some_iff.mp hx).1
    have hl2 : i < kvs.length := by rw [Paired.length ka]; exact hl
    have hkv : kvs[i]? = some kvs[i] := List.getElem?_eq_getElem hl2
    obtain ⟨x', e1, r1⟩ := paired_at ka hkv
    obtain ⟨y', e2, r2⟩ := paired_at kb hkv
    rw [hx] at e1; cases e1
    rw [hy] at e2; cases e2
    have fl := hf kvs[i] (List.getElem_mem hl2)
    have := eqAt_V (A := X.A.in1) (s := s) r1.2.2 r2.2.2 fl fl
    rw [eqV_self fl] at this
    exact this
  have room : (tupleKind (mixKind X.prog X.w)).room X.A.in1 := tupleKind_room_in1 (by omega)
  have ta : s.TypeIs (.ref a) "dict" := da.typeIs
  have tb : s.TypeIs (.ref b) "dict" := db.typeIs
  refine wpAny_richCompare_same_room (op := .Eq) ta tb PySem.F.slot_dict_eq (wpAny_call_entry PySem.F.slot_dict_eq ta PySem.F.entry_dict_eq (show wpAny _ _ (Builtin.Dict.dictSlotArgs "__eq__" ⟨[.ref a, .ref b], []⟩ >>= _) _ _ s from wpAny_bind ?_) (PySem.F.args_dict_eq_2 _ _)) (by omega)
  unfold Builtin.Dict.dictSlotArgs
  refine wpAny_bind (wpAny_notOrdered_dict ta (show wpAny _ _ (pure (Value.ref a, Value.ref b)) _ _ s from wpAny_pure (wpAny_bind (wpAny_isInstance (T := "dict") tb PySem.F.sub_dict_dict ?_))))
  simp only [Bool.not_true, Bool.false_eq_true, if_false]
  refine wpAny_bind (wpAny_pure (wpAny_bind (wpAny_pure (wpAny_bind (same_tups ma mb da db room hk hv (wpAny_pure ⟨_, rfl, (fun x => nomatch x), ?_⟩))))))
  exact ⟨.bl true, H, I, rfl, q⟩
end
end L2
namespace DL
open PySem PySem.Spec PyProof.Rows L2
variable {K : PySem.W.Frag}
noncomputable def sameT (ks ks' : List (List Key)) (vs vs' : List D) : Bool := @decide (ks = ks' ∧ vs = vs' ∧ vs.all D.isFlat = true) (Classical.propDecidable _)
theorem sameT_self {ks : List (List Key)} {vs : List D} (h : vs.all D.isFlat = true) : sameT ks ks vs vs = true := by
  unfold sameT
  exact @decide_eq_true _ (Classical.propDecidable _) ⟨rfl, rfl, h⟩
@[simp] noncomputable def eqTD (d1 d2 : D) : Option SV := match d1, d2 with
  | .dT ks vs, .dT ks' vs' => if sameT ks ks' vs vs' = true then some (.fz (.bl true)) else none
  | _, _ => none
theorem flat_V {F : Hp} : ∀ {ds : List D} {vs us : List V}, ds.all D.isFlat = true → Reps K F ds vs → Reps K F ds us → vs = us ∧ ∀ v ∈ vs, flatV v = true
  | [], _, _, _, r, q => by cases r; cases q; exact ⟨rfl, fun _ h => nomatch h⟩
  | d :: ds, _, _, h, r, q => by
    rw [List.all_cons, Bool.and_eq_true] at h
    cases r with
    | @cons _ v1 _ r1 h1 t1 =>
    cases q with
    | @cons _ v2 _ r2 h2 t2 =>
      obtain ⟨e, f⟩ := flat_V h.2 t1 t2
      obtain ⟨e1, f1⟩ := fv_ok (RepN.of (H := F) h1) h.1
      obtain ⟨e2, f2⟩ := fv_ok (RepN.of (H := F) h2) h.1
      refine ⟨by rw [e, e1, e2], fun v hv => ?_⟩
      rcases List.mem_cons.mp hv with z | z
      · rw [z]; exact f1
      · exact f v z
theorem kvs_ext {kvs kvs' : List (List Key × V)} : kvs.map (·.1) = kvs'.map (·.1) → kvs.map (·.2) = kvs'.map (·.2) → kvs = kvs' := by
  induction kvs generalizing kvs' with
  | nil => intro h _; cases kvs' with
    | nil => rfl
    | cons _ _ => cases h
  | cons p r ih => intro h h2; cases kvs' with
    | nil => cases h
    | cons q r' =>
      rw [List.map_cons, List.map_cons] at h h2
      injection h with a1 a2
      injection h2 with b1 b2
      rw [ih a2 b2]
      congr 1
      exact Prod.ext a1 b1
section
variable {Z : Ent K}
theorem p_eqT : Prim2 Z rEqT eqTD := by
  intro F H σ δ own x y d1 d2 sv Q s r1 r2 e k
  unfold eqTD at e
  split at e
  · rename_i ks vs ks' vs'
    split at e
    · rename_i h
      cases e
      unfold sameT at h
      obtain ⟨rfl, rfl, hf⟩ := @of_decide_eq_true _ (Classical.propDecidable _) h
      obtain ⟨a, kvs, rfl, ha, e1, rr1⟩ := r1.dT s.le
      obtain ⟨b, kvs', rfl, hb, e2, rr2⟩ := r2.dT s.le
      obtain ⟨ev, fv⟩ := flat_V hf rr1 rr2
      obtain rfl := kvs_ext (e1.trans e2.symm) ev
      exact ⟨a, b, kvs, rfl, rfl, ha, hb, fun p hp => fv _ (List.mem_map.mpr ⟨p, hp, rfl⟩), k.fz s (.bl _)⟩
    · cases e
  · cases e
end
section
variable {X : Cx} {Z : Ent X.K} {a b : Expr} {fa fb : FE} {pos : Pos}
theorem e_eqT (hv : X.A.units + 64 < cLine) (ha : PE X a (liftE Z fa)) (hb : PE X b (liftE Z fb)) : PE X (.Compare a [.Eq] [b] pos) (liftE Z (binF eqTD fa fb)) := e_cmp (op_eqT hv) p_eqT ha hb (nomark _)
end
end DL

/-! MATHEMATICS OF TEXTS AND LISTS, of no law alone -/
namespace My
open DL PySem
theorem line_of {n : Nat} (h : n ≤ 16777216) : n ≤ PySem.sizeLine := h
theorem line_lt {n : Nat} (h : n < 16777216) : n < PySem.sizeLine := h
noncomputable abbrev LET : Str := "ABCDEFGHIJKLMNOPQRSTUVWXYZabcdefghijklmnopqrstuvwxyz"
theorem app_len (a b : Str) : (a ++ b).length = a.length + b.length := by
  show (a.cps ++ b.cps).size = a.cps.size + b.cps.size
  simp
theorem one_len (c : Nat) : (⟨#[c]⟩ : Str).length = 1 := rfl
theorem cut_map (ns : List Int) (lo hi : Option Int) : ∃ ms : List Int, cutD (ns.map D.int) lo hi = ms.map D.int ∧ ms.length ≤ ns.length := by
  unfold cutD
  refine ⟨(ns.drop _).take _, by rw [List.map_take, List.map_drop], ?_⟩
  rw [List.length_take, List.length_drop]; omega
/-! texts one behind another -/
noncomputable def cat : List Str → Str
  | [] => ""
  | x :: r => x ++ cat r
/-! comprehensions that only look at their items -/
/-! deep == of one and the same -/
end My

/-! A TEXT THAT WAS JOINED, CUT AGAIN -/
namespace My
open DL PySem StrLaws Builtin.Str
noncomputable def gap (n : Nat) : Nat → List Nat → Prop
  | _, [] => True
  | a, p :: r => a ≤ p ∧ gap n (p + n) r
/-! the places where a joined text was joined -/
noncomputable def jl (y : List Nat) : List (List Nat) → List Nat
  | [] => []
  | [p] => p
  | p :: q :: r => p ++ y ++ jl y (q :: r)
noncomputable def pos (n : Nat) : Nat → List (List Nat) → List Nat
  | _, [] => []
  | _, [_] => []
  | a, p :: q :: r => (a + p.length) :: pos n (a + p.length + n) (q :: r)
structure Sep (y : Str) (c o : Nat) : Prop where
  at' : y.cps.toList[o]? = some c
  one : ∀ j, y.cps.toList[j]? = some c → j = o
end My

/-! LOOPS; TEXTS AS LISTS OF SIGNS -/
namespace My
open DL PySem
theorem forD_nx {tg : FG} {body : FS} {d : D} {ds : List D} {δ δ1 δ2 : DSt} (h1 : tg.run d δ = some δ1) (h2 : body δ1 = some (.nx δ2)) : forD tg body (d :: ds) δ = forD tg body ds δ2 := by
  show (tg.run d δ).bind _ = _
  rw [h1, Option.bind_some, h2, Option.bind_some]
theorem forD_rt {tg : FG} {body : FS} {d : D} {ds : List D} {δ δ1 : DSt} {sv : SV} (h1 : tg.run d δ = some δ1) (h2 : body δ1 = some (.rt sv)) : forD tg body (d :: ds) δ = some (.rt sv) := by
  show (tg.run d δ).bind _ = _
  rw [h1, Option.bind_some, h2, Option.bind_some]
theorem whileD_go {t : FT} {b : FS} {n : Nat} {δ δ1 δ2 : DSt} (h1 : t δ = some (true, δ1)) (h2 : b δ1 = some (.nx δ2)) : whileD t b (n + 1) δ = whileD t b n δ2 := by
  show (t δ).bind _ = _
  rw [h1, Option.bind_some]
  show (if true = true then (b δ1).bind _ else _) = _
  rw [if_pos rfl, h2, Option.bind_some]
theorem whileD_end {t : FT} {b : FS} {n : Nat} {δ δ1 : DSt} (h1 : t δ = some (false, δ1)) : whileD t b (n + 1) δ = some (.nx δ1) := by
  show (t δ).bind _ = _
  rw [h1, Option.bind_some]
  rfl
/-! texts as lists -/
noncomputable abbrev S (l : List Nat) : Str := ⟨l.toArray⟩
theorem S_len (l : List Nat) : (S l).length = l.length := by show l.toArray.size = _; simp
theorem S_app (a b : List Nat) : S a ++ S b = S (a ++ b) := by
  show (⟨a.toArray ++ b.toArray⟩ : Str) = ⟨(a ++ b).toArray⟩
  simp
theorem S_inj {a b : List Nat} (h : S a = S b) : a = b := by
  have : a.toArray = b.toArray := congrArg Str.cps h
  simpa using this
theorem S_list (l : List Nat) : (S l).cps.toList = l := by simp
theorem at_last {α : Type} (p : List α) (c : α) : L2.atI (p ++ [c]) (-1) = some c := by
  unfold L2.atI L2.ixN
  rw [List.length_append, List.length_singleton, if_neg (by decide), if_pos (by omega)]
  have e : (-1 + ((p.length + 1 : Nat) : Int)).toNat = p.length := by omega
  rw [e]
  simp
theorem at_nat {α : Type} (p : List α) (i : Nat) (c : α) (h : p[i]? = some c) : L2.atI p (i : Int) = some c := by
  have hl := (List.getElem?_eq_some_iff.mp h).1
  unfold L2.atI L2.ixN
  rw [if_pos (by omega), if_pos (by omega)]
  simpa using h
/-! dicts -/
section
variable {κ : Type} [DecidableEq κ]
theorem look_map (k k' : κ) (v : D) : ∀ (ks : List κ) (vs : List D), k ∈ ks → ks.length = vs.length → look ks ((ks.zip vs).map fun p => if p.1 = k then v else p.2) k' = if k = k' then some v else look ks vs k'
  | a :: ks, u :: vs, hk, hl => by
    rw [List.zip_cons_cons, List.map_cons]
    show (if a = k' then some (if a = k then v else u) else look ks ((ks.zip vs).map fun p => if p.1 = k then v else p.2) k') = if k = k' then some v else (if a = k' then some u else look ks vs k')
    by_cases ha : a = k'
    · subst ha
      rw [if_pos rfl, if_pos rfl]
      by_cases hk2 : a = k
      · subst hk2; rw [if_pos rfl, if_pos rfl]
      · rw [if_neg hk2, if_neg fun e => hk2 e.symm]
    · rw [if_neg ha, if_neg ha]
      by_cases hm : k ∈ ks
      · exact look_map k k' v ks vs hm (by simpa using hl)
      · have hak : k = a := by
          rcases List.mem_cons.mp hk with e | e
          · exact e
          · exact absurd e hm
        rw [if_neg fun e => ha (hak.symm.trans e)]
        have : ((ks.zip vs).map fun p => if p.1 = k then v else p.2) = vs := by
          have hl' : ks.length = vs.length := by simpa using hl
          clear hk hl ha
          induction ks generalizing vs with
          | nil => cases vs with
            | nil => rfl
            | cons _ _ => simp at hl'
          | cons b ks ih => cases vs with
            | nil => simp at hl'
            | cons w vs =>
              rw [List.zip_cons_cons, List.map_cons, if_neg fun e => hm (by rw [← e]; exact List.mem_cons_self), ih vs (fun h => hm (List.mem_cons_of_mem _ h)) (by simpa using hl')]
        rw [this]
  | [], _, hk, _ => nomatch hk
theorem look_snoc (k k' : κ) (v : D) : ∀ (ks : List κ) (vs : List D), k ∉ ks → ks.length = vs.length → look (ks ++ [k]) (vs ++ [v]) k' = if k = k' then some v else look ks vs k'
  | [], [], _, _ => by show (if k = k' then some v else none) = _; rfl
  | a :: ks, u :: vs, hk, hl => by
    show (if a = k' then some u else look (ks ++ [k]) (vs ++ [v]) k') = if k = k' then some v else (if a = k' then some u else look ks vs k')
    by_cases ha : a = k'
    · rw [if_pos ha, if_pos ha, if_neg fun e => hk (by rw [e, ← ha]; exact List.mem_cons_self)]
    · rw [if_neg ha, if_neg ha]
      exact look_snoc k k' v ks vs (fun h => hk (List.mem_cons_of_mem _ h)) (by simpa using hl)
theorem look_put (k k' : κ) (v : D) (ks : List κ) (vs : List D) (hl : ks.length = vs.length) : look (putA ks vs k v).1 (putA ks vs k v).2 k' = if k = k' then some v else look ks vs k' := by
  unfold putA
  split
  · rename_i h; exact look_map k k' v ks vs h hl
  · rename_i h; exact look_snoc k k' v ks vs h hl
theorem put_len (k : κ) (v : D) (ks : List κ) (vs : List D) (hl : ks.length = vs.length) : (putA ks vs k v).1.length = (putA ks vs k v).2.length ∧ (putA ks vs k v).2.length ≤ vs.length + 1 := by
  unfold putA
  split
  · simp [hl]
  · simp [hl]
end
end My

/-! RANGES, LISTS OF TEXTS -/
namespace My
open DL PySem
noncomputable abbrev nats (s n : Nat) : List D := (List.range' s n).map fun i : Nat => D.int (i : Int)
theorem ints_nats (n : Nat) : intsD 0 n = nats 0 n := by
  unfold intsD
  rw [List.range_eq_range']
  refine List.map_congr_left fun i _ => ?_
  simp
theorem forD_nats {tg : FG} {body : FS} {P : Nat → DSt → Prop} : ∀ (n s : Nat) (δ : DSt), P s δ → (∀ i, s ≤ i → i < s + n → ∀ δ, P i δ → ∃ δ1 δ2, tg.run (.int (i : Int)) δ = some δ1 ∧ body δ1 = some (.nx δ2) ∧ P (i + 1) δ2) →
    ∃ δ', forD tg body (nats s n) δ = some (.nx δ') ∧ P (s + n) δ'
  | 0, s, δ, h, _ => ⟨δ, rfl, h⟩
  | n + 1, s, δ, h, k => by
    obtain ⟨δ1, δ2, h1, h2, h3⟩ := k s (Nat.le_refl _) (by omega) δ h
    obtain ⟨δ', e, h'⟩ := forD_nats (tg := tg) (body := body) (P := P) n (s + 1) δ2 h3 fun i hi hj => k i (by omega) (by omega)
    refine ⟨δ', ?_, by rw [show s + (n + 1) = s + 1 + n by omega]; exact h'⟩
    show forD tg body (.int (s : Int) :: nats (s + 1) n) δ = _
    rw [forD_nx h1 h2]; exact e
noncomputable def enumF (i : Nat) : List D → List D
  | [] => []
  | x :: r => .tup [.int (i : Int), x] :: enumF (i + 1) r
theorem enum_F (xs : List D) : ∀ i : Nat, ((xs.zipIdx i).map fun p : D × Nat => D.tup [.int (p.2 : Nat), p.1]) = enumF i xs := by
  induction xs with
  | nil => intro i; rfl
  | cons x r ih => intro i; rw [List.zipIdx_cons, List.map_cons, ih]; rfl
theorem enumL_F (xs : List D) : enumL xs = enumF 0 xs := enum_F xs 0
theorem at_mod {α : Type} (l : List α) (x n : Int) (hl : (l.length : Int) = n) (hn : 0 < n) : ∃ c, c ∈ l ∧ L2.atI l (x % n) = some c := by
  have h0 : 0 ≤ x % n := Int.emod_nonneg _ (by omega)
  have h1 : x % n < n := Int.emod_lt_of_pos _ hn
  obtain ⟨j, hj⟩ := Int.eq_ofNat_of_zero_le h0
  have hjl : j < l.length := by omega
  rw [hj]
  exact ⟨l[j], List.getElem_mem hjl, at_nat _ _ _ (List.getElem?_eq_getElem hjl)⟩
end My

/-! CUT AT THE FIRST PLACE; JOINED TEXTS -/
namespace My
open DL PySem StrLaws Builtin.Str
end My

/-! DICTS WITH TEXTS AS KEYS -/
namespace My
open DL PySem
noncomputable abbrev inrs (xs : List Str) : List L2.Key := xs.map Sum.inr
theorem look_inr (k : Str) : ∀ (xs : List Str) (vs : List D), look (inrs xs) vs (Sum.inr k) = look xs vs k
  | [], [] => rfl
  | [], _ :: _ => rfl
  | _ :: _, [] => rfl
  | x :: xs, v :: vs => by
    show (if (Sum.inr x : L2.Key) = Sum.inr k then some v else look (inrs xs) vs (Sum.inr k)) = if x = k then some v else look xs vs k
    rw [look_inr k xs vs]
    by_cases h : x = k
    · rw [if_pos h, if_pos (by rw [h])]
    · rw [if_neg h, if_neg fun e => h (Sum.inr.inj e)]
theorem putA_inr (k : Str) (v : D) (xs : List Str) (vs : List D) : putA (inrs xs) vs (Sum.inr k) v = (inrs (putA xs vs k v).1, (putA xs vs k v).2) := by
  have hm : ((Sum.inr k : L2.Key) ∈ inrs xs) ↔ k ∈ xs := by
    constructor
    · intro h
      obtain ⟨y, hy, e⟩ := List.mem_map.mp h
      rw [← Sum.inr.inj e]; exact hy
    · exact fun h => List.mem_map.mpr ⟨k, h, rfl⟩
  unfold putA
  by_cases h : k ∈ xs
  · rw [if_pos h, if_pos (hm.mpr h)]
    congr 1
    have : ∀ (xs : List Str) (vs : List D), ((inrs xs).zip vs).map (fun p => if p.1 = (Sum.inr k : L2.Key) then v else p.2) = (xs.zip vs).map fun p => if p.1 = k then v else p.2 := by
      intro xs
      induction xs with
      | nil => intro vs; rfl
      | cons x xs ih =>
        intro vs
        cases vs with
        | nil => rfl
        | cons u vs =>
          show (if (Sum.inr x : L2.Key) = Sum.inr k then v else u) :: ((inrs xs).zip vs).map (fun p => if p.1 = (Sum.inr k : L2.Key) then v else p.2) = (if x = k then v else u) :: (xs.zip vs).map fun p => if p.1 = k then v else p.2
          rw [ih vs]
          by_cases hx : x = k
          · rw [if_pos hx, if_pos (by rw [hx])]
          · rw [if_neg hx, if_neg fun e => hx (Sum.inr.inj e)]
    exact this xs vs
  · rw [if_neg h, if_neg fun e => h (hm.mp e)]
    simp [inrs]
theorem putA_new {k : Str} {v : D} {xs : List Str} {vs : List D} (h : k ∉ xs) : putA xs vs k v = (xs ++ [k], vs ++ [v]) := by
  unfold putA; rw [if_neg h]
theorem putA_nodup (k : Str) (v : D) (xs : List Str) (vs : List D) (h : xs.Nodup) : (putA xs vs k v).1.Nodup := by
  unfold putA
  split
  · exact h
  · rename_i hk
    exact List.nodup_append.mpr ⟨h, by simp, fun a ha b hb e => hk (by rw [List.mem_singleton.mp hb] at e; rw [← e]; exact ha)⟩
theorem putA_vals (k : Str) (v : D) (xs : List Str) (vs : List D) : ∀ u ∈ (putA xs vs k v).2, u = v ∨ u ∈ vs := by
  intro u hu
  unfold putA at hu
  split at hu
  · obtain ⟨p, hp, e⟩ := List.mem_map.mp hu
    split at e
    · exact .inl e.symm
    · exact .inr (by rw [← e]; exact (List.of_mem_zip hp).2)
  · rcases List.mem_append.mp hu with h | h
    · exact .inr h
    · exact .inl (List.mem_singleton.mp h)
structure Dic (xs : List Str) (vs : List D) : Prop where
  nd : xs.Nodup
  len : xs.length = vs.length
theorem Dic.nil : Dic [] [] := ⟨List.nodup_nil, rfl⟩
theorem Dic.put {xs : List Str} {vs : List D} (h : Dic xs vs) (k : Str) (v : D) : Dic (putA xs vs k v).1 (putA xs vs k v).2 := ⟨putA_nodup k v xs vs h.nd, (put_len k v xs vs h.len).1⟩
theorem look_get {xs : List Str} : ∀ {vs : List D}, xs.Nodup → xs.length = vs.length → ∀ (i : Nat) (x : Str) (v : D), xs[i]? = some x → vs[i]? = some v → look xs vs x = some v := by
  induction xs with
  | nil => intro vs _ _ i x v h; simp at h
  | cons y xs ih =>
    intro vs nd hl i x v hx hv
    cases vs with
    | nil => simp at hv
    | cons u vs =>
      obtain ⟨n1, n2⟩ := List.nodup_cons.mp nd
      show (if y = x then some u else look xs vs x) = some v
      cases i with
      | zero =>
        simp at hx hv
        rw [if_pos hx, hv]
      | succ i =>
        simp at hx hv
        have hm := List.mem_of_getElem? hx
        rw [if_neg fun e => n1 (by rw [e]; exact hm)]
        exact ih n2 (by simpa using hl) i x v hx hv
theorem look_none {xs : List Str} : ∀ {vs : List D} {x : Str}, x ∉ xs → look xs vs x = none := by
  induction xs with
  | nil => intro vs x _; cases vs <;> rfl
  | cons y xs ih =>
    intro vs x h
    cases vs with
    | nil => rfl
    | cons u vs =>
      show (if y = x then some u else look xs vs x) = none
      rw [if_neg fun e => h (by rw [e]; exact List.mem_cons_self)]
      exact ih fun hm => h (List.mem_cons_of_mem _ hm)
theorem look_val {xs : List Str} : ∀ {vs : List D} {x : Str} {v : D}, look xs vs x = some v → v ∈ vs := by
  induction xs with
  | nil => intro vs x v h; cases vs <;> cases h
  | cons y xs ih =>
    intro vs x v h
    cases vs with
    | nil => cases h
    | cons u vs =>
      have h : (if y = x then some u else look xs vs x) = some v := h
      split at h
      · cases h; exact List.mem_cons_self
      · exact List.mem_cons_of_mem _ (ih h)
end My

noncomputable section
namespace Gen
open PySem PySem.Spec PyProof.Rows L2 DL
/-! the text by places -/
noncomputable def top (i : Nat) : Stmt := PySem.Challenge.pw_citeward_k11_whole_fields_follow.main.body.getD i (.Pass ⟨0, 0, 0, 0⟩)
noncomputable abbrev FUEL : Nat := 1000
noncomputable abbrev st_law_names : Stmt := top 11
noncomputable abbrev st_law_numbers : Stmt := top 12
noncomputable abbrev st_law_table : Stmt := top 13
noncomputable abbrev st_law_cell_at : Stmt := top 9
noncomputable abbrev st_law_shelf : Stmt := top 14
noncomputable abbrev st_other_field : Stmt := top 6
noncomputable abbrev st_pair_behind : Stmt := top 5
noncomputable abbrev st_way : Stmt := top 4
noncomputable abbrev st_had : Stmt := top 7
noncomputable abbrev st_law_all : Stmt := top 15
noncomputable abbrev st_law_ends : Stmt := top 16
noncomputable abbrev st_law_mixed : Stmt := top 10
noncomputable abbrev st_law_put : Stmt := top 17
noncomputable abbrev st_law : Stmt := top 18
/-! what each def tells -/
noncomputable def b_law_names_1 : FS :=
  seqF (setF 9 (binF mulZ (nameF 6) (primF intD (argCons (binF eqY (nameF 8) (nameF 4)) argNil)))) (setF 7 (binF addD (nameF 7) (binF ixX (nameF 2) (binF modD (binF addD (binF fdivD (nameF 0) (binF addD (nameF 8) (constF (.int 2)))) (nameF 9)) (constF (.int 22))))))
noncomputable def b_law_names_2 : FS :=
  seqF (setF 7 (constF (.str ""))) (seqF (forF (rngI (argCons (nameF 3) argNil)) (gNameF 8) b_law_names_1) (appF 5 (nameF 7)))
noncomputable def f_law_names : FS :=
  seqF (setF 2 (constF (.str "abcdefghjlmpqrstuvwxyz"))) (seqF (setF 3 (binF addD (constF (.int 1)) (binF modD (nameF 0) (constF (.int 8))))) (seqF (setF 4 (binF modD (binF fdivD (nameF 0) (constF (.int 8))) (nameF 3))) (seqF (setF 5 (lstF (dispNil))) (seqF (forF (rngI (argCons (nameF 1) argNil)) (gNameF 6) b_law_names_2) (retF (nameF 5))))))
noncomputable def g_law_names : List D → Option SV := outOf f_law_names 10
noncomputable def b_law_numbers_1 : FS :=
  seqF (appF 2 (binF modD (nameF 3) (constF (.int 5040)))) (setF 3 (binF fdivD (nameF 3) (constF (.int 5040))))
noncomputable def b_law_numbers_2 : FS :=
  seqF (setF 3 (binF modD (binF mulZ (binF addD (binF addD (nameF 3) (nameF 4)) (constF (.int 1))) (constF (.int 48271))) (constF (.int 2147483647)))) (appF 2 (binF modD (binF mulZ (nameF 3) (constF (.int 69621))) (constF (.int 2147483629))))
noncomputable def f_law_numbers : FS :=
  seqF (setF 2 (lstF (dispNil))) (seqF (setF 3 (binF fdivD (nameF 0) (constF (.int 2)))) (seqF (ifS (testF (binF eqY (binF modD (nameF 0) (constF (.int 2))) (constF (.int 1)))) (seqF (forF (rngI (argCons (nameF 1) argNil)) (gNameF 4) b_law_numbers_1) (retF (nameF 2))) (nextF)) (seqF (setF 3 (binF modD (nameF 3) (constF (.int 2147483647)))) (seqF (forF (rngI (argCons (nameF 1) argNil)) (gNameF 4) b_law_numbers_2) (retF (nameF 2))))))
noncomputable def g_law_numbers : List D → Option SV := outOf f_law_numbers 5
noncomputable def b_law_table_1 : FS :=
  appF 3 (tupF (dispCons (binF ixX (nameF 1) (binF modD (binF ixX (nameF 2) (binF addD (constF (.int 1)) (binF mulZ (constF (.int 2)) (nameF 4)))) (constF (.int 4)))) (dispCons (binF ixX (nameF 1) (binF modD (binF ixX (nameF 2) (binF addD (constF (.int 2)) (binF mulZ (constF (.int 2)) (nameF 4)))) (constF (.int 4)))) (dispNil))))
noncomputable def f_law_table : FS :=
  seqF (setF 2 (callF 2 g_law_numbers (argCons (nameF 0) (argCons (constF (.int 13)) (argNil))))) (seqF (setF 3 (lstF (dispNil))) (seqF (forF (rngI (argCons (binF addD (constF (.int 2)) (binF modD (binF ixX (nameF 2) (constF (.int 0))) (constF (.int 5)))) argNil)) (gNameF 4) b_law_table_1) (retF (disp1F "book" 3))))
noncomputable def g_law_table : List D → Option SV := outOf f_law_table 5
noncomputable def f_law_cell_at : FS :=
  seqF (ifS (testF (binF ltD (nameF 1) (primF lenD (argCons (nameF 0) argNil)))) (retF (binF ixX (nameF 0) (nameF 1))) (nextF)) (retF (constF (.int 0)))
noncomputable def g_law_cell_at : List D → Option SV := outOf f_law_cell_at 2
noncomputable def b_law_shelf_1 : FS :=
  ifS (testF (binF eqY (binF modD (binF ixX (nameF 6) (nameF 8)) (constF (.int 4))) (constF (.int 1)))) (putF 7 (nameF 9) (binF addD (binF addD (nameF 5) (constF (.str " "))) (nameF 9))) (nextF)
noncomputable def b_law_shelf_2 : FS :=
  seqF (setF 6 (callF 2 g_law_numbers (argCons (callF 2 g_law_cell_at (argCons (nameF 0) (argCons (binF addD (constF (.int 3)) (nameF 4)) (argNil)))) (argCons (constF (.int 7)) (argNil))))) (seqF (setF 7 (dnewK)) (seqF (forF (enumXI (dispCons (nameF 2) dispNil)) (gTupF 2 (gConsF (gNameF 8) (gConsF (gNameF 9) (gNilF)))) b_law_shelf_1) (seqF (ifS (andF (testF (binF gtD (nameF 4) (constF (.int 0)))) (testF (binF gtD (binF modD (binF ixX (nameF 6) (constF (.int 4))) (constF (.int 8))) (constF (.int 0))))) (putF 7 (constF (.str "in")) (binF ixX (nameF 1) (binF ixX (lstF (dispCons (binF subD (nameF 4) (constF (.int 1))) (dispCons (binF modD (binF ixX (nameF 6) (constF (.int 5))) (nameF 4)) (dispNil)))) (binF modD (binF ixX (nameF 6) (constF (.int 6))) (constF (.int 2)))))) (nextF)) (putF 3 (nameF 5) (tupF (dispCons (constF (.str "book")) (dispCons (nameF 7) (dispNil))))))))
noncomputable def f_law_shelf : FS :=
  seqF (setF 3 (dnewK)) (seqF (forF (enumXI (dispCons (nameF 1) dispNil)) (gTupF 2 (gConsF (gNameF 4) (gConsF (gNameF 5) (gNilF)))) b_law_shelf_2) (retF (nameF 3)))
noncomputable def g_law_shelf : List D → Option SV := outOf f_law_shelf 10
noncomputable def b_other_field_1 : FS :=
  ifS (testF (binF eqY (binF ixX (nameF 3) (constF (.int 0))) (nameF 2))) (retF (binF ixX (nameF 3) (constF (.int 1)))) (nextF)
noncomputable def f_other_field : FS :=
  seqF (forF (anyI (bmDF "dict" dgetMD (nameF 0) (dispCons (nameF 1) (dispCons (lstF (dispNil)) (dispNil))))) (gNameF 3) b_other_field_1) (retF (constF .non))
noncomputable def g_other_field : List D → Option SV := outOf f_other_field 4
noncomputable def f_pair_behind : FS :=
  seqF (setF 3 (binF ixX (nameF 0) (binF ixX (nameF 2) (constF (.int 0))))) (seqF (setF 4 (binF ixX (nameF 3) (constF (.int 1)))) (seqF (ifS (testF (binF inZ (binF ixX (nameF 2) (constF (.int 1))) (nameF 4))) (retF (constF .non)) (nextF)) (seqF (setF 5 (callF 3 g_other_field (argCons (nameF 1) (argCons (binF ixX (nameF 3) (constF (.int 0))) (argCons (binF ixX (nameF 2) (constF (.int 1))) (argNil)))))) (seqF (setF 6 (bmDF "dict" dgetMD (nameF 4) (dispCons (constF (.str "in")) (dispNil)))) (seqF (ifS (orF (testF (binF isND (nameF 5) (constF .non))) (orF (testF (binF isND (nameF 6) (constF .non))) (testF (binF notinZ (nameF 6) (nameF 0))))) (retF (constF .non)) (nextF)) (retF (tupF (dispCons (nameF 6) (dispCons (nameF 5) (dispNil))))))))))
noncomputable def g_pair_behind : List D → Option SV := outOf f_pair_behind 7
noncomputable def t_way_1 : FT :=
  testF (binF notND (nameF 6) (constF .non))
noncomputable def b_way_2 : FS :=
  seqF (ifS (testF (binF inZ (nameF 6) (nameF 5))) (stuckF) (nextF)) (seqF (putF 5 (nameF 6) (primF lenD (argCons (nameF 4) argNil))) (seqF (appF 4 (nameF 6)) (setF 6 (callF 3 g_pair_behind (argCons (nameF 0) (argCons (nameF 1) (argCons (nameF 6) (argNil))))))))
noncomputable def f_way : FS :=
  seqF (setF 4 (lstF (dispNil))) (seqF (setF 5 (dnewT)) (seqF (setF 6 (tupF (dispCons (nameF 2) (dispCons (nameF 3) (dispNil))))) (seqF (whileD t_way_1 b_way_2 FUEL) (retF (nameF 4)))))
noncomputable def g_way : List D → Option SV := outOf f_way 7
noncomputable def f_had : FS :=
  seqF (setF 4 (binF ixX (callF 4 g_way (argCons (nameF 0) (argCons (nameF 1) (argCons (nameF 2) (argCons (nameF 3) (argNil)))))) (unF negD (constF (.int 1))))) (retF (bmDF "dict" dgetMD (binF ixX (binF ixX (nameF 0) (binF ixX (nameF 4) (constF (.int 0)))) (constF (.int 1))) (dispCons (binF ixX (nameF 4) (constF (.int 1))) (dispNil))))
noncomputable def g_had : List D → Option SV := outOf f_had 5
noncomputable def b_law_all_1 : FS :=
  putF 4 (tupF (dispCons (nameF 5) (dispCons (nameF 6) (dispNil)))) (callF 4 g_had (argCons (nameF 0) (argCons (nameF 1) (argCons (nameF 5) (argCons (nameF 6) (argNil))))))
noncomputable def b_law_all_2 : FS :=
  forF (anyI (nameF 3)) (gNameF 6) b_law_all_1
noncomputable def f_law_all : FS :=
  seqF (setF 4 (dnewT)) (seqF (forF (anyI (nameF 2)) (gNameF 5) b_law_all_2) (retF (nameF 4)))
noncomputable def g_law_all : List D → Option SV := outOf f_law_all 7
noncomputable def b_law_ends_1 : FS :=
  putF 4 (tupF (dispCons (nameF 5) (dispCons (nameF 6) (dispNil)))) (binF ixX (callF 4 g_way (argCons (nameF 0) (argCons (nameF 1) (argCons (nameF 5) (argCons (nameF 6) (argNil)))))) (unF negD (constF (.int 1))))
noncomputable def b_law_ends_2 : FS :=
  forF (anyI (nameF 3)) (gNameF 6) b_law_ends_1
noncomputable def f_law_ends : FS :=
  seqF (setF 4 (dnewT)) (seqF (forF (anyI (nameF 2)) (gNameF 5) b_law_ends_2) (retF (nameF 4)))
noncomputable def g_law_ends : List D → Option SV := outOf f_law_ends 7
noncomputable def f_law_mixed : FS :=
  retF (binF modD (binF mulZ (binF modD (nameF 0) (constF (.int 2147483647))) (nameF 1)) (constF (.int 2147483647)))
noncomputable def g_law_mixed : List D → Option SV := outOf f_law_mixed 2
noncomputable def f_law_put : FS :=
  seqF (setF 4 (primF dictD (argCons (nameF 0) argNil))) (seqF (setF 5 (primF dictD (argCons (binF ixX (binF ixX (nameF 0) (nameF 1)) (constF (.int 1))) argNil))) (seqF (putF 5 (nameF 2) (nameF 3)) (seqF (ifS (testF (binF isND (nameF 3) (constF .non))) (popF 5 (nameF 2)) (nextF)) (seqF (putF 4 (nameF 1) (tupF (dispCons (binF ixX (binF ixX (nameF 0) (nameF 1)) (constF (.int 0))) (dispCons (nameF 5) (dispNil))))) (retF (nameF 4))))))
noncomputable def g_law_put : List D → Option SV := outOf f_law_put 6
noncomputable def b_law_1 : FS :=
  seqF (setF 15 (binF ixX (nameF 5) (nameF 14))) (seqF (ifS (testF (binF eqY (binF ixX (nameF 6) (nameF 14)) (tupF (dispCons (nameF 11) (dispCons (nameF 12) (dispNil)))))) (setF 15 (constF (.str "Other text"))) (nextF)) (ifS (testF (binF neY (binF ixX (nameF 13) (nameF 14)) (nameF 15))) (retF (constF (.bl false))) (nextF)))
noncomputable def b_law_2 : FS :=
  ifS (testF (binF neY (callF 4 g_had (argCons (nameF 16) (argCons (nameF 3) (argCons (nameF 9) (argCons (nameF 17) (argNil)))))) (bmDF "dict" dgetMD (binF ixX (binF ixX (nameF 4) (nameF 9)) (constF (.int 1))) (dispCons (nameF 17) (dispNil))))) (retF (constF (.bl false))) (nextF)
noncomputable def b_law_3 : FS :=
  seqF (setF 8 (callF 2 g_law_numbers (argCons (nameF 7) (argCons (constF (.int 3)) (argNil))))) (seqF (setF 9 (binF ixX (nameF 1) (binF modD (binF ixX (nameF 8) (constF (.int 0))) (primF lenD (argCons (nameF 1) argNil))))) (seqF (setF 10 (binF ixX (nameF 2) (binF modD (binF ixX (nameF 8) (constF (.int 1))) (constF (.int 4))))) (seqF (unpackF (gTupF 2 (gConsF (gNameF 11) (gConsF (gNameF 12) (gNilF)))) (binF ixX (nameF 6) (tupF (dispCons (nameF 9) (dispCons (nameF 10) (dispNil)))))) (seqF (ifS (testF (binF neY (binF ixX (nameF 5) (tupF (dispCons (nameF 9) (dispCons (nameF 10) (dispNil))))) (bmDF "dict" dgetMD (binF ixX (binF ixX (nameF 4) (nameF 11)) (constF (.int 1))) (dispCons (nameF 12) (dispNil))))) (retF (constF (.bl false))) (nextF)) (ifS (andF (testF (binF eqY (binF modD (binF ixX (nameF 8) (constF (.int 2))) (constF (.int 3))) (constF (.int 0)))) (testF (binF notND (binF ixX (nameF 5) (tupF (dispCons (nameF 9) (dispCons (nameF 10) (dispNil))))) (constF .non)))) (seqF (setF 13 (callF 4 g_law_all (argCons (callF 4 g_law_put (argCons (nameF 4) (argCons (nameF 11) (argCons (nameF 12) (argCons (constF (.str "Other text")) (argNil)))))) (argCons (nameF 3) (argCons (nameF 1) (argCons (nameF 2) (argNil))))))) (forF (dicI (nameF 5)) (gNameF 14) b_law_1)) (ifS (testF (binF eqY (binF modD (binF ixX (nameF 8) (constF (.int 2))) (constF (.int 3))) (constF (.int 1)))) (ifS (testF (binF neY (callF 4 g_had (argCons (callF 4 g_law_put (argCons (nameF 4) (argCons (nameF 9) (argCons (nameF 10) (argCons (constF (.str "its own")) (argNil)))))) (argCons (nameF 3) (argCons (nameF 9) (argCons (nameF 10) (argNil)))))) (constF (.str "its own")))) (retF (constF (.bl false))) (nextF)) (ifS (testF (binF inZ (constF (.str "in")) (binF ixX (binF ixX (nameF 4) (nameF 9)) (constF (.int 1))))) (seqF (setF 16 (callF 4 g_law_put (argCons (nameF 4) (argCons (nameF 9) (argCons (constF (.str "in")) (argCons (constF .non) (argNil))))))) (forF (anyI (nameF 2)) (gNameF 17) b_law_2)) (nextF))))))))
noncomputable def f_law : FS :=
  seqF (setF 1 (callF 2 g_law_names (argCons (callF 2 g_law_mixed (argCons (callF 2 g_law_cell_at (argCons (nameF 0) (argCons (constF (.int 0)) (argNil)))) (argCons (constF (.int 16807)) (argNil)))) (argCons (binF addD (constF (.int 2)) (binF modD (callF 2 g_law_cell_at (argCons (nameF 0) (argCons (constF (.int 0)) (argNil)))) (constF (.int 5)))) (argNil))))) (seqF (setF 2 (callF 2 g_law_names (argCons (callF 2 g_law_mixed (argCons (callF 2 g_law_cell_at (argCons (nameF 0) (argCons (constF (.int 1)) (argNil)))) (argCons (constF (.int 16807)) (argNil)))) (argCons (constF (.int 4)) (argNil))))) (seqF (setF 3 (callF 2 g_law_table (argCons (callF 2 g_law_cell_at (argCons (nameF 0) (argCons (constF (.int 2)) (argNil)))) (argCons (nameF 2) (argNil))))) (seqF (setF 4 (callF 3 g_law_shelf (argCons (nameF 0) (argCons (nameF 1) (argCons (nameF 2) (argNil)))))) (seqF (setF 5 (callF 4 g_law_all (argCons (nameF 4) (argCons (nameF 3) (argCons (nameF 1) (argCons (nameF 2) (argNil))))))) (seqF (setF 6 (callF 4 g_law_ends (argCons (nameF 4) (argCons (nameF 3) (argCons (nameF 1) (argCons (nameF 2) (argNil))))))) (seqF (forF (anyI (binF addD (lstF (dispCons (callF 2 g_law_cell_at (argCons (nameF 0) (argCons (constF (.int 9)) (argNil)))) (dispNil))) (slF slD (nameF 0) (partF (constF (.int 10))) (partF (constF (.int 18)))))) (gNameF 7) b_law_3) (retF (binF eqTD (callF 4 g_law_all (argCons (nameF 4) (argCons (nameF 3) (argCons (nameF 1) (argCons (nameF 2) (argNil)))))) (nameF 5)))))))))
noncomputable def g_law : List D → Option SV := outOf f_law 18
end Gen

namespace Gen
open PySem PySem.Spec PyProof.Rows L2 DL
structure Txt (K : PySem.W.Frag) (mg : Str → Option Value) (flaw_names flaw_numbers flaw_table flaw_cell_at flaw_shelf fother_field fpair_behind fway fhad flaw_all flaw_ends flaw_mixed flaw_put flaw : Addr) : Prop where
  z_dict : mg "dict" = none
  z_enumerate : mg "enumerate" = none
  z_int : mg "int" = none
  z_len : mg "len" = none
  z_range : mg "range" = none
  m_law_names : mg "_law_names" = some (.ref flaw_names)
  k_law_names : PySem.W.keepIn K (.ref flaw_names) = true
  m_law_numbers : mg "_law_numbers" = some (.ref flaw_numbers)
  k_law_numbers : PySem.W.keepIn K (.ref flaw_numbers) = true
  m_law_table : mg "_law_table" = some (.ref flaw_table)
  k_law_table : PySem.W.keepIn K (.ref flaw_table) = true
  m_law_cell_at : mg "_law_cell_at" = some (.ref flaw_cell_at)
  k_law_cell_at : PySem.W.keepIn K (.ref flaw_cell_at) = true
  m_law_shelf : mg "_law_shelf" = some (.ref flaw_shelf)
  k_law_shelf : PySem.W.keepIn K (.ref flaw_shelf) = true
  m_other_field : mg "other_field" = some (.ref fother_field)
  k_other_field : PySem.W.keepIn K (.ref fother_field) = true
  m_pair_behind : mg "pair_behind" = some (.ref fpair_behind)
  k_pair_behind : PySem.W.keepIn K (.ref fpair_behind) = true
  m_way : mg "way" = some (.ref fway)
  k_way : PySem.W.keepIn K (.ref fway) = true
  m_had : mg "had" = some (.ref fhad)
  k_had : PySem.W.keepIn K (.ref fhad) = true
  m_law_all : mg "_law_all" = some (.ref flaw_all)
  k_law_all : PySem.W.keepIn K (.ref flaw_all) = true
  m_law_ends : mg "_law_ends" = some (.ref flaw_ends)
  k_law_ends : PySem.W.keepIn K (.ref flaw_ends) = true
  m_law_mixed : mg "_law_mixed" = some (.ref flaw_mixed)
  k_law_mixed : PySem.W.keepIn K (.ref flaw_mixed) = true
  m_law_put : mg "_law_put" = some (.ref flaw_put)
  k_law_put : PySem.W.keepIn K (.ref flaw_put) = true
  m_law : mg "law" = some (.ref flaw)
  k_law : PySem.W.keepIn K (.ref flaw) = true
section
variable {P : Program} {w : World} {K : PySem.W.Frag} {mg : Str → Option Value} {base : Heap} {flaw_names flaw_numbers flaw_table flaw_cell_at flaw_shelf fother_field fpair_behind fway fhad flaw_all flaw_ends flaw_mixed flaw_put flaw : Addr}
theorem sc_law_names : FnScope ["_law_number", "_law_many", "_law_letters", "_law_size", "_law_at", "_law_names_here", "_law_turn", "_law_name", "_law_k", "_law_step"] ["_law_number", "_law_many"] (defScope st_law_names) := ⟨rfl, rfl, rfl, by decide +kernel, rfl, by decide +kernel, by decide +kernel⟩
theorem ok_law_names {fd : FuncData} (F : Fun K "_law_names" "_law_names" st_law_names flaw_names fd) (T : Txt K mg flaw_names flaw_numbers flaw_table flaw_cell_at flaw_shelf fother_field fpair_behind fway fhad flaw_all flaw_ends flaw_mixed flaw_put flaw) :
    FnOk P w K mg base CX0 1 flaw_names fd ["_law_number", "_law_many"] (spOf K 2 g_law_names) := by
  refine F.ok sc_law_names (fun vs H Q E h => spOf_len h) (fun cdv A outer s H vs Q E hr h => ?_)
  obtain ⟨F0, h⟩ := body_out (N := ["_law_number", "_law_many", "_law_letters", "_law_size", "_law_at", "_law_names_here", "_law_turn", "_law_name", "_law_k", "_law_step"]) (f := f_law_names) h
  have hu := hu_of hr
  have hv := hr.units
  refine ⟨liftS (ent H F0 : Ent K) f_law_names, ?_, h⟩
  exact (@ss_cons _ _ _ _ _ _ (@s_set _ _ _ _ _ 2 _ _ sc_law_names.nd e_str (by rfl) (by first | exact Or.inl rfl | exact Or.inr rfl) (by rfl) (by first | exact .inl rfl | exact .inr rfl)) (@ss_cons _ _ _ _ _ _ (@s_set _ _ _ _ _ 3 _ _ sc_law_names.nd (@e_add _ _ _ _ _ _ _ e_int (@e_mod _ _ _ _ _ _ _ (@e_var _ _ 0 _ _ (by rfl) (by first | exact Or.inl rfl | exact Or.inr (Or.inl rfl) | exact Or.inr (Or.inr rfl)) (by decide) (by decide)) e_int)) (by rfl) (by first | exact Or.inl rfl | exact Or.inr rfl) (by rfl) (by first | exact .inl rfl | exact .inr rfl)) (@ss_cons _ _ _ _ _ _ (@s_set _ _ _ _ _ 4 _ _ sc_law_names.nd (@e_mod _ _ _ _ _ _ _ (@e_fdiv _ _ _ _ _ _ _ (@e_var _ _ 0 _ _ (by rfl) (by first | exact Or.inl rfl | exact Or.inr (Or.inl rfl) | exact Or.inr (Or.inr rfl)) (by decide) (by decide)) e_int) (@e_var _ _ 3 _ _ (by rfl) (by first | exact Or.inl rfl | exact Or.inr (Or.inl rfl) | exact Or.inr (Or.inr rfl)) (by decide) (by decide))) (by rfl) (by first | exact Or.inl rfl | exact Or.inr rfl) (by rfl) (by first | exact .inl rfl | exact .inr rfl)) (@ss_cons _ _ _ _ _ _ (@s_set _ _ _ _ _ 5 _ _ sc_law_names.nd (@e_lst _ _ _ _ _ d_nil) (by rfl) (by first | exact Or.inl rfl | exact Or.inr rfl) (by rfl) (by first | exact .inl rfl | exact .inr rfl)) (@ss_cons _ _ _ _ _ _ (@s_for _ _ _ _ _ _ _ _ _ PassesOwn.never rfl (@i_rng _ _ _ _ _ _ _ T.z_range (@e_var _ _ 1 _ _ (by rfl) (by first | exact Or.inl rfl | exact Or.inr (Or.inl rfl) | exact Or.inr (Or.inr rfl)) (by decide) (by decide)) (by rfl) (by rfl)) (@g_name _ _ _ 6 _ sc_law_names.nd (by rfl) (by first | exact Or.inl rfl | exact Or.inr rfl) (by first | exact .inl rfl | exact .inr rfl)) (@ss_cons _ _ _ _ _ _ (@s_set _ _ _ _ _ 7 _ _ sc_law_names.nd e_str (by rfl) (by first | exact Or.inl rfl | exact Or.inr rfl) (by rfl) (by first | exact .inl rfl | exact .inr rfl)) (@ss_cons _ _ _ _ _ _ (@s_for _ _ _ _ _ _ _ _ _ PassesOwn.never rfl (@i_rng _ _ _ _ _ _ _ T.z_range (@e_var _ _ 3 _ _ (by rfl) (by first | exact Or.inl rfl | exact Or.inr (Or.inl rfl) | exact Or.inr (Or.inr rfl)) (by decide) (by decide)) (by rfl) (by rfl)) (@g_name _ _ _ 8 _ sc_law_names.nd (by rfl) (by first | exact Or.inl rfl | exact Or.inr rfl) (by first | exact .inl rfl | exact .inr rfl)) (@ss_cons _ _ _ _ _ _ (@s_set _ _ _ _ _ 9 _ _ sc_law_names.nd (@e_mulZ _ _ _ _ _ _ _ (@e_var _ _ 6 _ _ (by rfl) (by first | exact Or.inl rfl | exact Or.inr (Or.inl rfl) | exact Or.inr (Or.inr rfl)) (by decide) (by decide)) (@e_intC _ _ _ _ _ _ T.z_int (@e_eqY _ _ _ _ _ _ _ hv (@e_var _ _ 8 _ _ (by rfl) (by first | exact Or.inl rfl | exact Or.inr (Or.inl rfl) | exact Or.inr (Or.inr rfl)) (by decide) (by decide)) (@e_var _ _ 4 _ _ (by rfl) (by first | exact Or.inl rfl | exact Or.inr (Or.inl rfl) | exact Or.inr (Or.inr rfl)) (by decide) (by decide))) (by rfl) (by rfl) (by rfl))) (by rfl) (by first | exact Or.inl rfl | exact Or.inr rfl) (by rfl) (by first | exact .inl rfl | exact .inr rfl)) (@ss_one _ _ _ _ (@s_set _ _ _ _ _ 7 _ _ sc_law_names.nd (@e_add _ _ _ _ _ _ _ (@e_var _ _ 7 _ _ (by rfl) (by first | exact Or.inl rfl | exact Or.inr (Or.inl rfl) | exact Or.inr (Or.inr rfl)) (by decide) (by decide)) (@e_ixX _ _ _ _ _ _ _ hu (@e_var _ _ 2 _ _ (by rfl) (by first | exact Or.inl rfl | exact Or.inr (Or.inl rfl) | exact Or.inr (Or.inr rfl)) (by decide) (by decide)) (@e_mod _ _ _ _ _ _ _ (@e_add _ _ _ _ _ _ _ (@e_fdiv _ _ _ _ _ _ _ (@e_var _ _ 0 _ _ (by rfl) (by first | exact Or.inl rfl | exact Or.inr (Or.inl rfl) | exact Or.inr (Or.inr rfl)) (by decide) (by decide)) (@e_add _ _ _ _ _ _ _ (@e_var _ _ 8 _ _ (by rfl) (by first | exact Or.inl rfl | exact Or.inr (Or.inl rfl) | exact Or.inr (Or.inr rfl)) (by decide) (by decide)) e_int)) (@e_var _ _ 9 _ _ (by rfl) (by first | exact Or.inl rfl | exact Or.inr (Or.inl rfl) | exact Or.inr (Or.inr rfl)) (by decide) (by decide))) e_int) (by intro _ _; rfl))) (by rfl) (by first | exact Or.inl rfl | exact Or.inr rfl) (by rfl) (by first | exact .inl rfl | exact .inr rfl)))) (by intro _; rfl)) (@ss_one _ _ _ _ (@s_app _ _ _ _ _ 5 _ _ _ _ (@e_var _ _ 7 _ _ (by rfl) (by first | exact Or.inl rfl | exact Or.inr (Or.inl rfl) | exact Or.inr (Or.inr rfl)) (by decide) (by decide)) (by rfl) (by first | exact Or.inl rfl | exact Or.inr (Or.inl rfl) | exact Or.inr (Or.inr rfl)) (by decide) (by decide) (by rfl) (by rfl) (by rfl) (by rfl) (by rfl) (by rfl))))) (by intro _; rfl)) (@ss_one _ _ _ _ (@s_ret _ _ _ _ _ (@e_var _ _ 5 _ _ (by rfl) (by first | exact Or.inl rfl | exact Or.inr (Or.inl rfl) | exact Or.inr (Or.inr rfl)) (by decide) (by decide)))))))))
theorem sc_law_numbers : FnScope ["_law_cell", "_law_many", "_law_found", "_law_number", "_law_k"] ["_law_cell", "_law_many"] (defScope st_law_numbers) := ⟨rfl, rfl, rfl, by decide +kernel, rfl, by decide +kernel, by decide +kernel⟩
theorem ok_law_numbers {fd : FuncData} (F : Fun K "_law_numbers" "_law_numbers" st_law_numbers flaw_numbers fd) (T : Txt K mg flaw_names flaw_numbers flaw_table flaw_cell_at flaw_shelf fother_field fpair_behind fway fhad flaw_all flaw_ends flaw_mixed flaw_put flaw) :
    FnOk P w K mg base CX0 1 flaw_numbers fd ["_law_cell", "_law_many"] (spOf K 2 g_law_numbers) := by
  refine F.ok sc_law_numbers (fun vs H Q E h => spOf_len h) (fun cdv A outer s H vs Q E hr h => ?_)
  obtain ⟨F0, h⟩ := body_out (N := ["_law_cell", "_law_many", "_law_found", "_law_number", "_law_k"]) (f := f_law_numbers) h
  have hu := hu_of hr
  have hv := hr.units
  refine ⟨liftS (ent H F0 : Ent K) f_law_numbers, ?_, h⟩
  exact (@ss_cons _ _ _ _ _ _ (@s_set _ _ _ _ _ 2 _ _ sc_law_numbers.nd (@e_lst _ _ _ _ _ d_nil) (by rfl) (by first | exact Or.inl rfl | exact Or.inr rfl) (by rfl) (by first | exact .inl rfl | exact .inr rfl)) (@ss_cons _ _ _ _ _ _ (@s_set _ _ _ _ _ 3 _ _ sc_law_numbers.nd (@e_fdiv _ _ _ _ _ _ _ (@e_var _ _ 0 _ _ (by rfl) (by first | exact Or.inl rfl | exact Or.inr (Or.inl rfl) | exact Or.inr (Or.inr rfl)) (by decide) (by decide)) e_int) (by rfl) (by first | exact Or.inl rfl | exact Or.inr rfl) (by rfl) (by first | exact .inl rfl | exact .inr rfl)) (@ss_cons _ _ _ _ _ _ (@s_if _ _ _ _ _ _ _ _ _ (@t_eqY _ _ _ _ _ _ _ hv (@e_mod _ _ _ _ _ _ _ (@e_var _ _ 0 _ _ (by rfl) (by first | exact Or.inl rfl | exact Or.inr (Or.inl rfl) | exact Or.inr (Or.inr rfl)) (by decide) (by decide)) e_int) e_int) (@ss_cons _ _ _ _ _ _ (@s_for _ _ _ _ _ _ _ _ _ PassesOwn.never rfl (@i_rng _ _ _ _ _ _ _ T.z_range (@e_var _ _ 1 _ _ (by rfl) (by first | exact Or.inl rfl | exact Or.inr (Or.inl rfl) | exact Or.inr (Or.inr rfl)) (by decide) (by decide)) (by rfl) (by rfl)) (@g_name _ _ _ 4 _ sc_law_numbers.nd (by rfl) (by first | exact Or.inl rfl | exact Or.inr rfl) (by first | exact .inl rfl | exact .inr rfl)) (@ss_cons _ _ _ _ _ _ (@s_app _ _ _ _ _ 2 _ _ _ _ (@e_mod _ _ _ _ _ _ _ (@e_var _ _ 3 _ _ (by rfl) (by first | exact Or.inl rfl | exact Or.inr (Or.inl rfl) | exact Or.inr (Or.inr rfl)) (by decide) (by decide)) e_int) (by rfl) (by first | exact Or.inl rfl | exact Or.inr (Or.inl rfl) | exact Or.inr (Or.inr rfl)) (by decide) (by decide) (by rfl) (by rfl) (by rfl) (by rfl) (by rfl) (by rfl)) (@ss_one _ _ _ _ (@s_set _ _ _ _ _ 3 _ _ sc_law_numbers.nd (@e_fdiv _ _ _ _ _ _ _ (@e_var _ _ 3 _ _ (by rfl) (by first | exact Or.inl rfl | exact Or.inr (Or.inl rfl) | exact Or.inr (Or.inr rfl)) (by decide) (by decide)) e_int) (by rfl) (by first | exact Or.inl rfl | exact Or.inr rfl) (by rfl) (by first | exact .inl rfl | exact .inr rfl)))) (by intro _; rfl)) (@ss_one _ _ _ _ (@s_ret _ _ _ _ _ (@e_var _ _ 2 _ _ (by rfl) (by first | exact Or.inl rfl | exact Or.inr (Or.inl rfl) | exact Or.inr (Or.inr rfl)) (by decide) (by decide))))) ss_nil) (@ss_cons _ _ _ _ _ _ (@s_set _ _ _ _ _ 3 _ _ sc_law_numbers.nd (@e_mod _ _ _ _ _ _ _ (@e_var _ _ 3 _ _ (by rfl) (by first | exact Or.inl rfl | exact Or.inr (Or.inl rfl) | exact Or.inr (Or.inr rfl)) (by decide) (by decide)) e_int) (by rfl) (by first | exact Or.inl rfl | exact Or.inr rfl) (by rfl) (by first | exact .inl rfl | exact .inr rfl)) (@ss_cons _ _ _ _ _ _ (@s_for _ _ _ _ _ _ _ _ _ PassesOwn.never rfl (@i_rng _ _ _ _ _ _ _ T.z_range (@e_var _ _ 1 _ _ (by rfl) (by first | exact Or.inl rfl | exact Or.inr (Or.inl rfl) | exact Or.inr (Or.inr rfl)) (by decide) (by decide)) (by rfl) (by rfl)) (@g_name _ _ _ 4 _ sc_law_numbers.nd (by rfl) (by first | exact Or.inl rfl | exact Or.inr rfl) (by first | exact .inl rfl | exact .inr rfl)) (@ss_cons _ _ _ _ _ _ (@s_set _ _ _ _ _ 3 _ _ sc_law_numbers.nd (@e_mod _ _ _ _ _ _ _ (@e_mulZ _ _ _ _ _ _ _ (@e_add _ _ _ _ _ _ _ (@e_add _ _ _ _ _ _ _ (@e_var _ _ 3 _ _ (by rfl) (by first | exact Or.inl rfl | exact Or.inr (Or.inl rfl) | exact Or.inr (Or.inr rfl)) (by decide) (by decide)) (@e_var _ _ 4 _ _ (by rfl) (by first | exact Or.inl rfl | exact Or.inr (Or.inl rfl) | exact Or.inr (Or.inr rfl)) (by decide) (by decide))) e_int) e_int) e_int) (by rfl) (by first | exact Or.inl rfl | exact Or.inr rfl) (by rfl) (by first | exact .inl rfl | exact .inr rfl)) (@ss_one _ _ _ _ (@s_app _ _ _ _ _ 2 _ _ _ _ (@e_mod _ _ _ _ _ _ _ (@e_mulZ _ _ _ _ _ _ _ (@e_var _ _ 3 _ _ (by rfl) (by first | exact Or.inl rfl | exact Or.inr (Or.inl rfl) | exact Or.inr (Or.inr rfl)) (by decide) (by decide)) e_int) e_int) (by rfl) (by first | exact Or.inl rfl | exact Or.inr (Or.inl rfl) | exact Or.inr (Or.inr rfl)) (by decide) (by decide) (by rfl) (by rfl) (by rfl) (by rfl) (by rfl) (by rfl)))) (by intro _; rfl)) (@ss_one _ _ _ _ (@s_ret _ _ _ _ _ (@e_var _ _ 2 _ _ (by rfl) (by first | exact Or.inl rfl | exact Or.inr (Or.inl rfl) | exact Or.inr (Or.inr rfl)) (by decide) (by decide)))))))))
theorem sc_law_table : FnScope ["_law_cell", "_law_fields", "_law_some", "_law_pairs", "_law_j"] ["_law_cell", "_law_fields"] (defScope st_law_table) := ⟨rfl, rfl, rfl, by decide +kernel, rfl, by decide +kernel, by decide +kernel⟩
theorem ok_law_table {fd : FuncData} (F : Fun K "_law_table" "_law_table" st_law_table flaw_table fd) (T : Txt K mg flaw_names flaw_numbers flaw_table flaw_cell_at flaw_shelf fother_field fpair_behind fway fhad flaw_all flaw_ends flaw_mixed flaw_put flaw) {fd_law_numbers : FuncData} (G_law_numbers : FnOk P w K mg base CX0 1 flaw_numbers fd_law_numbers ["_law_cell", "_law_many"] (spOf K 2 g_law_numbers)) (B_law_numbers : Binds K fd_law_numbers ["_law_cell", "_law_many"] []) :
    FnOk P w K mg base CX0 2 flaw_table fd ["_law_cell", "_law_fields"] (spOf K 2 g_law_table) := by
  refine F.ok sc_law_table (fun vs H Q E h => spOf_len h) (fun cdv A outer s H vs Q E hr h => ?_)
  obtain ⟨F0, h⟩ := body_out (N := ["_law_cell", "_law_fields", "_law_some", "_law_pairs", "_law_j"]) (f := f_law_table) h
  have hu := hu_of hr
  have hv := hr.units
  refine ⟨liftS (ent H F0 : Ent K) f_law_table, ?_, h⟩
  exact (@ss_cons _ _ _ _ _ _ (@s_set _ _ _ _ _ 2 _ _ sc_law_table.nd (@e_call _ _ _ _ _ _ _ _ _ _ _ _ _ _ G_law_numbers (hr.mono (by decide)) T.m_law_numbers T.k_law_numbers B_law_numbers (@a_cons _ _ _ _ _ _ (@e_var _ _ 0 _ _ (by rfl) (by first | exact Or.inl rfl | exact Or.inr (Or.inl rfl) | exact Or.inr (Or.inr rfl)) (by decide) (by decide)) (@a_cons _ _ _ _ _ _ e_int a_nil (by rfl)) (by rfl)) (by rfl) (by decide) (by rfl) (by rfl)) (by rfl) (by first | exact Or.inl rfl | exact Or.inr rfl) (by rfl) (by first | exact .inl rfl | exact .inr rfl)) (@ss_cons _ _ _ _ _ _ (@s_set _ _ _ _ _ 3 _ _ sc_law_table.nd (@e_lst _ _ _ _ _ d_nil) (by rfl) (by first | exact Or.inl rfl | exact Or.inr rfl) (by rfl) (by first | exact .inl rfl | exact .inr rfl)) (@ss_cons _ _ _ _ _ _ (@s_for _ _ _ _ _ _ _ _ _ PassesOwn.never rfl (@i_rng _ _ _ _ _ _ _ T.z_range (@e_add _ _ _ _ _ _ _ e_int (@e_mod _ _ _ _ _ _ _ (@e_ixX _ _ _ _ _ _ _ hu (@e_var _ _ 2 _ _ (by rfl) (by first | exact Or.inl rfl | exact Or.inr (Or.inl rfl) | exact Or.inr (Or.inr rfl)) (by decide) (by decide)) e_int (by intro _ _; rfl)) e_int)) (by rfl) (by rfl)) (@g_name _ _ _ 4 _ sc_law_table.nd (by rfl) (by first | exact Or.inl rfl | exact Or.inr rfl) (by first | exact .inl rfl | exact .inr rfl)) (@ss_one _ _ _ _ (@s_app _ _ _ _ _ 3 _ _ _ _ (@e_tup _ _ _ _ _ _ (@d_cons _ _ _ _ _ _ (@e_ixX _ _ _ _ _ _ _ hu (@e_var _ _ 1 _ _ (by rfl) (by first | exact Or.inl rfl | exact Or.inr (Or.inl rfl) | exact Or.inr (Or.inr rfl)) (by decide) (by decide)) (@e_mod _ _ _ _ _ _ _ (@e_ixX _ _ _ _ _ _ _ hu (@e_var _ _ 2 _ _ (by rfl) (by first | exact Or.inl rfl | exact Or.inr (Or.inl rfl) | exact Or.inr (Or.inr rfl)) (by decide) (by decide)) (@e_add _ _ _ _ _ _ _ e_int (@e_mulZ _ _ _ _ _ _ _ e_int (@e_var _ _ 4 _ _ (by rfl) (by first | exact Or.inl rfl | exact Or.inr (Or.inl rfl) | exact Or.inr (Or.inr rfl)) (by decide) (by decide)))) (by intro _ _; rfl)) e_int) (by intro _ _; rfl)) (@d_cons _ _ _ _ _ _ (@e_ixX _ _ _ _ _ _ _ hu (@e_var _ _ 1 _ _ (by rfl) (by first | exact Or.inl rfl | exact Or.inr (Or.inl rfl) | exact Or.inr (Or.inr rfl)) (by decide) (by decide)) (@e_mod _ _ _ _ _ _ _ (@e_ixX _ _ _ _ _ _ _ hu (@e_var _ _ 2 _ _ (by rfl) (by first | exact Or.inl rfl | exact Or.inr (Or.inl rfl) | exact Or.inr (Or.inr rfl)) (by decide) (by decide)) (@e_add _ _ _ _ _ _ _ e_int (@e_mulZ _ _ _ _ _ _ _ e_int (@e_var _ _ 4 _ _ (by rfl) (by first | exact Or.inl rfl | exact Or.inr (Or.inl rfl) | exact Or.inr (Or.inr rfl)) (by decide) (by decide)))) (by intro _ _; rfl)) e_int) (by intro _ _; rfl)) d_nil (by rfl)) (by rfl))) (by rfl) (by first | exact Or.inl rfl | exact Or.inr (Or.inl rfl) | exact Or.inr (Or.inr rfl)) (by decide) (by decide) (by rfl) (by rfl) (by rfl) (by rfl) (by rfl) (by rfl))) (by intro _; rfl)) (@ss_one _ _ _ _ (@s_ret _ _ _ _ _ (@e_disp1 _ _ _ 3 _ _ _ _ _ (by rfl) (by first | exact Or.inl rfl | exact Or.inr (Or.inl rfl) | exact Or.inr (Or.inr rfl)) (by decide) (by decide)))))))
theorem sc_law_cell_at : FnScope ["_law_script", "_law_k"] ["_law_script", "_law_k"] (defScope st_law_cell_at) := ⟨rfl, rfl, rfl, by decide +kernel, rfl, by decide +kernel, by decide +kernel⟩
theorem ok_law_cell_at {fd : FuncData} (F : Fun K "_law_cell_at" "_law_cell_at" st_law_cell_at flaw_cell_at fd) (T : Txt K mg flaw_names flaw_numbers flaw_table flaw_cell_at flaw_shelf fother_field fpair_behind fway fhad flaw_all flaw_ends flaw_mixed flaw_put flaw) :
    FnOk P w K mg base CX0 1 flaw_cell_at fd ["_law_script", "_law_k"] (spOf K 2 g_law_cell_at) := by
  refine F.ok sc_law_cell_at (fun vs H Q E h => spOf_len h) (fun cdv A outer s H vs Q E hr h => ?_)
  obtain ⟨F0, h⟩ := body_out (N := ["_law_script", "_law_k"]) (f := f_law_cell_at) h
  have hu := hu_of hr
  have hv := hr.units
  refine ⟨liftS (ent H F0 : Ent K) f_law_cell_at, ?_, h⟩
  exact (@ss_cons _ _ _ _ _ _ (@s_if _ _ _ _ _ _ _ _ _ (@t_lt _ _ _ _ _ _ _ (@e_var _ _ 1 _ _ (by rfl) (by first | exact Or.inl rfl | exact Or.inr (Or.inl rfl) | exact Or.inr (Or.inr rfl)) (by decide) (by decide)) (@e_len _ _ _ _ _ _ T.z_len (@e_var _ _ 0 _ _ (by rfl) (by first | exact Or.inl rfl | exact Or.inr (Or.inl rfl) | exact Or.inr (Or.inr rfl)) (by decide) (by decide)) (by rfl) (by rfl) (by rfl))) (@ss_one _ _ _ _ (@s_ret _ _ _ _ _ (@e_ixX _ _ _ _ _ _ _ hu (@e_var _ _ 0 _ _ (by rfl) (by first | exact Or.inl rfl | exact Or.inr (Or.inl rfl) | exact Or.inr (Or.inr rfl)) (by decide) (by decide)) (@e_var _ _ 1 _ _ (by rfl) (by first | exact Or.inl rfl | exact Or.inr (Or.inl rfl) | exact Or.inr (Or.inr rfl)) (by decide) (by decide)) (by intro _ _; rfl)))) ss_nil) (@ss_one _ _ _ _ (@s_ret _ _ _ _ _ e_int)))
theorem sc_law_shelf : FnScope ["_law_script", "_law_keys", "_law_fields", "_law_shelf_here", "_law_k", "_law_key", "_law_some", "_law_own", "_law_j", "_law_field"] ["_law_script", "_law_keys", "_law_fields"] (defScope st_law_shelf) := ⟨rfl, rfl, rfl, by decide +kernel, rfl, by decide +kernel, by decide +kernel⟩
theorem ok_law_shelf {fd : FuncData} (F : Fun K "_law_shelf" "_law_shelf" st_law_shelf flaw_shelf fd) (T : Txt K mg flaw_names flaw_numbers flaw_table flaw_cell_at flaw_shelf fother_field fpair_behind fway fhad flaw_all flaw_ends flaw_mixed flaw_put flaw) {fd_law_numbers : FuncData} (G_law_numbers : FnOk P w K mg base CX0 1 flaw_numbers fd_law_numbers ["_law_cell", "_law_many"] (spOf K 2 g_law_numbers)) (B_law_numbers : Binds K fd_law_numbers ["_law_cell", "_law_many"] []) {fd_law_cell_at : FuncData} (G_law_cell_at : FnOk P w K mg base CX0 1 flaw_cell_at fd_law_cell_at ["_law_script", "_law_k"] (spOf K 2 g_law_cell_at)) (B_law_cell_at : Binds K fd_law_cell_at ["_law_script", "_law_k"] []) :
    FnOk P w K mg base CX0 2 flaw_shelf fd ["_law_script", "_law_keys", "_law_fields"] (spOf K 3 g_law_shelf) := by
  refine F.ok sc_law_shelf (fun vs H Q E h => spOf_len h) (fun cdv A outer s H vs Q E hr h => ?_)
  obtain ⟨F0, h⟩ := body_out (N := ["_law_script", "_law_keys", "_law_fields", "_law_shelf_here", "_law_k", "_law_key", "_law_some", "_law_own", "_law_j", "_law_field"]) (f := f_law_shelf) h
  have hu := hu_of hr
  have hv := hr.units
  refine ⟨liftS (ent H F0 : Ent K) f_law_shelf, ?_, h⟩
  exact (@ss_cons _ _ _ _ _ _ (@s_set _ _ _ _ _ 3 _ _ sc_law_shelf.nd e_dnewK (by rfl) (by first | exact Or.inl rfl | exact Or.inr rfl) (by rfl) (by first | exact .inl rfl | exact .inr rfl)) (@ss_cons _ _ _ _ _ _ (@s_for _ _ _ _ _ _ _ _ _ PassesOwn.never rfl (@i_enumX _ _ _ _ _ _ _ _ _ T.z_enumerate (@d_cons _ _ _ _ _ _ (@e_var _ _ 1 _ _ (by rfl) (by first | exact Or.inl rfl | exact Or.inr (Or.inl rfl) | exact Or.inr (Or.inr rfl)) (by decide) (by decide)) d_nil (by rfl)) (by rfl) (by rfl)) (@g_tup _ _ _ _ _ _ _ rfl (@gs_cons _ _ _ _ _ _ (@g_name _ _ _ 4 _ sc_law_shelf.nd (by rfl) (by first | exact Or.inl rfl | exact Or.inr rfl) (by first | exact .inl rfl | exact .inr rfl)) (@gs_cons _ _ _ _ _ _ (@g_name _ _ _ 5 _ sc_law_shelf.nd (by rfl) (by first | exact Or.inl rfl | exact Or.inr rfl) (by first | exact .inl rfl | exact .inr rfl)) gs_nil (by rfl)) (by rfl)) (by rfl) (by rfl)) (@ss_cons _ _ _ _ _ _ (@s_set _ _ _ _ _ 6 _ _ sc_law_shelf.nd (@e_call _ _ _ _ _ _ _ _ _ _ _ _ _ _ G_law_numbers (hr.mono (by decide)) T.m_law_numbers T.k_law_numbers B_law_numbers (@a_cons _ _ _ _ _ _ (@e_call _ _ _ _ _ _ _ _ _ _ _ _ _ _ G_law_cell_at (hr.mono (by decide)) T.m_law_cell_at T.k_law_cell_at B_law_cell_at (@a_cons _ _ _ _ _ _ (@e_var _ _ 0 _ _ (by rfl) (by first | exact Or.inl rfl | exact Or.inr (Or.inl rfl) | exact Or.inr (Or.inr rfl)) (by decide) (by decide)) (@a_cons _ _ _ _ _ _ (@e_add _ _ _ _ _ _ _ e_int (@e_var _ _ 4 _ _ (by rfl) (by first | exact Or.inl rfl | exact Or.inr (Or.inl rfl) | exact Or.inr (Or.inr rfl)) (by decide) (by decide))) a_nil (by rfl)) (by rfl)) (by rfl) (by decide) (by rfl) (by rfl)) (@a_cons _ _ _ _ _ _ e_int a_nil (by rfl)) (by rfl)) (by rfl) (by decide) (by rfl) (by rfl)) (by rfl) (by first | exact Or.inl rfl | exact Or.inr rfl) (by rfl) (by first | exact .inl rfl | exact .inr rfl)) (@ss_cons _ _ _ _ _ _ (@s_set _ _ _ _ _ 7 _ _ sc_law_shelf.nd e_dnewK (by rfl) (by first | exact Or.inl rfl | exact Or.inr rfl) (by rfl) (by first | exact .inl rfl | exact .inr rfl)) (@ss_cons _ _ _ _ _ _ (@s_for _ _ _ _ _ _ _ _ _ PassesOwn.never rfl (@i_enumX _ _ _ _ _ _ _ _ _ T.z_enumerate (@d_cons _ _ _ _ _ _ (@e_var _ _ 2 _ _ (by rfl) (by first | exact Or.inl rfl | exact Or.inr (Or.inl rfl) | exact Or.inr (Or.inr rfl)) (by decide) (by decide)) d_nil (by rfl)) (by rfl) (by rfl)) (@g_tup _ _ _ _ _ _ _ rfl (@gs_cons _ _ _ _ _ _ (@g_name _ _ _ 8 _ sc_law_shelf.nd (by rfl) (by first | exact Or.inl rfl | exact Or.inr rfl) (by first | exact .inl rfl | exact .inr rfl)) (@gs_cons _ _ _ _ _ _ (@g_name _ _ _ 9 _ sc_law_shelf.nd (by rfl) (by first | exact Or.inl rfl | exact Or.inr rfl) (by first | exact .inl rfl | exact .inr rfl)) gs_nil (by rfl)) (by rfl)) (by rfl) (by rfl)) (@ss_one _ _ _ _ (@s_if _ _ _ _ _ _ _ _ _ (@t_eqY _ _ _ _ _ _ _ hv (@e_mod _ _ _ _ _ _ _ (@e_ixX _ _ _ _ _ _ _ hu (@e_var _ _ 6 _ _ (by rfl) (by first | exact Or.inl rfl | exact Or.inr (Or.inl rfl) | exact Or.inr (Or.inr rfl)) (by decide) (by decide)) (@e_var _ _ 8 _ _ (by rfl) (by first | exact Or.inl rfl | exact Or.inr (Or.inl rfl) | exact Or.inr (Or.inr rfl)) (by decide) (by decide)) (by intro _ _; rfl)) e_int) e_int) (@ss_one _ _ _ _ (@s_put _ _ _ _ _ _ _ 7 _ _ _ hu (@e_var _ _ 9 _ _ (by rfl) (by first | exact Or.inl rfl | exact Or.inr (Or.inl rfl) | exact Or.inr (Or.inr rfl)) (by decide) (by decide)) (@e_add _ _ _ _ _ _ _ (@e_add _ _ _ _ _ _ _ (@e_var _ _ 5 _ _ (by rfl) (by first | exact Or.inl rfl | exact Or.inr (Or.inl rfl) | exact Or.inr (Or.inr rfl)) (by decide) (by decide)) e_str) (@e_var _ _ 9 _ _ (by rfl) (by first | exact Or.inl rfl | exact Or.inr (Or.inl rfl) | exact Or.inr (Or.inr rfl)) (by decide) (by decide))) (by rfl) (by first | exact Or.inl rfl | exact Or.inr (Or.inl rfl) | exact Or.inr (Or.inr rfl)) (by decide) (by decide) (by rfl))) ss_nil)) (by intro _; rfl)) (@ss_cons _ _ _ _ _ _ (@s_if _ _ _ _ _ _ _ _ _ (@PW.pt _ _ _ (@w_and _ _ _ _ _ _ _ _ (@t_gt _ _ _ _ _ _ _ (@e_var _ _ 4 _ _ (by rfl) (by first | exact Or.inl rfl | exact Or.inr (Or.inl rfl) | exact Or.inr (Or.inr rfl)) (by decide) (by decide)) e_int) (@w_and1 _ _ _ _ _ (@t_gt _ _ _ _ _ _ _ (@e_mod _ _ _ _ _ _ _ (@e_ixX _ _ _ _ _ _ _ hu (@e_var _ _ 6 _ _ (by rfl) (by first | exact Or.inl rfl | exact Or.inr (Or.inl rfl) | exact Or.inr (Or.inr rfl)) (by decide) (by decide)) e_int (by intro _ _; rfl)) e_int) e_int)))) (@ss_one _ _ _ _ (@s_put _ _ _ _ _ _ _ 7 _ _ _ hu e_str (@e_ixX _ _ _ _ _ _ _ hu (@e_var _ _ 1 _ _ (by rfl) (by first | exact Or.inl rfl | exact Or.inr (Or.inl rfl) | exact Or.inr (Or.inr rfl)) (by decide) (by decide)) (@e_ixX _ _ _ _ _ _ _ hu (@e_lst _ _ _ _ _ (@d_cons _ _ _ _ _ _ (@e_sub _ _ _ _ _ _ _ (@e_var _ _ 4 _ _ (by rfl) (by first | exact Or.inl rfl | exact Or.inr (Or.inl rfl) | exact Or.inr (Or.inr rfl)) (by decide) (by decide)) e_int) (@d_cons _ _ _ _ _ _ (@e_mod _ _ _ _ _ _ _ (@e_ixX _ _ _ _ _ _ _ hu (@e_var _ _ 6 _ _ (by rfl) (by first | exact Or.inl rfl | exact Or.inr (Or.inl rfl) | exact Or.inr (Or.inr rfl)) (by decide) (by decide)) e_int (by intro _ _; rfl)) (@e_var _ _ 4 _ _ (by rfl) (by first | exact Or.inl rfl | exact Or.inr (Or.inl rfl) | exact Or.inr (Or.inr rfl)) (by decide) (by decide))) d_nil (by rfl)) (by rfl))) (@e_mod _ _ _ _ _ _ _ (@e_ixX _ _ _ _ _ _ _ hu (@e_var _ _ 6 _ _ (by rfl) (by first | exact Or.inl rfl | exact Or.inr (Or.inl rfl) | exact Or.inr (Or.inr rfl)) (by decide) (by decide)) e_int (by intro _ _; rfl)) e_int) (by intro _ _; rfl)) (by intro _ _; rfl)) (by rfl) (by first | exact Or.inl rfl | exact Or.inr (Or.inl rfl) | exact Or.inr (Or.inr rfl)) (by decide) (by decide) (by rfl))) ss_nil) (@ss_one _ _ _ _ (@s_put _ _ _ _ _ _ _ 3 _ _ _ hu (@e_var _ _ 5 _ _ (by rfl) (by first | exact Or.inl rfl | exact Or.inr (Or.inl rfl) | exact Or.inr (Or.inr rfl)) (by decide) (by decide)) (@e_tup _ _ _ _ _ _ (@d_cons _ _ _ _ _ _ e_str (@d_cons _ _ _ _ _ _ (@e_var _ _ 7 _ _ (by rfl) (by first | exact Or.inl rfl | exact Or.inr (Or.inl rfl) | exact Or.inr (Or.inr rfl)) (by decide) (by decide)) d_nil (by rfl)) (by rfl))) (by rfl) (by first | exact Or.inl rfl | exact Or.inr (Or.inl rfl) | exact Or.inr (Or.inr rfl)) (by decide) (by decide) (by rfl))))))) (by intro _; rfl)) (@ss_one _ _ _ _ (@s_ret _ _ _ _ _ (@e_var _ _ 3 _ _ (by rfl) (by first | exact Or.inl rfl | exact Or.inr (Or.inl rfl) | exact Or.inr (Or.inr rfl)) (by decide) (by decide))))))
theorem sc_other_field : FnScope ["table", "kind", "field", "pair"] ["table", "kind", "field"] (defScope st_other_field) := ⟨rfl, rfl, rfl, by decide +kernel, rfl, by decide +kernel, by decide +kernel⟩
theorem ok_other_field {fd : FuncData} (F : Fun K "other_field" "other_field" st_other_field fother_field fd) (T : Txt K mg flaw_names flaw_numbers flaw_table flaw_cell_at flaw_shelf fother_field fpair_behind fway fhad flaw_all flaw_ends flaw_mixed flaw_put flaw) :
    FnOk P w K mg base CX0 1 fother_field fd ["table", "kind", "field"] (spOf K 3 g_other_field) := by
  refine F.ok sc_other_field (fun vs H Q E h => spOf_len h) (fun cdv A outer s H vs Q E hr h => ?_)
  obtain ⟨F0, h⟩ := body_out (N := ["table", "kind", "field", "pair"]) (f := f_other_field) h
  have hu := hu_of hr
  have hv := hr.units
  refine ⟨liftS (ent H F0 : Ent K) f_other_field, ?_, h⟩
  exact (@ss_cons _ _ _ _ _ _ (@s_for _ _ _ _ _ _ _ _ _ PassesOwn.never rfl (@i_any _ _ _ _ _ (@e_dget _ _ _ _ _ _ _ _ _ hu (@e_var _ _ 0 _ _ (by rfl) (by first | exact Or.inl rfl | exact Or.inr (Or.inl rfl) | exact Or.inr (Or.inr rfl)) (by decide) (by decide)) (@d_cons _ _ _ _ _ _ (@e_var _ _ 1 _ _ (by rfl) (by first | exact Or.inl rfl | exact Or.inr (Or.inl rfl) | exact Or.inr (Or.inr rfl)) (by decide) (by decide)) (@d_cons _ _ _ _ _ _ (@e_lst _ _ _ _ _ d_nil) d_nil (by rfl)) (by rfl)) (by rfl) (by rfl) (by rfl) (by rfl) (by rfl))) (@g_name _ _ _ 3 _ sc_other_field.nd (by rfl) (by first | exact Or.inl rfl | exact Or.inr rfl) (by first | exact .inl rfl | exact .inr rfl)) (@ss_one _ _ _ _ (@s_if _ _ _ _ _ _ _ _ _ (@t_eqY _ _ _ _ _ _ _ hv (@e_ixX _ _ _ _ _ _ _ hu (@e_var _ _ 3 _ _ (by rfl) (by first | exact Or.inl rfl | exact Or.inr (Or.inl rfl) | exact Or.inr (Or.inr rfl)) (by decide) (by decide)) e_int (by intro _ _; rfl)) (@e_var _ _ 2 _ _ (by rfl) (by first | exact Or.inl rfl | exact Or.inr (Or.inl rfl) | exact Or.inr (Or.inr rfl)) (by decide) (by decide))) (@ss_one _ _ _ _ (@s_ret _ _ _ _ _ (@e_ixX _ _ _ _ _ _ _ hu (@e_var _ _ 3 _ _ (by rfl) (by first | exact Or.inl rfl | exact Or.inr (Or.inl rfl) | exact Or.inr (Or.inr rfl)) (by decide) (by decide)) e_int (by intro _ _; rfl)))) ss_nil)) (by intro _; rfl)) (@ss_one _ _ _ _ (@s_ret _ _ _ _ _ e_non)))
theorem sc_pair_behind : FnScope ["shelf", "table", "pair", "work", "fields", "other", "key"] ["shelf", "table", "pair"] (defScope st_pair_behind) := ⟨rfl, rfl, rfl, by decide +kernel, rfl, by decide +kernel, by decide +kernel⟩
theorem ok_pair_behind {fd : FuncData} (F : Fun K "pair_behind" "pair_behind" st_pair_behind fpair_behind fd) (T : Txt K mg flaw_names flaw_numbers flaw_table flaw_cell_at flaw_shelf fother_field fpair_behind fway fhad flaw_all flaw_ends flaw_mixed flaw_put flaw) {fd_other_field : FuncData} (G_other_field : FnOk P w K mg base CX0 1 fother_field fd_other_field ["table", "kind", "field"] (spOf K 3 g_other_field)) (B_other_field : Binds K fd_other_field ["table", "kind", "field"] []) :
    FnOk P w K mg base CX0 2 fpair_behind fd ["shelf", "table", "pair"] (spOf K 3 g_pair_behind) := by
  refine F.ok sc_pair_behind (fun vs H Q E h => spOf_len h) (fun cdv A outer s H vs Q E hr h => ?_)
  obtain ⟨F0, h⟩ := body_out (N := ["shelf", "table", "pair", "work", "fields", "other", "key"]) (f := f_pair_behind) h
  have hu := hu_of hr
  have hv := hr.units
  refine ⟨liftS (ent H F0 : Ent K) f_pair_behind, ?_, h⟩
  exact (@ss_cons _ _ _ _ _ _ (@s_set _ _ _ _ _ 3 _ _ sc_pair_behind.nd (@e_ixX _ _ _ _ _ _ _ hu (@e_var _ _ 0 _ _ (by rfl) (by first | exact Or.inl rfl | exact Or.inr (Or.inl rfl) | exact Or.inr (Or.inr rfl)) (by decide) (by decide)) (@e_ixX _ _ _ _ _ _ _ hu (@e_var _ _ 2 _ _ (by rfl) (by first | exact Or.inl rfl | exact Or.inr (Or.inl rfl) | exact Or.inr (Or.inr rfl)) (by decide) (by decide)) e_int (by intro _ _; rfl)) (by intro _ _; rfl)) (by rfl) (by first | exact Or.inl rfl | exact Or.inr rfl) (by rfl) (by first | exact .inl rfl | exact .inr rfl)) (@ss_cons _ _ _ _ _ _ (@s_set _ _ _ _ _ 4 _ _ sc_pair_behind.nd (@e_ixX _ _ _ _ _ _ _ hu (@e_var _ _ 3 _ _ (by rfl) (by first | exact Or.inl rfl | exact Or.inr (Or.inl rfl) | exact Or.inr (Or.inr rfl)) (by decide) (by decide)) e_int (by intro _ _; rfl)) (by rfl) (by first | exact Or.inl rfl | exact Or.inr rfl) (by rfl) (by first | exact .inl rfl | exact .inr rfl)) (@ss_cons _ _ _ _ _ _ (@s_if _ _ _ _ _ _ _ _ _ (@t_inZ _ _ _ _ _ _ _ hu (@e_ixX _ _ _ _ _ _ _ hu (@e_var _ _ 2 _ _ (by rfl) (by first | exact Or.inl rfl | exact Or.inr (Or.inl rfl) | exact Or.inr (Or.inr rfl)) (by decide) (by decide)) e_int (by intro _ _; rfl)) (@e_var _ _ 4 _ _ (by rfl) (by first | exact Or.inl rfl | exact Or.inr (Or.inl rfl) | exact Or.inr (Or.inr rfl)) (by decide) (by decide)) (by rfl)) (@ss_one _ _ _ _ (@s_ret _ _ _ _ _ e_non)) ss_nil) (@ss_cons _ _ _ _ _ _ (@s_set _ _ _ _ _ 5 _ _ sc_pair_behind.nd (@e_call _ _ _ _ _ _ _ _ _ _ _ _ _ _ G_other_field (hr.mono (by decide)) T.m_other_field T.k_other_field B_other_field (@a_cons _ _ _ _ _ _ (@e_var _ _ 1 _ _ (by rfl) (by first | exact Or.inl rfl | exact Or.inr (Or.inl rfl) | exact Or.inr (Or.inr rfl)) (by decide) (by decide)) (@a_cons _ _ _ _ _ _ (@e_ixX _ _ _ _ _ _ _ hu (@e_var _ _ 3 _ _ (by rfl) (by first | exact Or.inl rfl | exact Or.inr (Or.inl rfl) | exact Or.inr (Or.inr rfl)) (by decide) (by decide)) e_int (by intro _ _; rfl)) (@a_cons _ _ _ _ _ _ (@e_ixX _ _ _ _ _ _ _ hu (@e_var _ _ 2 _ _ (by rfl) (by first | exact Or.inl rfl | exact Or.inr (Or.inl rfl) | exact Or.inr (Or.inr rfl)) (by decide) (by decide)) e_int (by intro _ _; rfl)) a_nil (by rfl)) (by rfl)) (by rfl)) (by rfl) (by decide) (by rfl) (by rfl)) (by rfl) (by first | exact Or.inl rfl | exact Or.inr rfl) (by rfl) (by first | exact .inl rfl | exact .inr rfl)) (@ss_cons _ _ _ _ _ _ (@s_set _ _ _ _ _ 6 _ _ sc_pair_behind.nd (@e_dget _ _ _ _ _ _ _ _ _ hu (@e_var _ _ 4 _ _ (by rfl) (by first | exact Or.inl rfl | exact Or.inr (Or.inl rfl) | exact Or.inr (Or.inr rfl)) (by decide) (by decide)) (@d_cons _ _ _ _ _ _ e_str d_nil (by rfl)) (by rfl) (by rfl) (by rfl) (by rfl) (by rfl)) (by rfl) (by first | exact Or.inl rfl | exact Or.inr rfl) (by rfl) (by first | exact .inl rfl | exact .inr rfl)) (@ss_cons _ _ _ _ _ _ (@s_if _ _ _ _ _ _ _ _ _ (@PW.pt _ _ _ (@w_or _ _ _ _ _ _ _ _ (@t_isN _ _ _ _ _ _ _ (@e_var _ _ 5 _ _ (by rfl) (by first | exact Or.inl rfl | exact Or.inr (Or.inl rfl) | exact Or.inr (Or.inr rfl)) (by decide) (by decide)) e_non) (@w_or _ _ _ _ _ _ _ _ (@t_isN _ _ _ _ _ _ _ (@e_var _ _ 6 _ _ (by rfl) (by first | exact Or.inl rfl | exact Or.inr (Or.inl rfl) | exact Or.inr (Or.inr rfl)) (by decide) (by decide)) e_non) (@w_or1 _ _ _ _ _ (@t_notinZ _ _ _ _ _ _ _ hu (@e_var _ _ 6 _ _ (by rfl) (by first | exact Or.inl rfl | exact Or.inr (Or.inl rfl) | exact Or.inr (Or.inr rfl)) (by decide) (by decide)) (@e_var _ _ 0 _ _ (by rfl) (by first | exact Or.inl rfl | exact Or.inr (Or.inl rfl) | exact Or.inr (Or.inr rfl)) (by decide) (by decide)) (by rfl)))))) (@ss_one _ _ _ _ (@s_ret _ _ _ _ _ e_non)) ss_nil) (@ss_one _ _ _ _ (@s_ret _ _ _ _ _ (@e_tup _ _ _ _ _ _ (@d_cons _ _ _ _ _ _ (@e_var _ _ 6 _ _ (by rfl) (by first | exact Or.inl rfl | exact Or.inr (Or.inl rfl) | exact Or.inr (Or.inr rfl)) (by decide) (by decide)) (@d_cons _ _ _ _ _ _ (@e_var _ _ 5 _ _ (by rfl) (by first | exact Or.inl rfl | exact Or.inr (Or.inl rfl) | exact Or.inr (Or.inr rfl)) (by decide) (by decide)) d_nil (by rfl)) (by rfl)))))))))))
theorem sc_way : FnScope ["shelf", "table", "key", "field", "pairs", "places", "pair"] ["shelf", "table", "key", "field"] (defScope st_way) := ⟨rfl, rfl, rfl, by decide +kernel, rfl, by decide +kernel, by decide +kernel⟩
theorem ok_way {fd : FuncData} (F : Fun K "way" "way" st_way fway fd) (T : Txt K mg flaw_names flaw_numbers flaw_table flaw_cell_at flaw_shelf fother_field fpair_behind fway fhad flaw_all flaw_ends flaw_mixed flaw_put flaw) {fd_pair_behind : FuncData} (G_pair_behind : FnOk P w K mg base CX0 2 fpair_behind fd_pair_behind ["shelf", "table", "pair"] (spOf K 3 g_pair_behind)) (B_pair_behind : Binds K fd_pair_behind ["shelf", "table", "pair"] []) :
    FnOk P w K mg base CX0 3 fway fd ["shelf", "table", "key", "field"] (spOf K 4 g_way) := by
  refine F.ok sc_way (fun vs H Q E h => spOf_len h) (fun cdv A outer s H vs Q E hr h => ?_)
  obtain ⟨F0, h⟩ := body_out (N := ["shelf", "table", "key", "field", "pairs", "places", "pair"]) (f := f_way) h
  have hu := hu_of hr
  have hv := hr.units
  refine ⟨liftS (ent H F0 : Ent K) f_way, ?_, h⟩
  exact (@ss_cons _ _ _ _ _ _ (@s_set _ _ _ _ _ 4 _ _ sc_way.nd (@e_lst _ _ _ _ _ d_nil) (by rfl) (by first | exact Or.inl rfl | exact Or.inr rfl) (by rfl) (by first | exact .inl rfl | exact .inr rfl)) (@ss_cons _ _ _ _ _ _ (@s_set _ _ _ _ _ 5 _ _ sc_way.nd e_dnewT (by rfl) (by first | exact Or.inl rfl | exact Or.inr rfl) (by rfl) (by first | exact .inl rfl | exact .inr rfl)) (@ss_cons _ _ _ _ _ _ (@s_set _ _ _ _ _ 6 _ _ sc_way.nd (@e_tup _ _ _ _ _ _ (@d_cons _ _ _ _ _ _ (@e_var _ _ 2 _ _ (by rfl) (by first | exact Or.inl rfl | exact Or.inr (Or.inl rfl) | exact Or.inr (Or.inr rfl)) (by decide) (by decide)) (@d_cons _ _ _ _ _ _ (@e_var _ _ 3 _ _ (by rfl) (by first | exact Or.inl rfl | exact Or.inr (Or.inl rfl) | exact Or.inr (Or.inr rfl)) (by decide) (by decide)) d_nil (by rfl)) (by rfl))) (by rfl) (by first | exact Or.inl rfl | exact Or.inr rfl) (by rfl) (by first | exact .inl rfl | exact .inr rfl)) (@ss_cons _ _ _ _ _ _ (@s_while _ _ _ _ FUEL _ _ _ PassesOwn.never (@t_notN _ _ _ _ _ _ _ (@e_var _ _ 6 _ _ (by rfl) (by first | exact Or.inl rfl | exact Or.inr (Or.inl rfl) | exact Or.inr (Or.inr rfl)) (by decide) (by decide)) e_non) (@ss_cons _ _ _ _ _ _ (@s_if _ _ _ _ _ _ _ _ _ (@t_inZ _ _ _ _ _ _ _ hu (@e_var _ _ 6 _ _ (by rfl) (by first | exact Or.inl rfl | exact Or.inr (Or.inl rfl) | exact Or.inr (Or.inr rfl)) (by decide) (by decide)) (@e_var _ _ 5 _ _ (by rfl) (by first | exact Or.inl rfl | exact Or.inr (Or.inl rfl) | exact Or.inr (Or.inr rfl)) (by decide) (by decide)) (by rfl)) (@ss_one _ _ _ _ s_never) ss_nil) (@ss_cons _ _ _ _ _ _ (@s_put _ _ _ _ _ _ _ 5 _ _ _ hu (@e_var _ _ 6 _ _ (by rfl) (by first | exact Or.inl rfl | exact Or.inr (Or.inl rfl) | exact Or.inr (Or.inr rfl)) (by decide) (by decide)) (@e_len _ _ _ _ _ _ T.z_len (@e_var _ _ 4 _ _ (by rfl) (by first | exact Or.inl rfl | exact Or.inr (Or.inl rfl) | exact Or.inr (Or.inr rfl)) (by decide) (by decide)) (by rfl) (by rfl) (by rfl)) (by rfl) (by first | exact Or.inl rfl | exact Or.inr (Or.inl rfl) | exact Or.inr (Or.inr rfl)) (by decide) (by decide) (by rfl)) (@ss_cons _ _ _ _ _ _ (@s_app _ _ _ _ _ 4 _ _ _ _ (@e_var _ _ 6 _ _ (by rfl) (by first | exact Or.inl rfl | exact Or.inr (Or.inl rfl) | exact Or.inr (Or.inr rfl)) (by decide) (by decide)) (by rfl) (by first | exact Or.inl rfl | exact Or.inr (Or.inl rfl) | exact Or.inr (Or.inr rfl)) (by decide) (by decide) (by rfl) (by rfl) (by rfl) (by rfl) (by rfl) (by rfl)) (@ss_one _ _ _ _ (@s_set _ _ _ _ _ 6 _ _ sc_way.nd (@e_call _ _ _ _ _ _ _ _ _ _ _ _ _ _ G_pair_behind (hr.mono (by decide)) T.m_pair_behind T.k_pair_behind B_pair_behind (@a_cons _ _ _ _ _ _ (@e_var _ _ 0 _ _ (by rfl) (by first | exact Or.inl rfl | exact Or.inr (Or.inl rfl) | exact Or.inr (Or.inr rfl)) (by decide) (by decide)) (@a_cons _ _ _ _ _ _ (@e_var _ _ 1 _ _ (by rfl) (by first | exact Or.inl rfl | exact Or.inr (Or.inl rfl) | exact Or.inr (Or.inr rfl)) (by decide) (by decide)) (@a_cons _ _ _ _ _ _ (@e_var _ _ 6 _ _ (by rfl) (by first | exact Or.inl rfl | exact Or.inr (Or.inl rfl) | exact Or.inr (Or.inr rfl)) (by decide) (by decide)) a_nil (by rfl)) (by rfl)) (by rfl)) (by rfl) (by decide) (by rfl) (by rfl)) (by rfl) (by first | exact Or.inl rfl | exact Or.inr rfl) (by rfl) (by first | exact .inl rfl | exact .inr rfl))))))) (@ss_one _ _ _ _ (@s_ret _ _ _ _ _ (@e_var _ _ 4 _ _ (by rfl) (by first | exact Or.inl rfl | exact Or.inr (Or.inl rfl) | exact Or.inr (Or.inr rfl)) (by decide) (by decide))))))))
theorem sc_had : FnScope ["shelf", "table", "key", "field", "last"] ["shelf", "table", "key", "field"] (defScope st_had) := ⟨rfl, rfl, rfl, by decide +kernel, rfl, by decide +kernel, by decide +kernel⟩
theorem ok_had {fd : FuncData} (F : Fun K "had" "had" st_had fhad fd) (T : Txt K mg flaw_names flaw_numbers flaw_table flaw_cell_at flaw_shelf fother_field fpair_behind fway fhad flaw_all flaw_ends flaw_mixed flaw_put flaw) {fd_way : FuncData} (G_way : FnOk P w K mg base CX0 3 fway fd_way ["shelf", "table", "key", "field"] (spOf K 4 g_way)) (B_way : Binds K fd_way ["shelf", "table", "key", "field"] []) :
    FnOk P w K mg base CX0 4 fhad fd ["shelf", "table", "key", "field"] (spOf K 4 g_had) := by
  refine F.ok sc_had (fun vs H Q E h => spOf_len h) (fun cdv A outer s H vs Q E hr h => ?_)
  obtain ⟨F0, h⟩ := body_out (N := ["shelf", "table", "key", "field", "last"]) (f := f_had) h
  have hu := hu_of hr
  have hv := hr.units
  refine ⟨liftS (ent H F0 : Ent K) f_had, ?_, h⟩
  exact (@ss_cons _ _ _ _ _ _ (@s_set _ _ _ _ _ 4 _ _ sc_had.nd (@e_ixX _ _ _ _ _ _ _ hu (@e_call _ _ _ _ _ _ _ _ _ _ _ _ _ _ G_way (hr.mono (by decide)) T.m_way T.k_way B_way (@a_cons _ _ _ _ _ _ (@e_var _ _ 0 _ _ (by rfl) (by first | exact Or.inl rfl | exact Or.inr (Or.inl rfl) | exact Or.inr (Or.inr rfl)) (by decide) (by decide)) (@a_cons _ _ _ _ _ _ (@e_var _ _ 1 _ _ (by rfl) (by first | exact Or.inl rfl | exact Or.inr (Or.inl rfl) | exact Or.inr (Or.inr rfl)) (by decide) (by decide)) (@a_cons _ _ _ _ _ _ (@e_var _ _ 2 _ _ (by rfl) (by first | exact Or.inl rfl | exact Or.inr (Or.inl rfl) | exact Or.inr (Or.inr rfl)) (by decide) (by decide)) (@a_cons _ _ _ _ _ _ (@e_var _ _ 3 _ _ (by rfl) (by first | exact Or.inl rfl | exact Or.inr (Or.inl rfl) | exact Or.inr (Or.inr rfl)) (by decide) (by decide)) a_nil (by rfl)) (by rfl)) (by rfl)) (by rfl)) (by rfl) (by decide) (by rfl) (by rfl)) (@e_neg _ _ _ _ _ e_int) (by intro _ _; rfl)) (by rfl) (by first | exact Or.inl rfl | exact Or.inr rfl) (by rfl) (by first | exact .inl rfl | exact .inr rfl)) (@ss_one _ _ _ _ (@s_ret _ _ _ _ _ (@e_dget _ _ _ _ _ _ _ _ _ hu (@e_ixX _ _ _ _ _ _ _ hu (@e_ixX _ _ _ _ _ _ _ hu (@e_var _ _ 0 _ _ (by rfl) (by first | exact Or.inl rfl | exact Or.inr (Or.inl rfl) | exact Or.inr (Or.inr rfl)) (by decide) (by decide)) (@e_ixX _ _ _ _ _ _ _ hu (@e_var _ _ 4 _ _ (by rfl) (by first | exact Or.inl rfl | exact Or.inr (Or.inl rfl) | exact Or.inr (Or.inr rfl)) (by decide) (by decide)) e_int (by intro _ _; rfl)) (by intro _ _; rfl)) e_int (by intro _ _; rfl)) (@d_cons _ _ _ _ _ _ (@e_ixX _ _ _ _ _ _ _ hu (@e_var _ _ 4 _ _ (by rfl) (by first | exact Or.inl rfl | exact Or.inr (Or.inl rfl) | exact Or.inr (Or.inr rfl)) (by decide) (by decide)) e_int (by intro _ _; rfl)) d_nil (by rfl)) (by rfl) (by rfl) (by rfl) (by rfl) (by rfl)))))
theorem sc_law_all : FnScope ["_law_shelf_here", "_law_table_here", "_law_keys", "_law_fields", "_law_found", "_law_key", "_law_field"] ["_law_shelf_here", "_law_table_here", "_law_keys", "_law_fields"] (defScope st_law_all) := ⟨rfl, rfl, rfl, by decide +kernel, rfl, by decide +kernel, by decide +kernel⟩
theorem ok_law_all {fd : FuncData} (F : Fun K "_law_all" "_law_all" st_law_all flaw_all fd) (T : Txt K mg flaw_names flaw_numbers flaw_table flaw_cell_at flaw_shelf fother_field fpair_behind fway fhad flaw_all flaw_ends flaw_mixed flaw_put flaw) {fd_had : FuncData} (G_had : FnOk P w K mg base CX0 4 fhad fd_had ["shelf", "table", "key", "field"] (spOf K 4 g_had)) (B_had : Binds K fd_had ["shelf", "table", "key", "field"] []) :
    FnOk P w K mg base CX0 5 flaw_all fd ["_law_shelf_here", "_law_table_here", "_law_keys", "_law_fields"] (spOf K 4 g_law_all) := by
  refine F.ok sc_law_all (fun vs H Q E h => spOf_len h) (fun cdv A outer s H vs Q E hr h => ?_)
  obtain ⟨F0, h⟩ := body_out (N := ["_law_shelf_here", "_law_table_here", "_law_keys", "_law_fields", "_law_found", "_law_key", "_law_field"]) (f := f_law_all) h
  have hu := hu_of hr
  have hv := hr.units
  refine ⟨liftS (ent H F0 : Ent K) f_law_all, ?_, h⟩
  exact (@ss_cons _ _ _ _ _ _ (@s_set _ _ _ _ _ 4 _ _ sc_law_all.nd e_dnewT (by rfl) (by first | exact Or.inl rfl | exact Or.inr rfl) (by rfl) (by first | exact .inl rfl | exact .inr rfl)) (@ss_cons _ _ _ _ _ _ (@s_for _ _ _ _ _ _ _ _ _ PassesOwn.never rfl (@i_any _ _ _ _ _ (@e_var _ _ 2 _ _ (by rfl) (by first | exact Or.inl rfl | exact Or.inr (Or.inl rfl) | exact Or.inr (Or.inr rfl)) (by decide) (by decide))) (@g_name _ _ _ 5 _ sc_law_all.nd (by rfl) (by first | exact Or.inl rfl | exact Or.inr rfl) (by first | exact .inl rfl | exact .inr rfl)) (@ss_one _ _ _ _ (@s_for _ _ _ _ _ _ _ _ _ PassesOwn.never rfl (@i_any _ _ _ _ _ (@e_var _ _ 3 _ _ (by rfl) (by first | exact Or.inl rfl | exact Or.inr (Or.inl rfl) | exact Or.inr (Or.inr rfl)) (by decide) (by decide))) (@g_name _ _ _ 6 _ sc_law_all.nd (by rfl) (by first | exact Or.inl rfl | exact Or.inr rfl) (by first | exact .inl rfl | exact .inr rfl)) (@ss_one _ _ _ _ (@s_put _ _ _ _ _ _ _ 4 _ _ _ hu (@e_tup _ _ _ _ _ _ (@d_cons _ _ _ _ _ _ (@e_var _ _ 5 _ _ (by rfl) (by first | exact Or.inl rfl | exact Or.inr (Or.inl rfl) | exact Or.inr (Or.inr rfl)) (by decide) (by decide)) (@d_cons _ _ _ _ _ _ (@e_var _ _ 6 _ _ (by rfl) (by first | exact Or.inl rfl | exact Or.inr (Or.inl rfl) | exact Or.inr (Or.inr rfl)) (by decide) (by decide)) d_nil (by rfl)) (by rfl))) (@e_call _ _ _ _ _ _ _ _ _ _ _ _ _ _ G_had (hr.mono (by decide)) T.m_had T.k_had B_had (@a_cons _ _ _ _ _ _ (@e_var _ _ 0 _ _ (by rfl) (by first | exact Or.inl rfl | exact Or.inr (Or.inl rfl) | exact Or.inr (Or.inr rfl)) (by decide) (by decide)) (@a_cons _ _ _ _ _ _ (@e_var _ _ 1 _ _ (by rfl) (by first | exact Or.inl rfl | exact Or.inr (Or.inl rfl) | exact Or.inr (Or.inr rfl)) (by decide) (by decide)) (@a_cons _ _ _ _ _ _ (@e_var _ _ 5 _ _ (by rfl) (by first | exact Or.inl rfl | exact Or.inr (Or.inl rfl) | exact Or.inr (Or.inr rfl)) (by decide) (by decide)) (@a_cons _ _ _ _ _ _ (@e_var _ _ 6 _ _ (by rfl) (by first | exact Or.inl rfl | exact Or.inr (Or.inl rfl) | exact Or.inr (Or.inr rfl)) (by decide) (by decide)) a_nil (by rfl)) (by rfl)) (by rfl)) (by rfl)) (by rfl) (by decide) (by rfl) (by rfl)) (by rfl) (by first | exact Or.inl rfl | exact Or.inr (Or.inl rfl) | exact Or.inr (Or.inr rfl)) (by decide) (by decide) (by rfl))) (by intro _; rfl))) (by intro _; rfl)) (@ss_one _ _ _ _ (@s_ret _ _ _ _ _ (@e_var _ _ 4 _ _ (by rfl) (by first | exact Or.inl rfl | exact Or.inr (Or.inl rfl) | exact Or.inr (Or.inr rfl)) (by decide) (by decide))))))
theorem sc_law_ends : FnScope ["_law_shelf_here", "_law_table_here", "_law_keys", "_law_fields", "_law_found", "_law_key", "_law_field"] ["_law_shelf_here", "_law_table_here", "_law_keys", "_law_fields"] (defScope st_law_ends) := ⟨rfl, rfl, rfl, by decide +kernel, rfl, by decide +kernel, by decide +kernel⟩
theorem ok_law_ends {fd : FuncData} (F : Fun K "_law_ends" "_law_ends" st_law_ends flaw_ends fd) (T : Txt K mg flaw_names flaw_numbers flaw_table flaw_cell_at flaw_shelf fother_field fpair_behind fway fhad flaw_all flaw_ends flaw_mixed flaw_put flaw) {fd_way : FuncData} (G_way : FnOk P w K mg base CX0 3 fway fd_way ["shelf", "table", "key", "field"] (spOf K 4 g_way)) (B_way : Binds K fd_way ["shelf", "table", "key", "field"] []) :
    FnOk P w K mg base CX0 4 flaw_ends fd ["_law_shelf_here", "_law_table_here", "_law_keys", "_law_fields"] (spOf K 4 g_law_ends) := by
  refine F.ok sc_law_ends (fun vs H Q E h => spOf_len h) (fun cdv A outer s H vs Q E hr h => ?_)
  obtain ⟨F0, h⟩ := body_out (N := ["_law_shelf_here", "_law_table_here", "_law_keys", "_law_fields", "_law_found", "_law_key", "_law_field"]) (f := f_law_ends) h
  have hu := hu_of hr
  have hv := hr.units
  refine ⟨liftS (ent H F0 : Ent K) f_law_ends, ?_, h⟩
  exact (@ss_cons _ _ _ _ _ _ (@s_set _ _ _ _ _ 4 _ _ sc_law_ends.nd e_dnewT (by rfl) (by first | exact Or.inl rfl | exact Or.inr rfl) (by rfl) (by first | exact .inl rfl | exact .inr rfl)) (@ss_cons _ _ _ _ _ _ (@s_for _ _ _ _ _ _ _ _ _ PassesOwn.never rfl (@i_any _ _ _ _ _ (@e_var _ _ 2 _ _ (by rfl) (by first | exact Or.inl rfl | exact Or.inr (Or.inl rfl) | exact Or.inr (Or.inr rfl)) (by decide) (by decide))) (@g_name _ _ _ 5 _ sc_law_ends.nd (by rfl) (by first | exact Or.inl rfl | exact Or.inr rfl) (by first | exact .inl rfl | exact .inr rfl)) (@ss_one _ _ _ _ (@s_for _ _ _ _ _ _ _ _ _ PassesOwn.never rfl (@i_any _ _ _ _ _ (@e_var _ _ 3 _ _ (by rfl) (by first | exact Or.inl rfl | exact Or.inr (Or.inl rfl) | exact Or.inr (Or.inr rfl)) (by decide) (by decide))) (@g_name _ _ _ 6 _ sc_law_ends.nd (by rfl) (by first | exact Or.inl rfl | exact Or.inr rfl) (by first | exact .inl rfl | exact .inr rfl)) (@ss_one _ _ _ _ (@s_put _ _ _ _ _ _ _ 4 _ _ _ hu (@e_tup _ _ _ _ _ _ (@d_cons _ _ _ _ _ _ (@e_var _ _ 5 _ _ (by rfl) (by first | exact Or.inl rfl | exact Or.inr (Or.inl rfl) | exact Or.inr (Or.inr rfl)) (by decide) (by decide)) (@d_cons _ _ _ _ _ _ (@e_var _ _ 6 _ _ (by rfl) (by first | exact Or.inl rfl | exact Or.inr (Or.inl rfl) | exact Or.inr (Or.inr rfl)) (by decide) (by decide)) d_nil (by rfl)) (by rfl))) (@e_ixX _ _ _ _ _ _ _ hu (@e_call _ _ _ _ _ _ _ _ _ _ _ _ _ _ G_way (hr.mono (by decide)) T.m_way T.k_way B_way (@a_cons _ _ _ _ _ _ (@e_var _ _ 0 _ _ (by rfl) (by first | exact Or.inl rfl | exact Or.inr (Or.inl rfl) | exact Or.inr (Or.inr rfl)) (by decide) (by decide)) (@a_cons _ _ _ _ _ _ (@e_var _ _ 1 _ _ (by rfl) (by first | exact Or.inl rfl | exact Or.inr (Or.inl rfl) | exact Or.inr (Or.inr rfl)) (by decide) (by decide)) (@a_cons _ _ _ _ _ _ (@e_var _ _ 5 _ _ (by rfl) (by first | exact Or.inl rfl | exact Or.inr (Or.inl rfl) | exact Or.inr (Or.inr rfl)) (by decide) (by decide)) (@a_cons _ _ _ _ _ _ (@e_var _ _ 6 _ _ (by rfl) (by first | exact Or.inl rfl | exact Or.inr (Or.inl rfl) | exact Or.inr (Or.inr rfl)) (by decide) (by decide)) a_nil (by rfl)) (by rfl)) (by rfl)) (by rfl)) (by rfl) (by decide) (by rfl) (by rfl)) (@e_neg _ _ _ _ _ e_int) (by intro _ _; rfl)) (by rfl) (by first | exact Or.inl rfl | exact Or.inr (Or.inl rfl) | exact Or.inr (Or.inr rfl)) (by decide) (by decide) (by rfl))) (by intro _; rfl))) (by intro _; rfl)) (@ss_one _ _ _ _ (@s_ret _ _ _ _ _ (@e_var _ _ 4 _ _ (by rfl) (by first | exact Or.inl rfl | exact Or.inr (Or.inl rfl) | exact Or.inr (Or.inr rfl)) (by decide) (by decide))))))
theorem sc_law_mixed : FnScope ["_law_cell", "_law_by"] ["_law_cell", "_law_by"] (defScope st_law_mixed) := ⟨rfl, rfl, rfl, by decide +kernel, rfl, by decide +kernel, by decide +kernel⟩
theorem ok_law_mixed {fd : FuncData} (F : Fun K "_law_mixed" "_law_mixed" st_law_mixed flaw_mixed fd) (T : Txt K mg flaw_names flaw_numbers flaw_table flaw_cell_at flaw_shelf fother_field fpair_behind fway fhad flaw_all flaw_ends flaw_mixed flaw_put flaw) :
    FnOk P w K mg base CX0 1 flaw_mixed fd ["_law_cell", "_law_by"] (spOf K 2 g_law_mixed) := by
  refine F.ok sc_law_mixed (fun vs H Q E h => spOf_len h) (fun cdv A outer s H vs Q E hr h => ?_)
  obtain ⟨F0, h⟩ := body_out (N := ["_law_cell", "_law_by"]) (f := f_law_mixed) h
  have hu := hu_of hr
  have hv := hr.units
  refine ⟨liftS (ent H F0 : Ent K) f_law_mixed, ?_, h⟩
  exact (@ss_one _ _ _ _ (@s_ret _ _ _ _ _ (@e_mod _ _ _ _ _ _ _ (@e_mulZ _ _ _ _ _ _ _ (@e_mod _ _ _ _ _ _ _ (@e_var _ _ 0 _ _ (by rfl) (by first | exact Or.inl rfl | exact Or.inr (Or.inl rfl) | exact Or.inr (Or.inr rfl)) (by decide) (by decide)) e_int) (@e_var _ _ 1 _ _ (by rfl) (by first | exact Or.inl rfl | exact Or.inr (Or.inl rfl) | exact Or.inr (Or.inr rfl)) (by decide) (by decide))) e_int)))
theorem sc_law_put : FnScope ["_law_shelf_here", "_law_key", "_law_field", "_law_text", "_law_other", "_law_own"] ["_law_shelf_here", "_law_key", "_law_field", "_law_text"] (defScope st_law_put) := ⟨rfl, rfl, rfl, by decide +kernel, rfl, by decide +kernel, by decide +kernel⟩
theorem ok_law_put {fd : FuncData} (F : Fun K "_law_put" "_law_put" st_law_put flaw_put fd) (T : Txt K mg flaw_names flaw_numbers flaw_table flaw_cell_at flaw_shelf fother_field fpair_behind fway fhad flaw_all flaw_ends flaw_mixed flaw_put flaw) :
    FnOk P w K mg base CX0 1 flaw_put fd ["_law_shelf_here", "_law_key", "_law_field", "_law_text"] (spOf K 4 g_law_put) := by
  refine F.ok sc_law_put (fun vs H Q E h => spOf_len h) (fun cdv A outer s H vs Q E hr h => ?_)
  obtain ⟨F0, h⟩ := body_out (N := ["_law_shelf_here", "_law_key", "_law_field", "_law_text", "_law_other", "_law_own"]) (f := f_law_put) h
  have hu := hu_of hr
  have hv := hr.units
  refine ⟨liftS (ent H F0 : Ent K) f_law_put, ?_, h⟩
  exact (@ss_cons _ _ _ _ _ _ (@s_set _ _ _ _ _ 4 _ _ sc_law_put.nd (@e_dictOf _ _ _ _ _ _ T.z_dict (@e_var _ _ 0 _ _ (by rfl) (by first | exact Or.inl rfl | exact Or.inr (Or.inl rfl) | exact Or.inr (Or.inr rfl)) (by decide) (by decide)) (by rfl) (by rfl) (by rfl)) (by rfl) (by first | exact Or.inl rfl | exact Or.inr rfl) (by rfl) (by first | exact .inl rfl | exact .inr rfl)) (@ss_cons _ _ _ _ _ _ (@s_set _ _ _ _ _ 5 _ _ sc_law_put.nd (@e_dictOf _ _ _ _ _ _ T.z_dict (@e_ixX _ _ _ _ _ _ _ hu (@e_ixX _ _ _ _ _ _ _ hu (@e_var _ _ 0 _ _ (by rfl) (by first | exact Or.inl rfl | exact Or.inr (Or.inl rfl) | exact Or.inr (Or.inr rfl)) (by decide) (by decide)) (@e_var _ _ 1 _ _ (by rfl) (by first | exact Or.inl rfl | exact Or.inr (Or.inl rfl) | exact Or.inr (Or.inr rfl)) (by decide) (by decide)) (by intro _ _; rfl)) e_int (by intro _ _; rfl)) (by rfl) (by rfl) (by rfl)) (by rfl) (by first | exact Or.inl rfl | exact Or.inr rfl) (by rfl) (by first | exact .inl rfl | exact .inr rfl)) (@ss_cons _ _ _ _ _ _ (@s_put _ _ _ _ _ _ _ 5 _ _ _ hu (@e_var _ _ 2 _ _ (by rfl) (by first | exact Or.inl rfl | exact Or.inr (Or.inl rfl) | exact Or.inr (Or.inr rfl)) (by decide) (by decide)) (@e_var _ _ 3 _ _ (by rfl) (by first | exact Or.inl rfl | exact Or.inr (Or.inl rfl) | exact Or.inr (Or.inr rfl)) (by decide) (by decide)) (by rfl) (by first | exact Or.inl rfl | exact Or.inr (Or.inl rfl) | exact Or.inr (Or.inr rfl)) (by decide) (by decide) (by rfl)) (@ss_cons _ _ _ _ _ _ (@s_if _ _ _ _ _ _ _ _ _ (@t_isN _ _ _ _ _ _ _ (@e_var _ _ 3 _ _ (by rfl) (by first | exact Or.inl rfl | exact Or.inr (Or.inl rfl) | exact Or.inr (Or.inr rfl)) (by decide) (by decide)) e_non) (@ss_one _ _ _ _ (@s_pop _ _ _ _ _ 5 _ _ _ _ (@e_var _ _ 2 _ _ (by rfl) (by first | exact Or.inl rfl | exact Or.inr (Or.inl rfl) | exact Or.inr (Or.inr rfl)) (by decide) (by decide)) (by rfl) (by first | exact Or.inl rfl | exact Or.inr (Or.inl rfl) | exact Or.inr (Or.inr rfl)) (by decide) (by decide) (by exact ⟨rfl, rfl, rfl, rfl⟩) (by rfl))) ss_nil) (@ss_cons _ _ _ _ _ _ (@s_put _ _ _ _ _ _ _ 4 _ _ _ hu (@e_var _ _ 1 _ _ (by rfl) (by first | exact Or.inl rfl | exact Or.inr (Or.inl rfl) | exact Or.inr (Or.inr rfl)) (by decide) (by decide)) (@e_tup _ _ _ _ _ _ (@d_cons _ _ _ _ _ _ (@e_ixX _ _ _ _ _ _ _ hu (@e_ixX _ _ _ _ _ _ _ hu (@e_var _ _ 0 _ _ (by rfl) (by first | exact Or.inl rfl | exact Or.inr (Or.inl rfl) | exact Or.inr (Or.inr rfl)) (by decide) (by decide)) (@e_var _ _ 1 _ _ (by rfl) (by first | exact Or.inl rfl | exact Or.inr (Or.inl rfl) | exact Or.inr (Or.inr rfl)) (by decide) (by decide)) (by intro _ _; rfl)) e_int (by intro _ _; rfl)) (@d_cons _ _ _ _ _ _ (@e_var _ _ 5 _ _ (by rfl) (by first | exact Or.inl rfl | exact Or.inr (Or.inl rfl) | exact Or.inr (Or.inr rfl)) (by decide) (by decide)) d_nil (by rfl)) (by rfl))) (by rfl) (by first | exact Or.inl rfl | exact Or.inr (Or.inl rfl) | exact Or.inr (Or.inr rfl)) (by decide) (by decide) (by rfl)) (@ss_one _ _ _ _ (@s_ret _ _ _ _ _ (@e_var _ _ 4 _ _ (by rfl) (by first | exact Or.inl rfl | exact Or.inr (Or.inl rfl) | exact Or.inr (Or.inr rfl)) (by decide) (by decide)))))))))
theorem sc_law : FnScope ["_law_script", "_law_keys", "_law_fields", "_law_table_here", "_law_shelf_here", "_law_before", "_law_ends_here", "_law_cell", "_law_some", "_law_key", "_law_field", "_law_last", "_law_other", "_law_after", "_law_pair", "_law_due", "_law_alone", "_law_one"] ["_law_script"] (defScope st_law) := ⟨rfl, rfl, rfl, by decide +kernel, rfl, by decide +kernel, by decide +kernel⟩
theorem ok_law {fd : FuncData} (F : Fun K "law" "law" st_law flaw fd) (T : Txt K mg flaw_names flaw_numbers flaw_table flaw_cell_at flaw_shelf fother_field fpair_behind fway fhad flaw_all flaw_ends flaw_mixed flaw_put flaw) {fd_law_names : FuncData} (G_law_names : FnOk P w K mg base CX0 1 flaw_names fd_law_names ["_law_number", "_law_many"] (spOf K 2 g_law_names)) (B_law_names : Binds K fd_law_names ["_law_number", "_law_many"] []) {fd_law_numbers : FuncData} (G_law_numbers : FnOk P w K mg base CX0 1 flaw_numbers fd_law_numbers ["_law_cell", "_law_many"] (spOf K 2 g_law_numbers)) (B_law_numbers : Binds K fd_law_numbers ["_law_cell", "_law_many"] []) {fd_law_table : FuncData} (G_law_table : FnOk P w K mg base CX0 2 flaw_table fd_law_table ["_law_cell", "_law_fields"] (spOf K 2 g_law_table)) (B_law_table : Binds K fd_law_table ["_law_cell", "_law_fields"] []) {fd_law_cell_at : FuncData} (G_law_cell_at : FnOk P w K mg base CX0 1 flaw_cell_at fd_law_cell_at ["_law_script", "_law_k"] (spOf K 2 g_law_cell_at)) (B_law_cell_at : Binds K fd_law_cell_at ["_law_script", "_law_k"] []) {fd_law_shelf : FuncData} (G_law_shelf : FnOk P w K mg base CX0 2 flaw_shelf fd_law_shelf ["_law_script", "_law_keys", "_law_fields"] (spOf K 3 g_law_shelf)) (B_law_shelf : Binds K fd_law_shelf ["_law_script", "_law_keys", "_law_fields"] []) {fd_had : FuncData} (G_had : FnOk P w K mg base CX0 4 fhad fd_had ["shelf", "table", "key", "field"] (spOf K 4 g_had)) (B_had : Binds K fd_had ["shelf", "table", "key", "field"] []) {fd_law_all : FuncData} (G_law_all : FnOk P w K mg base CX0 5 flaw_all fd_law_all ["_law_shelf_here", "_law_table_here", "_law_keys", "_law_fields"] (spOf K 4 g_law_all)) (B_law_all : Binds K fd_law_all ["_law_shelf_here", "_law_table_here", "_law_keys", "_law_fields"] []) {fd_law_ends : FuncData} (G_law_ends : FnOk P w K mg base CX0 4 flaw_ends fd_law_ends ["_law_shelf_here", "_law_table_here", "_law_keys", "_law_fields"] (spOf K 4 g_law_ends)) (B_law_ends : Binds K fd_law_ends ["_law_shelf_here", "_law_table_here", "_law_keys", "_law_fields"] []) {fd_law_mixed : FuncData} (G_law_mixed : FnOk P w K mg base CX0 1 flaw_mixed fd_law_mixed ["_law_cell", "_law_by"] (spOf K 2 g_law_mixed)) (B_law_mixed : Binds K fd_law_mixed ["_law_cell", "_law_by"] []) {fd_law_put : FuncData} (G_law_put : FnOk P w K mg base CX0 1 flaw_put fd_law_put ["_law_shelf_here", "_law_key", "_law_field", "_law_text"] (spOf K 4 g_law_put)) (B_law_put : Binds K fd_law_put ["_law_shelf_here", "_law_key", "_law_field", "_law_text"] []) :
    FnOk P w K mg base CX0 6 flaw fd ["_law_script"] (spOf K 1 g_law) := by
  refine F.ok sc_law (fun vs H Q E h => spOf_len h) (fun cdv A outer s H vs Q E hr h => ?_)
  obtain ⟨F0, h⟩ := body_out (N := ["_law_script", "_law_keys", "_law_fields", "_law_table_here", "_law_shelf_here", "_law_before", "_law_ends_here", "_law_cell", "_law_some", "_law_key", "_law_field", "_law_last", "_law_other", "_law_after", "_law_pair", "_law_due", "_law_alone", "_law_one"]) (f := f_law) h
  have hu := hu_of hr
  have hv := hr.units
  refine ⟨liftS (ent H F0 : Ent K) f_law, ?_, h⟩
  exact (@ss_cons _ _ _ _ _ _ (@s_set _ _ _ _ _ 1 _ _ sc_law.nd (@e_call _ _ _ _ _ _ _ _ _ _ _ _ _ _ G_law_names (hr.mono (by decide)) T.m_law_names T.k_law_names B_law_names (@a_cons _ _ _ _ _ _ (@e_call _ _ _ _ _ _ _ _ _ _ _ _ _ _ G_law_mixed (hr.mono (by decide)) T.m_law_mixed T.k_law_mixed B_law_mixed (@a_cons _ _ _ _ _ _ (@e_call _ _ _ _ _ _ _ _ _ _ _ _ _ _ G_law_cell_at (hr.mono (by decide)) T.m_law_cell_at T.k_law_cell_at B_law_cell_at (@a_cons _ _ _ _ _ _ (@e_var _ _ 0 _ _ (by rfl) (by first | exact Or.inl rfl | exact Or.inr (Or.inl rfl) | exact Or.inr (Or.inr rfl)) (by decide) (by decide)) (@a_cons _ _ _ _ _ _ e_int a_nil (by rfl)) (by rfl)) (by rfl) (by decide) (by rfl) (by rfl)) (@a_cons _ _ _ _ _ _ e_int a_nil (by rfl)) (by rfl)) (by rfl) (by decide) (by rfl) (by rfl)) (@a_cons _ _ _ _ _ _ (@e_add _ _ _ _ _ _ _ e_int (@e_mod _ _ _ _ _ _ _ (@e_call _ _ _ _ _ _ _ _ _ _ _ _ _ _ G_law_cell_at (hr.mono (by decide)) T.m_law_cell_at T.k_law_cell_at B_law_cell_at (@a_cons _ _ _ _ _ _ (@e_var _ _ 0 _ _ (by rfl) (by first | exact Or.inl rfl | exact Or.inr (Or.inl rfl) | exact Or.inr (Or.inr rfl)) (by decide) (by decide)) (@a_cons _ _ _ _ _ _ e_int a_nil (by rfl)) (by rfl)) (by rfl) (by decide) (by rfl) (by rfl)) e_int)) a_nil (by rfl)) (by rfl)) (by rfl) (by decide) (by rfl) (by rfl)) (by rfl) (by first | exact Or.inl rfl | exact Or.inr rfl) (by rfl) (by first | exact .inl rfl | exact .inr rfl)) (@ss_cons _ _ _ _ _ _ (@s_set _ _ _ _ _ 2 _ _ sc_law.nd (@e_call _ _ _ _ _ _ _ _ _ _ _ _ _ _ G_law_names (hr.mono (by decide)) T.m_law_names T.k_law_names B_law_names (@a_cons _ _ _ _ _ _ (@e_call _ _ _ _ _ _ _ _ _ _ _ _ _ _ G_law_mixed (hr.mono (by decide)) T.m_law_mixed T.k_law_mixed B_law_mixed (@a_cons _ _ _ _ _ _ (@e_call _ _ _ _ _ _ _ _ _ _ _ _ _ _ G_law_cell_at (hr.mono (by decide)) T.m_law_cell_at T.k_law_cell_at B_law_cell_at (@a_cons _ _ _ _ _ _ (@e_var _ _ 0 _ _ (by rfl) (by first | exact Or.inl rfl | exact Or.inr (Or.inl rfl) | exact Or.inr (Or.inr rfl)) (by decide) (by decide)) (@a_cons _ _ _ _ _ _ e_int a_nil (by rfl)) (by rfl)) (by rfl) (by decide) (by rfl) (by rfl)) (@a_cons _ _ _ _ _ _ e_int a_nil (by rfl)) (by rfl)) (by rfl) (by decide) (by rfl) (by rfl)) (@a_cons _ _ _ _ _ _ e_int a_nil (by rfl)) (by rfl)) (by rfl) (by decide) (by rfl) (by rfl)) (by rfl) (by first | exact Or.inl rfl | exact Or.inr rfl) (by rfl) (by first | exact .inl rfl | exact .inr rfl)) (@ss_cons _ _ _ _ _ _ (@s_set _ _ _ _ _ 3 _ _ sc_law.nd (@e_call _ _ _ _ _ _ _ _ _ _ _ _ _ _ G_law_table (hr.mono (by decide)) T.m_law_table T.k_law_table B_law_table (@a_cons _ _ _ _ _ _ (@e_call _ _ _ _ _ _ _ _ _ _ _ _ _ _ G_law_cell_at (hr.mono (by decide)) T.m_law_cell_at T.k_law_cell_at B_law_cell_at (@a_cons _ _ _ _ _ _ (@e_var _ _ 0 _ _ (by rfl) (by first | exact Or.inl rfl | exact Or.inr (Or.inl rfl) | exact Or.inr (Or.inr rfl)) (by decide) (by decide)) (@a_cons _ _ _ _ _ _ e_int a_nil (by rfl)) (by rfl)) (by rfl) (by decide) (by rfl) (by rfl)) (@a_cons _ _ _ _ _ _ (@e_var _ _ 2 _ _ (by rfl) (by first | exact Or.inl rfl | exact Or.inr (Or.inl rfl) | exact Or.inr (Or.inr rfl)) (by decide) (by decide)) a_nil (by rfl)) (by rfl)) (by rfl) (by decide) (by rfl) (by rfl)) (by rfl) (by first | exact Or.inl rfl | exact Or.inr rfl) (by rfl) (by first | exact .inl rfl | exact .inr rfl)) (@ss_cons _ _ _ _ _ _ (@s_set _ _ _ _ _ 4 _ _ sc_law.nd (@e_call _ _ _ _ _ _ _ _ _ _ _ _ _ _ G_law_shelf (hr.mono (by decide)) T.m_law_shelf T.k_law_shelf B_law_shelf (@a_cons _ _ _ _ _ _ (@e_var _ _ 0 _ _ (by rfl) (by first | exact Or.inl rfl | exact Or.inr (Or.inl rfl) | exact Or.inr (Or.inr rfl)) (by decide) (by decide)) (@a_cons _ _ _ _ _ _ (@e_var _ _ 1 _ _ (by rfl) (by first | exact Or.inl rfl | exact Or.inr (Or.inl rfl) | exact Or.inr (Or.inr rfl)) (by decide) (by decide)) (@a_cons _ _ _ _ _ _ (@e_var _ _ 2 _ _ (by rfl) (by first | exact Or.inl rfl | exact Or.inr (Or.inl rfl) | exact Or.inr (Or.inr rfl)) (by decide) (by decide)) a_nil (by rfl)) (by rfl)) (by rfl)) (by rfl) (by decide) (by rfl) (by rfl)) (by rfl) (by first | exact Or.inl rfl | exact Or.inr rfl) (by rfl) (by first | exact .inl rfl | exact .inr rfl)) (@ss_cons _ _ _ _ _ _ (@s_set _ _ _ _ _ 5 _ _ sc_law.nd (@e_call _ _ _ _ _ _ _ _ _ _ _ _ _ _ G_law_all (hr.mono (by decide)) T.m_law_all T.k_law_all B_law_all (@a_cons _ _ _ _ _ _ (@e_var _ _ 4 _ _ (by rfl) (by first | exact Or.inl rfl | exact Or.inr (Or.inl rfl) | exact Or.inr (Or.inr rfl)) (by decide) (by decide)) (@a_cons _ _ _ _ _ _ (@e_var _ _ 3 _ _ (by rfl) (by first | exact Or.inl rfl | exact Or.inr (Or.inl rfl) | exact Or.inr (Or.inr rfl)) (by decide) (by decide)) (@a_cons _ _ _ _ _ _ (@e_var _ _ 1 _ _ (by rfl) (by first | exact Or.inl rfl | exact Or.inr (Or.inl rfl) | exact Or.inr (Or.inr rfl)) (by decide) (by decide)) (@a_cons _ _ _ _ _ _ (@e_var _ _ 2 _ _ (by rfl) (by first | exact Or.inl rfl | exact Or.inr (Or.inl rfl) | exact Or.inr (Or.inr rfl)) (by decide) (by decide)) a_nil (by rfl)) (by rfl)) (by rfl)) (by rfl)) (by rfl) (by decide) (by rfl) (by rfl)) (by rfl) (by first | exact Or.inl rfl | exact Or.inr rfl) (by rfl) (by first | exact .inl rfl | exact .inr rfl)) (@ss_cons _ _ _ _ _ _ (@s_set _ _ _ _ _ 6 _ _ sc_law.nd (@e_call _ _ _ _ _ _ _ _ _ _ _ _ _ _ G_law_ends (hr.mono (by decide)) T.m_law_ends T.k_law_ends B_law_ends (@a_cons _ _ _ _ _ _ (@e_var _ _ 4 _ _ (by rfl) (by first | exact Or.inl rfl | exact Or.inr (Or.inl rfl) | exact Or.inr (Or.inr rfl)) (by decide) (by decide)) (@a_cons _ _ _ _ _ _ (@e_var _ _ 3 _ _ (by rfl) (by first | exact Or.inl rfl | exact Or.inr (Or.inl rfl) | exact Or.inr (Or.inr rfl)) (by decide) (by decide)) (@a_cons _ _ _ _ _ _ (@e_var _ _ 1 _ _ (by rfl) (by first | exact Or.inl rfl | exact Or.inr (Or.inl rfl) | exact Or.inr (Or.inr rfl)) (by decide) (by decide)) (@a_cons _ _ _ _ _ _ (@e_var _ _ 2 _ _ (by rfl) (by first | exact Or.inl rfl | exact Or.inr (Or.inl rfl) | exact Or.inr (Or.inr rfl)) (by decide) (by decide)) a_nil (by rfl)) (by rfl)) (by rfl)) (by rfl)) (by rfl) (by decide) (by rfl) (by rfl)) (by rfl) (by first | exact Or.inl rfl | exact Or.inr rfl) (by rfl) (by first | exact .inl rfl | exact .inr rfl)) (@ss_cons _ _ _ _ _ _ (@s_for _ _ _ _ _ _ _ _ _ PassesOwn.never rfl (@i_any _ _ _ _ _ (@e_add _ _ _ _ _ _ _ (@e_lst _ _ _ _ _ (@d_cons _ _ _ _ _ _ (@e_call _ _ _ _ _ _ _ _ _ _ _ _ _ _ G_law_cell_at (hr.mono (by decide)) T.m_law_cell_at T.k_law_cell_at B_law_cell_at (@a_cons _ _ _ _ _ _ (@e_var _ _ 0 _ _ (by rfl) (by first | exact Or.inl rfl | exact Or.inr (Or.inl rfl) | exact Or.inr (Or.inr rfl)) (by decide) (by decide)) (@a_cons _ _ _ _ _ _ e_int a_nil (by rfl)) (by rfl)) (by rfl) (by decide) (by rfl) (by rfl)) d_nil (by rfl))) (@e_sl _ _ _ _ _ _ _ _ _ _ (@e_var _ _ 0 _ _ (by rfl) (by first | exact Or.inl rfl | exact Or.inr (Or.inl rfl) | exact Or.inr (Or.inr rfl)) (by decide) (by decide)) (@o_some _ _ _ _ e_int) (@o_some _ _ _ _ e_int)))) (@g_name _ _ _ 7 _ sc_law.nd (by rfl) (by first | exact Or.inl rfl | exact Or.inr rfl) (by first | exact .inl rfl | exact .inr rfl)) (@ss_cons _ _ _ _ _ _ (@s_set _ _ _ _ _ 8 _ _ sc_law.nd (@e_call _ _ _ _ _ _ _ _ _ _ _ _ _ _ G_law_numbers (hr.mono (by decide)) T.m_law_numbers T.k_law_numbers B_law_numbers (@a_cons _ _ _ _ _ _ (@e_var _ _ 7 _ _ (by rfl) (by first | exact Or.inl rfl | exact Or.inr (Or.inl rfl) | exact Or.inr (Or.inr rfl)) (by decide) (by decide)) (@a_cons _ _ _ _ _ _ e_int a_nil (by rfl)) (by rfl)) (by rfl) (by decide) (by rfl) (by rfl)) (by rfl) (by first | exact Or.inl rfl | exact Or.inr rfl) (by rfl) (by first | exact .inl rfl | exact .inr rfl)) (@ss_cons _ _ _ _ _ _ (@s_set _ _ _ _ _ 9 _ _ sc_law.nd (@e_ixX _ _ _ _ _ _ _ hu (@e_var _ _ 1 _ _ (by rfl) (by first | exact Or.inl rfl | exact Or.inr (Or.inl rfl) | exact Or.inr (Or.inr rfl)) (by decide) (by decide)) (@e_mod _ _ _ _ _ _ _ (@e_ixX _ _ _ _ _ _ _ hu (@e_var _ _ 8 _ _ (by rfl) (by first | exact Or.inl rfl | exact Or.inr (Or.inl rfl) | exact Or.inr (Or.inr rfl)) (by decide) (by decide)) e_int (by intro _ _; rfl)) (@e_len _ _ _ _ _ _ T.z_len (@e_var _ _ 1 _ _ (by rfl) (by first | exact Or.inl rfl | exact Or.inr (Or.inl rfl) | exact Or.inr (Or.inr rfl)) (by decide) (by decide)) (by rfl) (by rfl) (by rfl))) (by intro _ _; rfl)) (by rfl) (by first | exact Or.inl rfl | exact Or.inr rfl) (by rfl) (by first | exact .inl rfl | exact .inr rfl)) (@ss_cons _ _ _ _ _ _ (@s_set _ _ _ _ _ 10 _ _ sc_law.nd (@e_ixX _ _ _ _ _ _ _ hu (@e_var _ _ 2 _ _ (by rfl) (by first | exact Or.inl rfl | exact Or.inr (Or.inl rfl) | exact Or.inr (Or.inr rfl)) (by decide) (by decide)) (@e_mod _ _ _ _ _ _ _ (@e_ixX _ _ _ _ _ _ _ hu (@e_var _ _ 8 _ _ (by rfl) (by first | exact Or.inl rfl | exact Or.inr (Or.inl rfl) | exact Or.inr (Or.inr rfl)) (by decide) (by decide)) e_int (by intro _ _; rfl)) e_int) (by intro _ _; rfl)) (by rfl) (by first | exact Or.inl rfl | exact Or.inr rfl) (by rfl) (by first | exact .inl rfl | exact .inr rfl)) (@ss_cons _ _ _ _ _ _ (@s_unpack _ _ _ _ _ _ _ (@e_ixX _ _ _ _ _ _ _ hu (@e_var _ _ 6 _ _ (by rfl) (by first | exact Or.inl rfl | exact Or.inr (Or.inl rfl) | exact Or.inr (Or.inr rfl)) (by decide) (by decide)) (@e_tup _ _ _ _ _ _ (@d_cons _ _ _ _ _ _ (@e_var _ _ 9 _ _ (by rfl) (by first | exact Or.inl rfl | exact Or.inr (Or.inl rfl) | exact Or.inr (Or.inr rfl)) (by decide) (by decide)) (@d_cons _ _ _ _ _ _ (@e_var _ _ 10 _ _ (by rfl) (by first | exact Or.inl rfl | exact Or.inr (Or.inl rfl) | exact Or.inr (Or.inr rfl)) (by decide) (by decide)) d_nil (by rfl)) (by rfl))) (by intro _ _; rfl)) (@g_tup _ _ _ _ _ _ _ rfl (@gs_cons _ _ _ _ _ _ (@g_name _ _ _ 11 _ sc_law.nd (by rfl) (by first | exact Or.inl rfl | exact Or.inr rfl) (by first | exact .inl rfl | exact .inr rfl)) (@gs_cons _ _ _ _ _ _ (@g_name _ _ _ 12 _ sc_law.nd (by rfl) (by first | exact Or.inl rfl | exact Or.inr rfl) (by first | exact .inl rfl | exact .inr rfl)) gs_nil (by rfl)) (by rfl)) (by rfl) (by rfl)) (by rfl) (by rfl) (by rfl)) (@ss_cons _ _ _ _ _ _ (@s_if _ _ _ _ _ _ _ _ _ (@t_neY _ _ _ _ _ _ _ hv (@e_ixX _ _ _ _ _ _ _ hu (@e_var _ _ 5 _ _ (by rfl) (by first | exact Or.inl rfl | exact Or.inr (Or.inl rfl) | exact Or.inr (Or.inr rfl)) (by decide) (by decide)) (@e_tup _ _ _ _ _ _ (@d_cons _ _ _ _ _ _ (@e_var _ _ 9 _ _ (by rfl) (by first | exact Or.inl rfl | exact Or.inr (Or.inl rfl) | exact Or.inr (Or.inr rfl)) (by decide) (by decide)) (@d_cons _ _ _ _ _ _ (@e_var _ _ 10 _ _ (by rfl) (by first | exact Or.inl rfl | exact Or.inr (Or.inl rfl) | exact Or.inr (Or.inr rfl)) (by decide) (by decide)) d_nil (by rfl)) (by rfl))) (by intro _ _; rfl)) (@e_dget _ _ _ _ _ _ _ _ _ hu (@e_ixX _ _ _ _ _ _ _ hu (@e_ixX _ _ _ _ _ _ _ hu (@e_var _ _ 4 _ _ (by rfl) (by first | exact Or.inl rfl | exact Or.inr (Or.inl rfl) | exact Or.inr (Or.inr rfl)) (by decide) (by decide)) (@e_var _ _ 11 _ _ (by rfl) (by first | exact Or.inl rfl | exact Or.inr (Or.inl rfl) | exact Or.inr (Or.inr rfl)) (by decide) (by decide)) (by intro _ _; rfl)) e_int (by intro _ _; rfl)) (@d_cons _ _ _ _ _ _ (@e_var _ _ 12 _ _ (by rfl) (by first | exact Or.inl rfl | exact Or.inr (Or.inl rfl) | exact Or.inr (Or.inr rfl)) (by decide) (by decide)) d_nil (by rfl)) (by rfl) (by rfl) (by rfl) (by rfl) (by rfl))) (@ss_one _ _ _ _ (@s_ret _ _ _ _ _ e_bl)) ss_nil) (@ss_one _ _ _ _ (@s_if _ _ _ _ _ _ _ _ _ (@PW.pt _ _ _ (@w_and _ _ _ _ _ _ _ _ (@t_eqY _ _ _ _ _ _ _ hv (@e_mod _ _ _ _ _ _ _ (@e_ixX _ _ _ _ _ _ _ hu (@e_var _ _ 8 _ _ (by rfl) (by first | exact Or.inl rfl | exact Or.inr (Or.inl rfl) | exact Or.inr (Or.inr rfl)) (by decide) (by decide)) e_int (by intro _ _; rfl)) e_int) e_int) (@w_and1 _ _ _ _ _ (@t_notN _ _ _ _ _ _ _ (@e_ixX _ _ _ _ _ _ _ hu (@e_var _ _ 5 _ _ (by rfl) (by first | exact Or.inl rfl | exact Or.inr (Or.inl rfl) | exact Or.inr (Or.inr rfl)) (by decide) (by decide)) (@e_tup _ _ _ _ _ _ (@d_cons _ _ _ _ _ _ (@e_var _ _ 9 _ _ (by rfl) (by first | exact Or.inl rfl | exact Or.inr (Or.inl rfl) | exact Or.inr (Or.inr rfl)) (by decide) (by decide)) (@d_cons _ _ _ _ _ _ (@e_var _ _ 10 _ _ (by rfl) (by first | exact Or.inl rfl | exact Or.inr (Or.inl rfl) | exact Or.inr (Or.inr rfl)) (by decide) (by decide)) d_nil (by rfl)) (by rfl))) (by intro _ _; rfl)) e_non)))) (@ss_cons _ _ _ _ _ _ (@s_set _ _ _ _ _ 13 _ _ sc_law.nd (@e_call _ _ _ _ _ _ _ _ _ _ _ _ _ _ G_law_all (hr.mono (by decide)) T.m_law_all T.k_law_all B_law_all (@a_cons _ _ _ _ _ _ (@e_call _ _ _ _ _ _ _ _ _ _ _ _ _ _ G_law_put (hr.mono (by decide)) T.m_law_put T.k_law_put B_law_put (@a_cons _ _ _ _ _ _ (@e_var _ _ 4 _ _ (by rfl) (by first | exact Or.inl rfl | exact Or.inr (Or.inl rfl) | exact Or.inr (Or.inr rfl)) (by decide) (by decide)) (@a_cons _ _ _ _ _ _ (@e_var _ _ 11 _ _ (by rfl) (by first | exact Or.inl rfl | exact Or.inr (Or.inl rfl) | exact Or.inr (Or.inr rfl)) (by decide) (by decide)) (@a_cons _ _ _ _ _ _ (@e_var _ _ 12 _ _ (by rfl) (by first | exact Or.inl rfl | exact Or.inr (Or.inl rfl) | exact Or.inr (Or.inr rfl)) (by decide) (by decide)) (@a_cons _ _ _ _ _ _ e_str a_nil (by rfl)) (by rfl)) (by rfl)) (by rfl)) (by rfl) (by decide) (by rfl) (by rfl)) (@a_cons _ _ _ _ _ _ (@e_var _ _ 3 _ _ (by rfl) (by first | exact Or.inl rfl | exact Or.inr (Or.inl rfl) | exact Or.inr (Or.inr rfl)) (by decide) (by decide)) (@a_cons _ _ _ _ _ _ (@e_var _ _ 1 _ _ (by rfl) (by first | exact Or.inl rfl | exact Or.inr (Or.inl rfl) | exact Or.inr (Or.inr rfl)) (by decide) (by decide)) (@a_cons _ _ _ _ _ _ (@e_var _ _ 2 _ _ (by rfl) (by first | exact Or.inl rfl | exact Or.inr (Or.inl rfl) | exact Or.inr (Or.inr rfl)) (by decide) (by decide)) a_nil (by rfl)) (by rfl)) (by rfl)) (by rfl)) (by rfl) (by decide) (by rfl) (by rfl)) (by rfl) (by first | exact Or.inl rfl | exact Or.inr rfl) (by rfl) (by first | exact .inl rfl | exact .inr rfl)) (@ss_one _ _ _ _ (@s_for _ _ _ _ _ _ _ _ _ PassesOwn.never rfl (@i_dic _ _ _ _ _ (@e_var _ _ 5 _ _ (by rfl) (by first | exact Or.inl rfl | exact Or.inr (Or.inl rfl) | exact Or.inr (Or.inr rfl)) (by decide) (by decide))) (@g_name _ _ _ 14 _ sc_law.nd (by rfl) (by first | exact Or.inl rfl | exact Or.inr rfl) (by first | exact .inl rfl | exact .inr rfl)) (@ss_cons _ _ _ _ _ _ (@s_set _ _ _ _ _ 15 _ _ sc_law.nd (@e_ixX _ _ _ _ _ _ _ hu (@e_var _ _ 5 _ _ (by rfl) (by first | exact Or.inl rfl | exact Or.inr (Or.inl rfl) | exact Or.inr (Or.inr rfl)) (by decide) (by decide)) (@e_var _ _ 14 _ _ (by rfl) (by first | exact Or.inl rfl | exact Or.inr (Or.inl rfl) | exact Or.inr (Or.inr rfl)) (by decide) (by decide)) (by intro _ _; rfl)) (by rfl) (by first | exact Or.inl rfl | exact Or.inr rfl) (by rfl) (by first | exact .inl rfl | exact .inr rfl)) (@ss_cons _ _ _ _ _ _ (@s_if _ _ _ _ _ _ _ _ _ (@t_eqY _ _ _ _ _ _ _ hv (@e_ixX _ _ _ _ _ _ _ hu (@e_var _ _ 6 _ _ (by rfl) (by first | exact Or.inl rfl | exact Or.inr (Or.inl rfl) | exact Or.inr (Or.inr rfl)) (by decide) (by decide)) (@e_var _ _ 14 _ _ (by rfl) (by first | exact Or.inl rfl | exact Or.inr (Or.inl rfl) | exact Or.inr (Or.inr rfl)) (by decide) (by decide)) (by intro _ _; rfl)) (@e_tup _ _ _ _ _ _ (@d_cons _ _ _ _ _ _ (@e_var _ _ 11 _ _ (by rfl) (by first | exact Or.inl rfl | exact Or.inr (Or.inl rfl) | exact Or.inr (Or.inr rfl)) (by decide) (by decide)) (@d_cons _ _ _ _ _ _ (@e_var _ _ 12 _ _ (by rfl) (by first | exact Or.inl rfl | exact Or.inr (Or.inl rfl) | exact Or.inr (Or.inr rfl)) (by decide) (by decide)) d_nil (by rfl)) (by rfl)))) (@ss_one _ _ _ _ (@s_set _ _ _ _ _ 15 _ _ sc_law.nd e_str (by rfl) (by first | exact Or.inl rfl | exact Or.inr rfl) (by rfl) (by first | exact .inl rfl | exact .inr rfl))) ss_nil) (@ss_one _ _ _ _ (@s_if _ _ _ _ _ _ _ _ _ (@t_neY _ _ _ _ _ _ _ hv (@e_ixX _ _ _ _ _ _ _ hu (@e_var _ _ 13 _ _ (by rfl) (by first | exact Or.inl rfl | exact Or.inr (Or.inl rfl) | exact Or.inr (Or.inr rfl)) (by decide) (by decide)) (@e_var _ _ 14 _ _ (by rfl) (by first | exact Or.inl rfl | exact Or.inr (Or.inl rfl) | exact Or.inr (Or.inr rfl)) (by decide) (by decide)) (by intro _ _; rfl)) (@e_var _ _ 15 _ _ (by rfl) (by first | exact Or.inl rfl | exact Or.inr (Or.inl rfl) | exact Or.inr (Or.inr rfl)) (by decide) (by decide))) (@ss_one _ _ _ _ (@s_ret _ _ _ _ _ e_bl)) ss_nil)))) (by intro _; rfl)))) (@ss_one _ _ _ _ (@s_if _ _ _ _ _ _ _ _ _ (@t_eqY _ _ _ _ _ _ _ hv (@e_mod _ _ _ _ _ _ _ (@e_ixX _ _ _ _ _ _ _ hu (@e_var _ _ 8 _ _ (by rfl) (by first | exact Or.inl rfl | exact Or.inr (Or.inl rfl) | exact Or.inr (Or.inr rfl)) (by decide) (by decide)) e_int (by intro _ _; rfl)) e_int) e_int) (@ss_one _ _ _ _ (@s_if _ _ _ _ _ _ _ _ _ (@t_neY _ _ _ _ _ _ _ hv (@e_call _ _ _ _ _ _ _ _ _ _ _ _ _ _ G_had (hr.mono (by decide)) T.m_had T.k_had B_had (@a_cons _ _ _ _ _ _ (@e_call _ _ _ _ _ _ _ _ _ _ _ _ _ _ G_law_put (hr.mono (by decide)) T.m_law_put T.k_law_put B_law_put (@a_cons _ _ _ _ _ _ (@e_var _ _ 4 _ _ (by rfl) (by first | exact Or.inl rfl | exact Or.inr (Or.inl rfl) | exact Or.inr (Or.inr rfl)) (by decide) (by decide)) (@a_cons _ _ _ _ _ _ (@e_var _ _ 9 _ _ (by rfl) (by first | exact Or.inl rfl | exact Or.inr (Or.inl rfl) | exact Or.inr (Or.inr rfl)) (by decide) (by decide)) (@a_cons _ _ _ _ _ _ (@e_var _ _ 10 _ _ (by rfl) (by first | exact Or.inl rfl | exact Or.inr (Or.inl rfl) | exact Or.inr (Or.inr rfl)) (by decide) (by decide)) (@a_cons _ _ _ _ _ _ e_str a_nil (by rfl)) (by rfl)) (by rfl)) (by rfl)) (by rfl) (by decide) (by rfl) (by rfl)) (@a_cons _ _ _ _ _ _ (@e_var _ _ 3 _ _ (by rfl) (by first | exact Or.inl rfl | exact Or.inr (Or.inl rfl) | exact Or.inr (Or.inr rfl)) (by decide) (by decide)) (@a_cons _ _ _ _ _ _ (@e_var _ _ 9 _ _ (by rfl) (by first | exact Or.inl rfl | exact Or.inr (Or.inl rfl) | exact Or.inr (Or.inr rfl)) (by decide) (by decide)) (@a_cons _ _ _ _ _ _ (@e_var _ _ 10 _ _ (by rfl) (by first | exact Or.inl rfl | exact Or.inr (Or.inl rfl) | exact Or.inr (Or.inr rfl)) (by decide) (by decide)) a_nil (by rfl)) (by rfl)) (by rfl)) (by rfl)) (by rfl) (by decide) (by rfl) (by rfl)) e_str) (@ss_one _ _ _ _ (@s_ret _ _ _ _ _ e_bl)) ss_nil)) (@ss_one _ _ _ _ (@s_if _ _ _ _ _ _ _ _ _ (@t_inZ _ _ _ _ _ _ _ hu e_str (@e_ixX _ _ _ _ _ _ _ hu (@e_ixX _ _ _ _ _ _ _ hu (@e_var _ _ 4 _ _ (by rfl) (by first | exact Or.inl rfl | exact Or.inr (Or.inl rfl) | exact Or.inr (Or.inr rfl)) (by decide) (by decide)) (@e_var _ _ 9 _ _ (by rfl) (by first | exact Or.inl rfl | exact Or.inr (Or.inl rfl) | exact Or.inr (Or.inr rfl)) (by decide) (by decide)) (by intro _ _; rfl)) e_int (by intro _ _; rfl)) (by rfl)) (@ss_cons _ _ _ _ _ _ (@s_set _ _ _ _ _ 16 _ _ sc_law.nd (@e_call _ _ _ _ _ _ _ _ _ _ _ _ _ _ G_law_put (hr.mono (by decide)) T.m_law_put T.k_law_put B_law_put (@a_cons _ _ _ _ _ _ (@e_var _ _ 4 _ _ (by rfl) (by first | exact Or.inl rfl | exact Or.inr (Or.inl rfl) | exact Or.inr (Or.inr rfl)) (by decide) (by decide)) (@a_cons _ _ _ _ _ _ (@e_var _ _ 9 _ _ (by rfl) (by first | exact Or.inl rfl | exact Or.inr (Or.inl rfl) | exact Or.inr (Or.inr rfl)) (by decide) (by decide)) (@a_cons _ _ _ _ _ _ e_str (@a_cons _ _ _ _ _ _ e_non a_nil (by rfl)) (by rfl)) (by rfl)) (by rfl)) (by rfl) (by decide) (by rfl) (by rfl)) (by rfl) (by first | exact Or.inl rfl | exact Or.inr rfl) (by rfl) (by first | exact .inl rfl | exact .inr rfl)) (@ss_one _ _ _ _ (@s_for _ _ _ _ _ _ _ _ _ PassesOwn.never rfl (@i_any _ _ _ _ _ (@e_var _ _ 2 _ _ (by rfl) (by first | exact Or.inl rfl | exact Or.inr (Or.inl rfl) | exact Or.inr (Or.inr rfl)) (by decide) (by decide))) (@g_name _ _ _ 17 _ sc_law.nd (by rfl) (by first | exact Or.inl rfl | exact Or.inr rfl) (by first | exact .inl rfl | exact .inr rfl)) (@ss_one _ _ _ _ (@s_if _ _ _ _ _ _ _ _ _ (@t_neY _ _ _ _ _ _ _ hv (@e_call _ _ _ _ _ _ _ _ _ _ _ _ _ _ G_had (hr.mono (by decide)) T.m_had T.k_had B_had (@a_cons _ _ _ _ _ _ (@e_var _ _ 16 _ _ (by rfl) (by first | exact Or.inl rfl | exact Or.inr (Or.inl rfl) | exact Or.inr (Or.inr rfl)) (by decide) (by decide)) (@a_cons _ _ _ _ _ _ (@e_var _ _ 3 _ _ (by rfl) (by first | exact Or.inl rfl | exact Or.inr (Or.inl rfl) | exact Or.inr (Or.inr rfl)) (by decide) (by decide)) (@a_cons _ _ _ _ _ _ (@e_var _ _ 9 _ _ (by rfl) (by first | exact Or.inl rfl | exact Or.inr (Or.inl rfl) | exact Or.inr (Or.inr rfl)) (by decide) (by decide)) (@a_cons _ _ _ _ _ _ (@e_var _ _ 17 _ _ (by rfl) (by first | exact Or.inl rfl | exact Or.inr (Or.inl rfl) | exact Or.inr (Or.inr rfl)) (by decide) (by decide)) a_nil (by rfl)) (by rfl)) (by rfl)) (by rfl)) (by rfl) (by decide) (by rfl) (by rfl)) (@e_dget _ _ _ _ _ _ _ _ _ hu (@e_ixX _ _ _ _ _ _ _ hu (@e_ixX _ _ _ _ _ _ _ hu (@e_var _ _ 4 _ _ (by rfl) (by first | exact Or.inl rfl | exact Or.inr (Or.inl rfl) | exact Or.inr (Or.inr rfl)) (by decide) (by decide)) (@e_var _ _ 9 _ _ (by rfl) (by first | exact Or.inl rfl | exact Or.inr (Or.inl rfl) | exact Or.inr (Or.inr rfl)) (by decide) (by decide)) (by intro _ _; rfl)) e_int (by intro _ _; rfl)) (@d_cons _ _ _ _ _ _ (@e_var _ _ 17 _ _ (by rfl) (by first | exact Or.inl rfl | exact Or.inr (Or.inl rfl) | exact Or.inr (Or.inr rfl)) (by decide) (by decide)) d_nil (by rfl)) (by rfl) (by rfl) (by rfl) (by rfl) (by rfl))) (@ss_one _ _ _ _ (@s_ret _ _ _ _ _ e_bl)) ss_nil)) (by intro _; rfl)))) ss_nil))))))))))) (by intro _; rfl)) (@ss_one _ _ _ _ (@s_ret _ _ _ _ _ (@e_eqT _ _ _ _ _ _ _ hv (@e_call _ _ _ _ _ _ _ _ _ _ _ _ _ _ G_law_all (hr.mono (by decide)) T.m_law_all T.k_law_all B_law_all (@a_cons _ _ _ _ _ _ (@e_var _ _ 4 _ _ (by rfl) (by first | exact Or.inl rfl | exact Or.inr (Or.inl rfl) | exact Or.inr (Or.inr rfl)) (by decide) (by decide)) (@a_cons _ _ _ _ _ _ (@e_var _ _ 3 _ _ (by rfl) (by first | exact Or.inl rfl | exact Or.inr (Or.inl rfl) | exact Or.inr (Or.inr rfl)) (by decide) (by decide)) (@a_cons _ _ _ _ _ _ (@e_var _ _ 1 _ _ (by rfl) (by first | exact Or.inl rfl | exact Or.inr (Or.inl rfl) | exact Or.inr (Or.inr rfl)) (by decide) (by decide)) (@a_cons _ _ _ _ _ _ (@e_var _ _ 2 _ _ (by rfl) (by first | exact Or.inl rfl | exact Or.inr (Or.inl rfl) | exact Or.inr (Or.inr rfl)) (by decide) (by decide)) a_nil (by rfl)) (by rfl)) (by rfl)) (by rfl)) (by rfl) (by decide) (by rfl) (by rfl)) (@e_var _ _ 5 _ _ (by rfl) (by first | exact Or.inl rfl | exact Or.inr (Or.inl rfl) | exact Or.inr (Or.inr rfl)) (by decide) (by decide))))))))))))
end
theorem all_mk {l : PySem.W.OpenLaw} {w : World} {K : PySem.W.Frag} {h : Heap} {mg : Str → Option Value} {fa flaw_names flaw_numbers flaw_table flaw_cell_at flaw_shelf fother_field fpair_behind fway fhad flaw_all flaw_ends flaw_mixed flaw_put flaw : Addr} (X : K.In h) (G : h.Ns mainGlobals mg) (hfa : mg "law" = some (.ref fa))
    {odlaw_names anlaw_names : Option Addr} {sllaw_names : Array (Option Value)} {oclaw_names kVlaw_names dclaw_names pmlaw_names cdlaw_names ctlaw_names : Value}
    {odlaw_numbers anlaw_numbers : Option Addr} {sllaw_numbers : Array (Option Value)} {oclaw_numbers kVlaw_numbers dclaw_numbers pmlaw_numbers cdlaw_numbers ctlaw_numbers : Value}
    {odlaw_table anlaw_table : Option Addr} {sllaw_table : Array (Option Value)} {oclaw_table kVlaw_table dclaw_table pmlaw_table cdlaw_table ctlaw_table : Value}
    {odlaw_cell_at anlaw_cell_at : Option Addr} {sllaw_cell_at : Array (Option Value)} {oclaw_cell_at kVlaw_cell_at dclaw_cell_at pmlaw_cell_at cdlaw_cell_at ctlaw_cell_at : Value}
    {odlaw_shelf anlaw_shelf : Option Addr} {sllaw_shelf : Array (Option Value)} {oclaw_shelf kVlaw_shelf dclaw_shelf pmlaw_shelf cdlaw_shelf ctlaw_shelf : Value}
    {odother_field another_field : Option Addr} {slother_field : Array (Option Value)} {ocother_field kVother_field dcother_field pmother_field cdother_field ctother_field : Value}
    {odpair_behind anpair_behind : Option Addr} {slpair_behind : Array (Option Value)} {ocpair_behind kVpair_behind dcpair_behind pmpair_behind cdpair_behind ctpair_behind : Value}
    {odway anway : Option Addr} {slway : Array (Option Value)} {ocway kVway dcway pmway cdway ctway : Value}
    {odhad anhad : Option Addr} {slhad : Array (Option Value)} {ochad kVhad dchad pmhad cdhad cthad : Value}
    {odlaw_all anlaw_all : Option Addr} {sllaw_all : Array (Option Value)} {oclaw_all kVlaw_all dclaw_all pmlaw_all cdlaw_all ctlaw_all : Value}
    {odlaw_ends anlaw_ends : Option Addr} {sllaw_ends : Array (Option Value)} {oclaw_ends kVlaw_ends dclaw_ends pmlaw_ends cdlaw_ends ctlaw_ends : Value}
    {odlaw_mixed anlaw_mixed : Option Addr} {sllaw_mixed : Array (Option Value)} {oclaw_mixed kVlaw_mixed dclaw_mixed pmlaw_mixed cdlaw_mixed ctlaw_mixed : Value}
    {odlaw_put anlaw_put : Option Addr} {sllaw_put : Array (Option Value)} {oclaw_put kVlaw_put dclaw_put pmlaw_put cdlaw_put ctlaw_put : Value}
    {odlaw anlaw : Option Addr} {sllaw : Array (Option Value)} {oclaw kVlaw dclaw pmlaw cdlaw ctlaw : Value}
    (alaw_names : PySem.W.nsIn K mainGlobals "_law_names" = some (some (.ref flaw_names))) (llaw_names : K.lookup flaw_names = some ⟨oclaw_names, odlaw_names, .func (PySem.W.fnOf "_law_names" "_law_names" (defArgs st_law_names) (defBody st_law_names) (defScope st_law_names) .none kVlaw_names dclaw_names pmlaw_names anlaw_names cdlaw_names ctlaw_names), sllaw_names⟩) (claw_names : PySem.W.codeIn K cdlaw_names "_law_names" = true) (klaw_names : PySem.W.keepIn K (.ref flaw_names) = true)
    (alaw_numbers : PySem.W.nsIn K mainGlobals "_law_numbers" = some (some (.ref flaw_numbers))) (llaw_numbers : K.lookup flaw_numbers = some ⟨oclaw_numbers, odlaw_numbers, .func (PySem.W.fnOf "_law_numbers" "_law_numbers" (defArgs st_law_numbers) (defBody st_law_numbers) (defScope st_law_numbers) .none kVlaw_numbers dclaw_numbers pmlaw_numbers anlaw_numbers cdlaw_numbers ctlaw_numbers), sllaw_numbers⟩) (claw_numbers : PySem.W.codeIn K cdlaw_numbers "_law_numbers" = true) (klaw_numbers : PySem.W.keepIn K (.ref flaw_numbers) = true)
    (alaw_table : PySem.W.nsIn K mainGlobals "_law_table" = some (some (.ref flaw_table))) (llaw_table : K.lookup flaw_table = some ⟨oclaw_table, odlaw_table, .func (PySem.W.fnOf "_law_table" "_law_table" (defArgs st_law_table) (defBody st_law_table) (defScope st_law_table) .none kVlaw_table dclaw_table pmlaw_table anlaw_table cdlaw_table ctlaw_table), sllaw_table⟩) (claw_table : PySem.W.codeIn K cdlaw_table "_law_table" = true) (klaw_table : PySem.W.keepIn K (.ref flaw_table) = true)
    (alaw_cell_at : PySem.W.nsIn K mainGlobals "_law_cell_at" = some (some (.ref flaw_cell_at))) (llaw_cell_at : K.lookup flaw_cell_at = some ⟨oclaw_cell_at, odlaw_cell_at, .func (PySem.W.fnOf "_law_cell_at" "_law_cell_at" (defArgs st_law_cell_at) (defBody st_law_cell_at) (defScope st_law_cell_at) .none kVlaw_cell_at dclaw_cell_at pmlaw_cell_at anlaw_cell_at cdlaw_cell_at ctlaw_cell_at), sllaw_cell_at⟩) (claw_cell_at : PySem.W.codeIn K cdlaw_cell_at "_law_cell_at" = true) (klaw_cell_at : PySem.W.keepIn K (.ref flaw_cell_at) = true)
    (alaw_shelf : PySem.W.nsIn K mainGlobals "_law_shelf" = some (some (.ref flaw_shelf))) (llaw_shelf : K.lookup flaw_shelf = some ⟨oclaw_shelf, odlaw_shelf, .func (PySem.W.fnOf "_law_shelf" "_law_shelf" (defArgs st_law_shelf) (defBody st_law_shelf) (defScope st_law_shelf) .none kVlaw_shelf dclaw_shelf pmlaw_shelf anlaw_shelf cdlaw_shelf ctlaw_shelf), sllaw_shelf⟩) (claw_shelf : PySem.W.codeIn K cdlaw_shelf "_law_shelf" = true) (klaw_shelf : PySem.W.keepIn K (.ref flaw_shelf) = true)
    (aother_field : PySem.W.nsIn K mainGlobals "other_field" = some (some (.ref fother_field))) (lother_field : K.lookup fother_field = some ⟨ocother_field, odother_field, .func (PySem.W.fnOf "other_field" "other_field" (defArgs st_other_field) (defBody st_other_field) (defScope st_other_field) .none kVother_field dcother_field pmother_field another_field cdother_field ctother_field), slother_field⟩) (cother_field : PySem.W.codeIn K cdother_field "other_field" = true) (kother_field : PySem.W.keepIn K (.ref fother_field) = true)
    (apair_behind : PySem.W.nsIn K mainGlobals "pair_behind" = some (some (.ref fpair_behind))) (lpair_behind : K.lookup fpair_behind = some ⟨ocpair_behind, odpair_behind, .func (PySem.W.fnOf "pair_behind" "pair_behind" (defArgs st_pair_behind) (defBody st_pair_behind) (defScope st_pair_behind) .none kVpair_behind dcpair_behind pmpair_behind anpair_behind cdpair_behind ctpair_behind), slpair_behind⟩) (cpair_behind : PySem.W.codeIn K cdpair_behind "pair_behind" = true) (kpair_behind : PySem.W.keepIn K (.ref fpair_behind) = true)
    (away : PySem.W.nsIn K mainGlobals "way" = some (some (.ref fway))) (lway : K.lookup fway = some ⟨ocway, odway, .func (PySem.W.fnOf "way" "way" (defArgs st_way) (defBody st_way) (defScope st_way) .none kVway dcway pmway anway cdway ctway), slway⟩) (cway : PySem.W.codeIn K cdway "way" = true) (kway : PySem.W.keepIn K (.ref fway) = true)
    (ahad : PySem.W.nsIn K mainGlobals "had" = some (some (.ref fhad))) (lhad : K.lookup fhad = some ⟨ochad, odhad, .func (PySem.W.fnOf "had" "had" (defArgs st_had) (defBody st_had) (defScope st_had) .none kVhad dchad pmhad anhad cdhad cthad), slhad⟩) (chad : PySem.W.codeIn K cdhad "had" = true) (khad : PySem.W.keepIn K (.ref fhad) = true)
    (alaw_all : PySem.W.nsIn K mainGlobals "_law_all" = some (some (.ref flaw_all))) (llaw_all : K.lookup flaw_all = some ⟨oclaw_all, odlaw_all, .func (PySem.W.fnOf "_law_all" "_law_all" (defArgs st_law_all) (defBody st_law_all) (defScope st_law_all) .none kVlaw_all dclaw_all pmlaw_all anlaw_all cdlaw_all ctlaw_all), sllaw_all⟩) (claw_all : PySem.W.codeIn K cdlaw_all "_law_all" = true) (klaw_all : PySem.W.keepIn K (.ref flaw_all) = true)
    (alaw_ends : PySem.W.nsIn K mainGlobals "_law_ends" = some (some (.ref flaw_ends))) (llaw_ends : K.lookup flaw_ends = some ⟨oclaw_ends, odlaw_ends, .func (PySem.W.fnOf "_law_ends" "_law_ends" (defArgs st_law_ends) (defBody st_law_ends) (defScope st_law_ends) .none kVlaw_ends dclaw_ends pmlaw_ends anlaw_ends cdlaw_ends ctlaw_ends), sllaw_ends⟩) (claw_ends : PySem.W.codeIn K cdlaw_ends "_law_ends" = true) (klaw_ends : PySem.W.keepIn K (.ref flaw_ends) = true)
    (alaw_mixed : PySem.W.nsIn K mainGlobals "_law_mixed" = some (some (.ref flaw_mixed))) (llaw_mixed : K.lookup flaw_mixed = some ⟨oclaw_mixed, odlaw_mixed, .func (PySem.W.fnOf "_law_mixed" "_law_mixed" (defArgs st_law_mixed) (defBody st_law_mixed) (defScope st_law_mixed) .none kVlaw_mixed dclaw_mixed pmlaw_mixed anlaw_mixed cdlaw_mixed ctlaw_mixed), sllaw_mixed⟩) (claw_mixed : PySem.W.codeIn K cdlaw_mixed "_law_mixed" = true) (klaw_mixed : PySem.W.keepIn K (.ref flaw_mixed) = true)
    (alaw_put : PySem.W.nsIn K mainGlobals "_law_put" = some (some (.ref flaw_put))) (llaw_put : K.lookup flaw_put = some ⟨oclaw_put, odlaw_put, .func (PySem.W.fnOf "_law_put" "_law_put" (defArgs st_law_put) (defBody st_law_put) (defScope st_law_put) .none kVlaw_put dclaw_put pmlaw_put anlaw_put cdlaw_put ctlaw_put), sllaw_put⟩) (claw_put : PySem.W.codeIn K cdlaw_put "_law_put" = true) (klaw_put : PySem.W.keepIn K (.ref flaw_put) = true)
    (alaw : PySem.W.nsIn K mainGlobals "law" = some (some (.ref flaw))) (llaw : K.lookup flaw = some ⟨oclaw, odlaw, .func (PySem.W.fnOf "law" "law" (defArgs st_law) (defBody st_law) (defScope st_law) .none kVlaw dclaw pmlaw anlaw cdlaw ctlaw), sllaw⟩) (claw : PySem.W.codeIn K cdlaw "law" = true) (klaw : PySem.W.keepIn K (.ref flaw) = true)
    (zdict : PySem.W.nsIn K mainGlobals "dict" = some none)
    (zenumerate : PySem.W.nsIn K mainGlobals "enumerate" = some none)
    (zint : PySem.W.nsIn K mainGlobals "int" = some none)
    (zlen : PySem.W.nsIn K mainGlobals "len" = some none)
    (zrange : PySem.W.nsIn K mainGlobals "range" = some none)
    : ∃ fd : FuncData, (∀ (s : Shared) (v : Value), BindsTo s fd ⟨[v], []⟩ [("_law_script", v)]) ∧ ∀ base : Heap, K.In base → base.Ns mainGlobals mg → FnOk l.prog w K mg base CX0 6 fa fd ["_law_script"] (spOf K 1 g_law) := by
  have e := hfa.symm.trans (PySem.W.mg_of X G alaw)
  cases e
  have T : Txt K mg flaw_names flaw_numbers flaw_table flaw_cell_at flaw_shelf fother_field fpair_behind fway fhad flaw_all flaw_ends flaw_mixed flaw_put _ := ⟨PySem.W.mg_none_of X G zdict, PySem.W.mg_none_of X G zenumerate, PySem.W.mg_none_of X G zint, PySem.W.mg_none_of X G zlen, PySem.W.mg_none_of X G zrange, PySem.W.mg_of X G alaw_names, klaw_names, PySem.W.mg_of X G alaw_numbers, klaw_numbers, PySem.W.mg_of X G alaw_table, klaw_table, PySem.W.mg_of X G alaw_cell_at, klaw_cell_at, PySem.W.mg_of X G alaw_shelf, klaw_shelf, PySem.W.mg_of X G aother_field, kother_field, PySem.W.mg_of X G apair_behind, kpair_behind, PySem.W.mg_of X G away, kway, PySem.W.mg_of X G ahad, khad, PySem.W.mg_of X G alaw_all, klaw_all, PySem.W.mg_of X G alaw_ends, klaw_ends, PySem.W.mg_of X G alaw_mixed, klaw_mixed, PySem.W.mg_of X G alaw_put, klaw_put, PySem.W.mg_of X G alaw, klaw⟩
  have Flaw_names := fun_mk (st := st_law_names) llaw_names claw_names klaw_names
  have Flaw_numbers := fun_mk (st := st_law_numbers) llaw_numbers claw_numbers klaw_numbers
  have Flaw_table := fun_mk (st := st_law_table) llaw_table claw_table klaw_table
  have Flaw_cell_at := fun_mk (st := st_law_cell_at) llaw_cell_at claw_cell_at klaw_cell_at
  have Flaw_shelf := fun_mk (st := st_law_shelf) llaw_shelf claw_shelf klaw_shelf
  have Fother_field := fun_mk (st := st_other_field) lother_field cother_field kother_field
  have Fpair_behind := fun_mk (st := st_pair_behind) lpair_behind cpair_behind kpair_behind
  have Fway := fun_mk (st := st_way) lway cway kway
  have Fhad := fun_mk (st := st_had) lhad chad khad
  have Flaw_all := fun_mk (st := st_law_all) llaw_all claw_all klaw_all
  have Flaw_ends := fun_mk (st := st_law_ends) llaw_ends claw_ends klaw_ends
  have Flaw_mixed := fun_mk (st := st_law_mixed) llaw_mixed claw_mixed klaw_mixed
  have Flaw_put := fun_mk (st := st_law_put) llaw_put claw_put klaw_put
  have Flaw := fun_mk (st := st_law) llaw claw klaw
  have blaw_names := Flaw_names.binds (ps := ["_law_number", "_law_many"]) fun _ _ _ _ _ _ us hl => of2 (fun _ _ => rfl) us hl
  have blaw_numbers := Flaw_numbers.binds (ps := ["_law_cell", "_law_many"]) fun _ _ _ _ _ _ us hl => of2 (fun _ _ => rfl) us hl
  have blaw_table := Flaw_table.binds (ps := ["_law_cell", "_law_fields"]) fun _ _ _ _ _ _ us hl => of2 (fun _ _ => rfl) us hl
  have blaw_cell_at := Flaw_cell_at.binds (ps := ["_law_script", "_law_k"]) fun _ _ _ _ _ _ us hl => of2 (fun _ _ => rfl) us hl
  have blaw_shelf := Flaw_shelf.binds (ps := ["_law_script", "_law_keys", "_law_fields"]) fun _ _ _ _ _ _ us hl => of3 (fun _ _ _ => rfl) us hl
  have bother_field := Fother_field.binds (ps := ["table", "kind", "field"]) fun _ _ _ _ _ _ us hl => of3 (fun _ _ _ => rfl) us hl
  have bpair_behind := Fpair_behind.binds (ps := ["shelf", "table", "pair"]) fun _ _ _ _ _ _ us hl => of3 (fun _ _ _ => rfl) us hl
  have bway := Fway.binds (ps := ["shelf", "table", "key", "field"]) fun _ _ _ _ _ _ us hl => of4 (fun _ _ _ _ => rfl) us hl
  have bhad := Fhad.binds (ps := ["shelf", "table", "key", "field"]) fun _ _ _ _ _ _ us hl => of4 (fun _ _ _ _ => rfl) us hl
  have blaw_all := Flaw_all.binds (ps := ["_law_shelf_here", "_law_table_here", "_law_keys", "_law_fields"]) fun _ _ _ _ _ _ us hl => of4 (fun _ _ _ _ => rfl) us hl
  have blaw_ends := Flaw_ends.binds (ps := ["_law_shelf_here", "_law_table_here", "_law_keys", "_law_fields"]) fun _ _ _ _ _ _ us hl => of4 (fun _ _ _ _ => rfl) us hl
  have blaw_mixed := Flaw_mixed.binds (ps := ["_law_cell", "_law_by"]) fun _ _ _ _ _ _ us hl => of2 (fun _ _ => rfl) us hl
  have blaw_put := Flaw_put.binds (ps := ["_law_shelf_here", "_law_key", "_law_field", "_law_text"]) fun _ _ _ _ _ _ us hl => of4 (fun _ _ _ _ => rfl) us hl
  refine ⟨PySem.W.fnOf "law" "law" (defArgs st_law) (defBody st_law) (defScope st_law) .none kVlaw dclaw pmlaw anlaw cdlaw ctlaw, fun s v => .of_eq rfl, fun base kb nb => ?_⟩
  have Glaw_names := ok_law_names (P := l.prog) (w := w) (base := base) Flaw_names T
  have Glaw_numbers := ok_law_numbers (P := l.prog) (w := w) (base := base) Flaw_numbers T
  have Glaw_table := ok_law_table (P := l.prog) (w := w) (base := base) Flaw_table T Glaw_numbers blaw_numbers
  have Glaw_cell_at := ok_law_cell_at (P := l.prog) (w := w) (base := base) Flaw_cell_at T
  have Glaw_shelf := ok_law_shelf (P := l.prog) (w := w) (base := base) Flaw_shelf T Glaw_numbers blaw_numbers Glaw_cell_at blaw_cell_at
  have Gother_field := ok_other_field (P := l.prog) (w := w) (base := base) Fother_field T
  have Gpair_behind := ok_pair_behind (P := l.prog) (w := w) (base := base) Fpair_behind T Gother_field bother_field
  have Gway := ok_way (P := l.prog) (w := w) (base := base) Fway T Gpair_behind bpair_behind
  have Ghad := ok_had (P := l.prog) (w := w) (base := base) Fhad T Gway bway
  have Glaw_all := ok_law_all (P := l.prog) (w := w) (base := base) Flaw_all T Ghad bhad
  have Glaw_ends := ok_law_ends (P := l.prog) (w := w) (base := base) Flaw_ends T Gway bway
  have Glaw_mixed := ok_law_mixed (P := l.prog) (w := w) (base := base) Flaw_mixed T
  have Glaw_put := ok_law_put (P := l.prog) (w := w) (base := base) Flaw_put T
  exact ok_law Flaw T Glaw_names blaw_names Glaw_numbers blaw_numbers Glaw_table blaw_table Glaw_cell_at blaw_cell_at Glaw_shelf blaw_shelf Ghad bhad Glaw_all blaw_all Glaw_ends blaw_ends Glaw_mixed blaw_mixed Glaw_put blaw_put
theorem law_sp {K : PySem.W.Frag} {H : Hp} {a : Addr} {ns : List Int} (hn : g_law [.lst (ns.map D.int)] = some (.fz (.bl true))) (hO : Only H) (hS : SqL K H a (ns.map V.int)) : spOf K 1 g_law [.ref a] H (fun v _ => v = .bl true) fun _ _ _ => False := by
  refine ⟨H, [.lst (ns.map D.int)], .fz (.bl true), Same.refl H, .cons (.lst hS (ints_rep ns)) .nil, rfl, hn, fun v H' F' ms _ _ _ _ sh _ _ => ?_⟩
  cases shape_fz sh
  rfl
theorem walk {l : PySem.W.OpenLaw} {q : Program} {loose : List Str} {XP : (Str → Option Value) → Heap → Prop} {YP : World → Heap → Prop} {d : DefRec} {K : Params → PySem.W.Frag} (hn : l.most = some 63) (hdf : d.params.defaults = [])
    (hY : ∀ (w : World) (h : Heap), YP w h → (K w.params).In h)
    (F : ∀ (w : World) (mg : Str → Option Value) (fa : Addr) (h : Heap), (K w.params).In h → h.Ns mainGlobals mg → mg d.name = some (.ref fa) →
      ∃ fd : FuncData, (∀ (s : Shared) (u : Value), BindsTo s fd ⟨[u], []⟩ [("_law_script", u)]) ∧ ∀ base : Heap, (K w.params).In base → base.Ns mainGlobals mg → FnOk l.prog w (K w.params) mg base CX0 6 fa fd ["_law_script"] (spOf (K w.params) 1 g_law))
    (hlaw : ∀ ns : List Int, ns.length ≤ 63 → g_law [.lst (ns.map D.int)] = some (.fz (.bl true))) :
    PySem.W.WalkO q loose XP YP l.row.toRowW d [] (fun f vs => PySem.call f vs) :=
  L2.walk_ofK (n := 63) (k := 6) (x := "_law_script") (CX := CX0) (sp := fun K => spOf K 1 g_law) hn (by decide) hdf ⟨rfl, by decide, by decide⟩ hY F (fun _ _ _ ns hl hO hS => law_sp (hlaw ns hl) hO hS) fun _ _ _ _ z => z
end Gen

namespace My
open DL PySem
/-! _law_names -/
noncomputable abbrev LT22 : Str := "abcdefghjlmpqrstuvwxyz"
theorem lt22_len : LT22.cps.toList.length = 22 := by decide +kernel
theorem lt22_line : LT22.length ≤ PySem.sizeLine := by decide +kernel
noncomputable def LC (j : Nat) : Nat := LT22.cps.toList.getD j 0
theorem lc_inj : ∀ i < 22, ∀ j < 22, LC i = LC j → i = j := by decide +kernel
theorem lc_not : ∀ i < 22, LC i ≠ 105 ∧ LC i ≠ 78 ∧ LC i ≠ 32 := by decide +kernel
theorem lc_at (i : Int) : L2.atI LT22.cps.toList (i % 22) = some (LC (i % 22).toNat) := by
  have h0 : 0 ≤ i % 22 := Int.emod_nonneg _ (by decide)
  have h1 : i % 22 < 22 := Int.emod_lt_of_pos _ (by decide)
  obtain ⟨j, hj⟩ := Int.eq_ofNat_of_zero_le h0
  rw [hj]
  have hjl : j < LT22.cps.toList.length := by rw [lt22_len]; omega
  refine at_nat _ _ _ ?_
  unfold LC
  rw [List.getD_eq_getElem?_getD, show ((j : Int)).toNat = j by omega, List.getElem?_eq_getElem hjl]
  rfl
noncomputable def sgn (x : Int) (at' : Int) (t : Nat) (k : Nat) : Nat := LC ((x / ((k : Int) + 2) + (t : Int) * (if (k : Int) = at' then 1 else 0)) % 22).toNat
noncomputable def nmL (x at' : Int) (size t : Nat) : List Nat := (List.range size).map (sgn x at' t)
theorem sign_turn (a1 a3 a5 : Option SV) (x at' : Int) (t k : Nat) (hk : k ≤ 100) (w : List Nat) (hw : w.length ≤ 1000) (x9 : Option SV) :
    ∃ y9, Gen.b_law_names_1 [some (.fz (.int x)), a1, some (.fz (.str LT22)), a3, some (.fz (.int at')), a5, some (.fz (.int (t : Int))), some (.fz (.str (S w))), some (.fz (.int (k : Int))), x9] = some (.nx [some (.fz (.int x)), a1, some (.fz (.str LT22)), a3, some (.fz (.int at')), a5, some (.fz (.int (t : Int))), some (.fz (.str (S (w ++ [sgn x at' t k])))), some (.fz (.int (k : Int))), y9]) := by
  have go : ∀ ki ti : Int, 0 ≤ ki → ki ≤ 100 → ∀ b : Int, (b = 0 ∨ b = 1) → (if ki = at' then (1 : Int) else 0) = b → ∀ ch, L2.atI LT22.cps.toList ((x / (ki + 2) + ti * b) % 22) = some ch →
      Gen.b_law_names_1 [some (.fz (.int x)), a1, some (.fz (.str LT22)), a3, some (.fz (.int at')), a5, some (.fz (.int ti)), some (.fz (.str (S w))), some (.fz (.int ki)), x9] = some (.nx [some (.fz (.int x)), a1, some (.fz (.str LT22)), a3, some (.fz (.int at')), a5, some (.fz (.int ti)), some (.fz (.str (S (w ++ [ch])))), some (.fz (.int ki)), some (.fz (.int (ti * b)))]) := by
    intro ki ti h0 h1 b hb hif ch hch
    have hm := mulI_r (i := ti) (j := b) (by omega)
    have d1 : 0 < ki + 2 := by omega
    have d2 : ki + 2 < 1073741824 := by omega
    have z : (S w).length + (⟨#[ch]⟩ : Str).length ≤ PySem.sizeLine := line_of (by rw [S_len w]; show w.length + 1 ≤ _; omega)
    have ea : S w ++ (⟨#[ch]⟩ : Str) = S (w ++ [ch]) := S_app w [ch]
    by_cases hk : ki = at'
    · rw [if_pos hk] at hif
      subst hif
      unfold Gen.b_law_names_1
      simp [hk] at hm hch d1 d2 ⊢
      simp [hm, hch, d1, d2, lt22_line, z, ea]
    · rw [if_neg hk] at hif
      subst hif
      unfold Gen.b_law_names_1
      simp [hk] at hm hch ⊢
      simp [hm, hch, d1, d2, lt22_line, z, ea]
  refine ⟨_, go (k : Int) (t : Int) (by omega) (by omega) (if (k : Int) = at' then 1 else 0) (by split <;> simp) rfl (sgn x at' t k) (lc_at _)⟩
theorem name_loop (a1 a3 a5 : Option SV) (x at' : Int) (t size : Nat) (hs : size ≤ 100) (x8 x9 : Option SV) :
    ∃ y8 y9, forD (gNameF 8) Gen.b_law_names_1 (nats 0 size) [some (.fz (.int x)), a1, some (.fz (.str LT22)), a3, some (.fz (.int at')), a5, some (.fz (.int (t : Int))), some (.fz (.str (S []))), x8, x9] = some (.nx [some (.fz (.int x)), a1, some (.fz (.str LT22)), a3, some (.fz (.int at')), a5, some (.fz (.int (t : Int))), some (.fz (.str (S (nmL x at' size t)))), y8, y9]) := by
  obtain ⟨δ', e, y8, y9, hy⟩ := forD_nats (tg := gNameF 8) (body := Gen.b_law_names_1) (P := fun i δ => ∃ y8 y9, δ = [some (.fz (.int x)), a1, some (.fz (.str LT22)), a3, some (.fz (.int at')), a5, some (.fz (.int (t : Int))), some (.fz (.str (S (nmL x at' i t)))), y8, y9]) size 0 [some (.fz (.int x)), a1, some (.fz (.str LT22)), a3, some (.fz (.int at')), a5, some (.fz (.int (t : Int))), some (.fz (.str (S []))), x8, x9] ⟨x8, x9, rfl⟩ (fun i _ hi δ ⟨y8, y9, hy⟩ => by
    subst hy
    obtain ⟨z9, e⟩ := sign_turn a1 a3 a5 x at' t i (by omega) (nmL x at' i t) (by unfold nmL; simp; omega) y9
    refine ⟨[some (.fz (.int x)), a1, some (.fz (.str LT22)), a3, some (.fz (.int at')), a5, some (.fz (.int (t : Int))), some (.fz (.str (S (nmL x at' i t)))), some (.fz (.int (i : Int))), y9], _, by simp, e, some (.fz (.int (i : Int))), z9, ?_⟩
    have : nmL x at' (i + 1) t = nmL x at' i t ++ [sgn x at' t i] := by unfold nmL; rw [List.range_succ, List.map_append]; rfl
    rw [this])
  subst hy
  rw [Nat.zero_add] at e
  exact ⟨y8, y9, e⟩
noncomputable def namesL (x at' : Int) (size m : Nat) : List Str := (List.range m).map fun t => S (nmL x at' size t)
theorem names_loop (a1 : Option SV) (x at' : Int) (size : Nat) (hs : size ≤ 8) (m : Nat) (hm : m ≤ 100) :
    ∃ δ, forD (gNameF 6) Gen.b_law_names_2 (nats 0 m) [some (.fz (.int x)), a1, some (.fz (.str LT22)), some (.fz (.int (size : Int))), some (.fz (.int at')), some (.ol []), none, none, none, none] = some (.nx δ) ∧ δ[5]? = some (some (.ol ((namesL x at' size m).map D.str))) := by
  obtain ⟨δ', e, y6, y7, y8, y9, hy⟩ := forD_nats (tg := gNameF 6) (body := Gen.b_law_names_2) (P := fun i δ => ∃ y6 y7 y8 y9, δ = [some (.fz (.int x)), a1, some (.fz (.str LT22)), some (.fz (.int (size : Int))), some (.fz (.int at')), some (.ol ((namesL x at' size i).map D.str)), y6, y7, y8, y9]) m 0 [some (.fz (.int x)), a1, some (.fz (.str LT22)), some (.fz (.int (size : Int))), some (.fz (.int at')), some (.ol []), none, none, none, none] ⟨none, none, none, none, rfl⟩ (fun i _ hi δ ⟨y6, y7, y8, y9, hy⟩ => by
    subst hy
    obtain ⟨z8, z9, e⟩ := name_loop a1 (some (.fz (.int (size : Int)))) (some (.ol ((namesL x at' size i).map D.str))) x at' i size (by omega) y8 y9
    have g1 : rngP (size : Int) := rngP_nat (by omega)
    have et : ((size : Int)).toNat = size := by omega
    have z : (namesL x at' size i).length < PySem.sizeLine := line_lt (by unfold namesL; simp; omega)
    have he : Str.ofString "" = S [] := rfl
    have hr : namesL x at' size (i + 1) = namesL x at' size i ++ [S (nmL x at' size i)] := by unfold namesL; rw [List.range_succ, List.map_append]; rfl
    refine ⟨[some (.fz (.int x)), a1, some (.fz (.str LT22)), some (.fz (.int (size : Int))), some (.fz (.int at')), some (.ol ((namesL x at' size i).map D.str)), some (.fz (.int (i : Int))), y7, y8, y9], [some (.fz (.int x)), a1, some (.fz (.str LT22)), some (.fz (.int (size : Int))), some (.fz (.int at')), some (.ol ((namesL x at' size (i + 1)).map D.str)), some (.fz (.int (i : Int))), some (.fz (.str (S (nmL x at' size i)))), z8, z9], by simp, ?_, _, _, _, _, rfl⟩
    rw [hr]
    generalize namesL x at' size i = NL at *
    unfold Gen.b_law_names_2
    simp [-forD, he, g1, et, ints_nats, e, z])
  subst hy
  rw [Nat.zero_add] at e
  exact ⟨_, e, rfl⟩
structure Nam (w : Str) : Prop where
  one : 1 ≤ w.length
  most : w.length ≤ 8
  no : ∀ c ∈ w.cps.toList, c ≠ 105 ∧ c ≠ 78 ∧ c ≠ 32
theorem names_ok (x : Int) (h0 : 0 ≤ x) (m : Nat) (hm : m ≤ 20) : ∃ ws : List Str, Gen.g_law_names [.int x, .int (m : Int)] = some (.ol (ws.map D.str)) ∧ ws.length = m ∧ ws.Nodup ∧ ∀ w ∈ ws, Nam w := by
  have s0 : 0 ≤ x % 8 := Int.emod_nonneg _ (by decide)
  have s1 : x % 8 < 8 := Int.emod_lt_of_pos _ (by decide)
  obtain ⟨size, hs⟩ : ∃ n : Nat, (n : Int) = 1 + x % 8 := ⟨(1 + x % 8).toNat, by omega⟩
  have hs1 : 1 ≤ size := by omega
  have hs8 : size ≤ 8 := by omega
  have p0 : (0 : Int) < (size : Int) := by omega
  have a0 : 0 ≤ x / 8 % (size : Int) := Int.emod_nonneg _ (by omega)
  have a1 : x / 8 % (size : Int) < (size : Int) := Int.emod_lt_of_pos _ p0
  generalize hat : x / 8 % (size : Int) = at' at a0 a1
  obtain ⟨δ, e, hδ⟩ := names_loop (some (.fz (.int (m : Int)))) x at' size hs8 m (by omega)
  have g1 : rngP (m : Int) := rngP_nat (by omega)
  have et : ((m : Int)).toNat = m := by omega
  refine ⟨namesL x at' size m, ?_, by unfold namesL; simp, ?_, fun w hw => ?_⟩
  · generalize namesL x at' size m = NL at hδ
    unfold Gen.g_law_names Gen.f_law_names
    have hs0 : 0 < size := by omega
    simp [-forD, ← hs, p0, hs0, hat, g1, et, ints_nats, e, hδ]
  · unfold namesL
    refine List.Pairwise.map _ (R := fun a b => a ≠ b ∧ a < m ∧ b < m) (fun a b h => ?_) ?_
    · intro z
      obtain ⟨hne, ha, hb⟩ := h
      have hl := S_inj z
      obtain ⟨k, hk⟩ := Int.eq_ofNat_of_zero_le a0
      have hks : k < size := by omega
      have e1 : (nmL x at' size a)[k]? = some (sgn x at' a k) := by unfold nmL; rw [List.getElem?_map, List.getElem?_range hks]; rfl
      have e2 : (nmL x at' size b)[k]? = some (sgn x at' b k) := by unfold nmL; rw [List.getElem?_map, List.getElem?_range hks]; rfl
      rw [hl, e2] at e1
      have e3 := Option.some.inj e1
      unfold sgn at e3
      rw [if_pos hk.symm] at e3
      have q := fun y : Int => (Int.emod_nonneg y (show (22 : Int) ≠ 0 by decide))
      have q' := fun y : Int => (Int.emod_lt_of_pos y (show (0 : Int) < 22 by decide))
      have r1 := q (x / ((k : Int) + 2) + (a : Int) * 1)
      have r2 := q' (x / ((k : Int) + 2) + (a : Int) * 1)
      have r3 := q (x / ((k : Int) + 2) + (b : Int) * 1)
      have r4 := q' (x / ((k : Int) + 2) + (b : Int) * 1)
      have e4 := lc_inj _ (by omega) _ (by omega) e3
      generalize x / ((k : Int) + 2) = y at *
      omega
    · have nd : (List.range m).Pairwise (fun a b => a < b) := List.pairwise_lt_range
      refine (List.Pairwise.and_mem.mp nd).imp fun {a b} h => ?_
      exact ⟨Nat.ne_of_lt h.2.2, List.mem_range.mp h.1, List.mem_range.mp h.2.1⟩
  · unfold namesL at hw
    obtain ⟨t, _, rfl⟩ := List.mem_map.mp hw
    have hl : (S (nmL x at' size t)).length = size := by rw [S_len]; unfold nmL; simp
    refine ⟨by rw [hl]; exact hs1, by rw [hl]; exact hs8, fun c hc => ?_⟩
    rw [S_list] at hc
    unfold nmL at hc
    obtain ⟨k, _, rfl⟩ := List.mem_map.mp hc
    have r1 := Int.emod_nonneg (x / ((k : Int) + 2) + (t : Int) * (if (k : Int) = at' then 1 else 0)) (show (22 : Int) ≠ 0 by decide)
    have r2 := Int.emod_lt_of_pos (x / ((k : Int) + 2) + (t : Int) * (if (k : Int) = at' then 1 else 0)) (show (0 : Int) < 22 by decide)
    exact lc_not _ (by omega)
end My

namespace My
open DL PySem
/-! _law_numbers, in two ways -/
noncomputable def Num (x : Int) : Prop := 0 ≤ x ∧ x < 2147483647
theorem num_of {m : Int} (h : 0 < m ∧ m ≤ 2147483647) (x : Int) : Num (x % m) := ⟨Int.emod_nonneg _ (by omega), Int.lt_of_lt_of_le (Int.emod_lt_of_pos _ h.1) h.2⟩
theorem numbers_loop1 (a b : Option SV) : ∀ (n s : Nat) (ms : List Int) (x : Int) (y : Option SV), (∀ m ∈ ms, Num m) → ms.length + n ≤ 1000 →
    ∃ (ms' : List Int) (x' : Int) (y' : Option SV), forD (gNameF 4) Gen.b_law_numbers_1 (nats s n) [a, b, some (.ol (ms.map D.int)), some (.fz (.int x)), y] = some (.nx [a, b, some (.ol (ms'.map D.int)), some (.fz (.int x')), y']) ∧ (∀ m ∈ ms', Num m) ∧ ms'.length = ms.length + n
  | 0, s, ms, x, y, h, _ => ⟨ms, x, y, rfl, h, rfl⟩
  | n + 1, s, ms, x, y, h, hl => by
    have z : ms.length < PySem.sizeLine := line_lt (by omega)
    have hb : Gen.b_law_numbers_1 [a, b, some (.ol (ms.map D.int)), some (.fz (.int x)), some (.fz (.int (s : Int)))] = some (.nx [a, b, some (.ol ((ms ++ [x % 5040]).map D.int)), some (.fz (.int (x / 5040))), some (.fz (.int (s : Int)))]) := by
      unfold Gen.b_law_numbers_1
      simp [z]
    obtain ⟨ms', x', y', e, h1, h2⟩ := numbers_loop1 a b n (s + 1) (ms ++ [x % 5040]) (x / 5040) (some (.fz (.int (s : Int)))) (fun m hm => by
      rcases List.mem_append.mp hm with hm | hm
      · exact h m hm
      · rw [List.mem_singleton.mp hm]; exact num_of (by decide) _) (by rw [List.length_append, List.length_singleton]; omega)
    refine ⟨ms', x', y', (forD_nx (ds := nats (s + 1) n) (by simp) hb).trans e, h1, by rw [h2, List.length_append, List.length_singleton]; omega⟩
theorem numbers_loop2 (a b : Option SV) : ∀ (n s : Nat) (ms : List Int) (x : Int) (y : Option SV), (∀ m ∈ ms, Num m) → ms.length + n ≤ 1000 →
    ∃ (ms' : List Int) (x' : Int) (y' : Option SV), forD (gNameF 4) Gen.b_law_numbers_2 (nats s n) [a, b, some (.ol (ms.map D.int)), some (.fz (.int x)), y] = some (.nx [a, b, some (.ol (ms'.map D.int)), some (.fz (.int x')), y']) ∧ (∀ m ∈ ms', Num m) ∧ ms'.length = ms.length + n
  | 0, s, ms, x, y, h, _ => ⟨ms, x, y, rfl, h, rfl⟩
  | n + 1, s, ms, x, y, h, hl => by
    have z : ms.length < PySem.sizeLine := line_lt (by omega)
    have hb : Gen.b_law_numbers_2 [a, b, some (.ol (ms.map D.int)), some (.fz (.int x)), some (.fz (.int (s : Int)))] = some (.nx [a, b, some (.ol ((ms ++ [(x + (s : Int) + 1) * 48271 % 2147483647 * 69621 % 2147483629]).map D.int)), some (.fz (.int ((x + (s : Int) + 1) * 48271 % 2147483647))), some (.fz (.int (s : Int)))]) := by
      have hm := mulI_r (i := x + (s : Int) + 1) (j := 48271) (by omega)
      have hm2 := mulI_r (i := (x + (s : Int) + 1) * 48271 % 2147483647) (j := 69621) (by omega)
      unfold Gen.b_law_numbers_2
      simp [hm, hm2, z]
    obtain ⟨ms', x', y', e, h1, h2⟩ := numbers_loop2 a b n (s + 1) (ms ++ [(x + (s : Int) + 1) * 48271 % 2147483647 * 69621 % 2147483629]) ((x + (s : Int) + 1) * 48271 % 2147483647) (some (.fz (.int (s : Int)))) (fun m hm => by
      rcases List.mem_append.mp hm with hm | hm
      · exact h m hm
      · rw [List.mem_singleton.mp hm]; exact num_of (by decide) _) (by rw [List.length_append, List.length_singleton]; omega)
    refine ⟨ms', x', y', (forD_nx (ds := nats (s + 1) n) (by simp) hb).trans e, h1, by rw [h2, List.length_append, List.length_singleton]; omega⟩
theorem numbers_ok (c : Int) (n : Nat) (h : n ≤ 1000) : ∃ ms : List Int, Gen.g_law_numbers [.int c, .int (n : Int)] = some (.ol (ms.map D.int)) ∧ (∀ m ∈ ms, Num m) ∧ ms.length = n := by
  have g1 : rngP (n : Int) := rngP_nat (by omega)
  have et : ((n : Int)).toNat = n := by omega
  by_cases hc : c % 2 = 1
  · obtain ⟨ms, x', y', e, h1, h2⟩ := numbers_loop1 (some (.fz (.int c))) (some (.fz (.int (n : Int)))) n 0 [] (c / 2) none (fun _ h => nomatch h) (by simpa using h)
    refine ⟨ms, ?_, h1, by simpa using h2⟩
    simp only [List.map_nil] at e
    unfold Gen.g_law_numbers Gen.f_law_numbers
    simp [-forD, g1, et, ints_nats, e, hc]
  · obtain ⟨ms, x', y', e, h1, h2⟩ := numbers_loop2 (some (.fz (.int c))) (some (.fz (.int (n : Int)))) n 0 [] (c / 2 % 2147483647) none (fun _ h => nomatch h) (by simpa using h)
    refine ⟨ms, ?_, h1, by simpa using h2⟩
    simp only [List.map_nil] at e
    unfold Gen.g_law_numbers Gen.f_law_numbers
    simp [-forD, g1, et, ints_nats, e, hc]
theorem cell_at (ns : List Int) (k : Nat) : ∃ c : Int, Gen.g_law_cell_at [.lst (ns.map D.int), .int (k : Int)] = some (.fz (.int c)) := by
  by_cases h : k < ns.length
  · have a : L2.atI (ns.map D.int) (k : Int) = some (.int ns[k]) := at_nat _ _ _ (by rw [List.getElem?_map, List.getElem?_eq_getElem h]; rfl)
    refine ⟨ns[k], ?_⟩
    have h' : (k : Int) < (ns.length : Int) := by omega
    unfold Gen.g_law_cell_at Gen.f_law_cell_at
    simp [h', h, a]
  · refine ⟨0, ?_⟩
    have h' : ¬ (k : Int) < (ns.length : Int) := by omega
    unfold Gen.g_law_cell_at Gen.f_law_cell_at
    simp [h', h]
theorem mixed_ok (c : Int) : ∃ x : Int, 0 ≤ x ∧ Gen.g_law_mixed [.int c, .int 16807] = some (.fz (.int x)) := by
  have hm := mulI_r (i := c % 2147483647) (j := 16807) (by omega)
  refine ⟨c % 2147483647 * 16807 % 2147483647, Int.emod_nonneg _ (by decide), ?_⟩
  unfold Gen.g_law_mixed Gen.f_law_mixed
  simp [hm]
noncomputable abbrev pairD (p : Str × Str) : D := .tup [.str p.1, .str p.2]
end My

namespace My
open DL PySem
theorem pair_turn (a0 : Option SV) (fs : List Str) (hf : fs.length = 4) (ps : List (Str × Str)) (hps : ps.length ≤ 100) (ms : List Int) (hms : ms.length = 13) (j : Nat) (hj : j < 6) :
    ∃ p : Str × Str, p.2 ∈ fs ∧ Gen.b_law_table_1 [a0, some (.fz (.lst (fs.map D.str))), some (.ol (ms.map D.int)), some (.ol (ps.map pairD)), some (.fz (.int (j : Int)))] = some (.nx [a0, some (.fz (.lst (fs.map D.str))), some (.ol (ms.map D.int)), some (.ol ((ps ++ [p]).map pairD)), some (.fz (.int (j : Int)))]) := by
  have i1 : L2.atI (ms.map D.int) (1 + 2 * (j : Int)) = some (.int (ms[1 + 2 * j]'(by omega))) := by
    have : (1 : Int) + 2 * (j : Int) = ((1 + 2 * j : Nat) : Int) := by omega
    rw [this]
    exact at_nat _ _ _ (by rw [List.getElem?_map, List.getElem?_eq_getElem (by omega)]; rfl)
  have i2 : L2.atI (ms.map D.int) (2 + 2 * (j : Int)) = some (.int (ms[2 + 2 * j]'(by omega))) := by
    have : (2 : Int) + 2 * (j : Int) = ((2 + 2 * j : Nat) : Int) := by omega
    rw [this]
    exact at_nat _ _ _ (by rw [List.getElem?_map, List.getElem?_eq_getElem (by omega)]; rfl)
  generalize ms[1 + 2 * j]'(by omega) = v1 at i1
  generalize ms[2 + 2 * j]'(by omega) = v2 at i2
  obtain ⟨d1, hd1, e1⟩ := at_mod (fs.map D.str) v1 4 (by rw [List.length_map, hf]; rfl) (by decide)
  obtain ⟨d2, hd2, e2⟩ := at_mod (fs.map D.str) v2 4 (by rw [List.length_map, hf]; rfl) (by decide)
  obtain ⟨s1, _, rfl⟩ := List.mem_map.mp hd1
  obtain ⟨s2, h2, rfl⟩ := List.mem_map.mp hd2
  have hm := fun i : Int => mulI_l (i := 2) (j := i) (by omega)
  have z4 : 2 ≤ PySem.sizeLine := line_of (by decide)
  have zp : ps.length < PySem.sizeLine := line_lt (by omega)
  refine ⟨(s1, s2), h2, ?_⟩
  unfold Gen.b_law_table_1
  simp [z4, i1, i2, e1, e2, hm, zp]
theorem pairs_loop (a0 : Option SV) (fs : List Str) (hf : fs.length = 4) (ms : List Int) (hms : ms.length = 13) : ∀ (n s : Nat) (ps : List (Str × Str)) (x4 : Option SV), s + n ≤ 6 → ps.length ≤ s → (∀ p ∈ ps, p.2 ∈ fs) →
    ∃ (ps' : List (Str × Str)) (y4 : Option SV), forD (gNameF 4) Gen.b_law_table_1 (nats s n) [a0, some (.fz (.lst (fs.map D.str))), some (.ol (ms.map D.int)), some (.ol (ps.map pairD)), x4] = some (.nx [a0, some (.fz (.lst (fs.map D.str))), some (.ol (ms.map D.int)), some (.ol (ps'.map pairD)), y4]) ∧ ∀ p ∈ ps', p.2 ∈ fs
  | 0, s, ps, x4, h, hp, hq => ⟨ps, x4, rfl, hq⟩
  | n + 1, s, ps, x4, h, hp, hq => by
    obtain ⟨p, hpf, e⟩ := pair_turn a0 fs hf ps (by omega) ms hms s (by omega)
    obtain ⟨ps', z4, e', hl⟩ := pairs_loop a0 fs hf ms hms n (s + 1) (ps ++ [p]) (some (.fz (.int (s : Int)))) (by omega) (by rw [List.length_append, List.length_singleton]; omega) (fun q hq' => by
      rcases List.mem_append.mp hq' with h | h
      · exact hq q h
      · rw [List.mem_singleton.mp h]; exact hpf)
    exact ⟨ps', z4, (forD_nx (ds := nats (s + 1) n) (by simp) e).trans e', hl⟩
noncomputable abbrev KB : Str := "book"
noncomputable def tableD (ps : List (Str × Str)) : D := .dK (inrs [KB]) [.lst (ps.map pairD)]
theorem table_ok (c : Int) (fs : List Str) (hf : fs.length = 4) : ∃ ps : List (Str × Str), Gen.g_law_table [.int c, .lst (fs.map D.str)] = some (.oK (inrs [KB]) [.lst (ps.map pairD)]) ∧ ∀ p ∈ ps, p.2 ∈ fs := by
  obtain ⟨ms, e1, hms, e3⟩ := numbers_ok c 13 (by decide)
  have i13 : ((13 : Nat) : Int) = 13 := rfl
  rw [i13] at e1
  have a0 : L2.atI (ms.map D.int) 0 = some (.int (ms[0]'(by omega))) := at_nat _ 0 _ (by rw [List.getElem?_map, List.getElem?_eq_getElem (by omega)]; rfl)
  generalize ms[0]'(by omega) = v0 at a0
  have q0 : 0 ≤ v0 % 5 := Int.emod_nonneg _ (by decide)
  have q1 : v0 % 5 < 5 := Int.emod_lt_of_pos _ (by decide)
  obtain ⟨n, hn⟩ : ∃ n : Nat, (n : Int) = 2 + v0 % 5 := ⟨(2 + v0 % 5).toNat, by omega⟩
  obtain ⟨ps, y4, e, hp⟩ := pairs_loop (some (.fz (.int c))) fs hf ms e3 n 0 [] none (by omega) (by simp) (fun _ h => nomatch h)
  rw [List.map_nil] at e
  have g1 : rngP (n : Int) := rngP_nat (by omega)
  have et : ((n : Int)).toNat = n := by omega
  have hb : Str.ofString "book" = KB := rfl
  refine ⟨ps, ?_, hp⟩
  unfold Gen.g_law_table Gen.f_law_table
  simp [-forD, e1, a0, ← hn, g1, et, ints_nats, e, hb]
end My

namespace My
open DL PySem
noncomputable abbrev IN : Str := "in"
theorem nam_in {w : Str} (h : Nam w) : w ≠ IN := fun e => by
  have := h.no 105 (by rw [e]; decide +kernel)
  exact this.1 rfl
structure Own (xs : List Str) (vs : List D) : Prop where
  dic : Dic xs vs
  str : ∀ v ∈ vs, ∃ s, v = .str s
theorem Own.put {xs : List Str} {vs : List D} (h : Own xs vs) (k s : Str) : Own (putA xs vs k (.str s)).1 (putA xs vs k (.str s)).2 :=
  ⟨h.dic.put k _, fun v hv => (putA_vals k _ xs vs v hv).elim (fun e => ⟨s, e⟩) (h.str v)⟩
theorem field_turn (a0 a1 a2 a3 a4 : Option SV) (key : Str) (hk : key.length ≤ 8) (ms : List Int) (xs : List Str) (vs : List D) (ho : Own xs vs) (hl : vs.length ≤ 100) (j : Nat) (hj : j < ms.length) (f : Str) (hf : f.length ≤ 8) (hfi : f ≠ IN) :
    ∃ xs' vs', Gen.b_law_shelf_1 [a0, a1, a2, a3, a4, some (.fz (.str key)), some (.ol (ms.map D.int)), some (.oK (inrs xs) vs), some (.fz (.int (j : Int))), some (.fz (.str f))] = some (.nx [a0, a1, a2, a3, a4, some (.fz (.str key)), some (.ol (ms.map D.int)), some (.oK (inrs xs') vs'), some (.fz (.int (j : Int))), some (.fz (.str f))]) ∧ Own xs' vs' ∧ vs'.length ≤ vs.length + 1 ∧ look xs' vs' IN = look xs vs IN := by
  have aj : L2.atI (ms.map D.int) (j : Int) = some (.int ms[j]) := at_nat _ _ _ (by rw [List.getElem?_map, List.getElem?_eq_getElem hj]; rfl)
  generalize ms[j] = v at aj
  by_cases hv : v % 4 = 1
  · have b1 : (Str.ofString " ").length = 1 := by decide +kernel
    have z1 : key.length + (Str.ofString " ").length ≤ PySem.sizeLine := line_of (by rw [b1]; omega)
    have z2 : (key ++ Str.ofString " ").length + f.length ≤ PySem.sizeLine := line_of (by rw [app_len, b1]; omega)
    have zv : vs.length < PySem.sizeLine := line_lt (by omega)
    generalize hT : key ++ Str.ofString " " ++ f = T
    refine ⟨(putA xs vs f (.str T)).1, (putA xs vs f (.str T)).2, ?_, ho.put f T, (put_len f _ xs vs ho.dic.len).2, ?_⟩
    · have pi := putA_inr f (.str T) xs vs
      unfold Gen.b_law_shelf_1
      simp [-putA, aj, hv, z1, z2, zv, hT, pi]
    · rw [look_put f IN _ xs vs ho.dic.len, if_neg hfi]
  · refine ⟨xs, vs, ?_, ho, by omega, rfl⟩
    unfold Gen.b_law_shelf_1
    simp [aj, hv]
theorem fields_loop (a0 a1 a2 a3 a4 : Option SV) (key : Str) (hk : key.length ≤ 8) (ms : List Int) : ∀ (fs : List Str) (i : Nat) (xs : List Str) (vs : List D) (x8 x9 : Option SV), Own xs vs → vs.length + fs.length ≤ 100 → i + fs.length ≤ ms.length → (∀ f ∈ fs, Nam f) →
    ∃ xs' vs' y8 y9, forD (gTupF 2 (gConsF (gNameF 8) (gConsF (gNameF 9) (gNilF)))) Gen.b_law_shelf_1 (enumF i (fs.map D.str)) [a0, a1, a2, a3, a4, some (.fz (.str key)), some (.ol (ms.map D.int)), some (.oK (inrs xs) vs), x8, x9] = some (.nx [a0, a1, a2, a3, a4, some (.fz (.str key)), some (.ol (ms.map D.int)), some (.oK (inrs xs') vs'), y8, y9]) ∧ Own xs' vs' ∧ vs'.length ≤ vs.length + fs.length ∧ look xs' vs' IN = look xs vs IN
  | [], i, xs, vs, x8, x9, ho, _, _, _ => ⟨xs, vs, x8, x9, rfl, ho, Nat.le_refl _, rfl⟩
  | f :: fs, i, xs, vs, x8, x9, ho, hl, hi, hf => by
    rw [List.length_cons] at hl hi
    have hn := hf f List.mem_cons_self
    obtain ⟨xs1, vs1, e1, o1, l1, k1⟩ := field_turn a0 a1 a2 a3 a4 key hk ms xs vs ho (by omega) i (by omega) f hn.most (nam_in hn)
    obtain ⟨xs2, vs2, y8, y9, e2, o2, l2, k2⟩ := fields_loop a0 a1 a2 a3 a4 key hk ms fs (i + 1) xs1 vs1 (some (.fz (.int (i : Int)))) (some (.fz (.str f))) o1 (by omega) (by omega) fun g hg => hf g (List.mem_cons_of_mem _ hg)
    refine ⟨xs2, vs2, y8, y9, ?_, o2, by rw [List.length_cons]; omega, k2.trans k1⟩
    rw [List.map_cons]
    exact (forD_nx (d := .tup [.int (i : Int), .str f]) (ds := enumF (i + 1) (fs.map D.str)) (by simp) e1).trans e2
noncomputable def InOk (keys : List Str) (j : Nat) (o : Option D) : Prop := o = none ∨ (∃ b, o = some (.str b) ∧ b ∉ keys) ∨ ∃ i b, i < j ∧ keys[i]? = some b ∧ o = some (.str b)
structure Work (keys : List Str) (j : Nat) (kind : Str) (xs : List Str) (vs : List D) : Prop where
  own : Own xs vs
  kin : kind = KB
  inn : InOk keys j (look xs vs IN)
noncomputable def Work1 (keys : List Str) (j : Nat) (kind : Str) (xs : List Str) (vs : List D) : Prop := Work keys j kind xs vs ∧ vs.length ≤ 100
theorem work_turn (ns : List Int) (keys fs : List Str) (hf : fs.length = 4) (hfn : ∀ f ∈ fs, Nam f) (hkn : ∀ k ∈ keys, Nam k) (ks : List Str) (ws : List D) (i : Nat) (hi : i ≤ 40) (key : Str) (hkey : keys[i]? = some key) (hkl : keys.length ≤ 40) (hks : ks.length = ws.length) (hws : ws.length ≤ 100) (x6 x7 x8 x9 : Option SV) :
    ∃ kind xs vs y6 y7 y8 y9, Work1 keys i kind xs vs ∧ Gen.b_law_shelf_2 [some (.fz (.lst (ns.map D.int))), some (.fz (.lst (keys.map D.str))), some (.fz (.lst (fs.map D.str))), some (.oK (inrs ks) ws), some (.fz (.int (i : Int))), some (.fz (.str key)), x6, x7, x8, x9] = some (.nx [some (.fz (.lst (ns.map D.int))), some (.fz (.lst (keys.map D.str))), some (.fz (.lst (fs.map D.str))), some (.oK (inrs (putA ks ws key (.tup [.str kind, .dK (inrs xs) vs])).1) (putA ks ws key (.tup [.str kind, .dK (inrs xs) vs])).2), some (.fz (.int (i : Int))), some (.fz (.str key)), y6, y7, y8, y9]) := by
  obtain ⟨c, ec⟩ := cell_at ns (3 + i)
  have i5 : ((3 + i : Nat) : Int) = 3 + (i : Int) := by omega
  rw [i5] at ec
  obtain ⟨ms, e1, hms, e3⟩ := numbers_ok c 7 (by decide)
  have i8 : ((7 : Nat) : Int) = 7 := rfl
  rw [i8] at e1
  have hkey' := hkn key (List.mem_of_getElem? hkey)
  obtain ⟨xs0, vs0, y8, y9, el, o0, l0, k0⟩ := fields_loop (some (.fz (.lst (ns.map D.int)))) (some (.fz (.lst (keys.map D.str)))) (some (.fz (.lst (fs.map D.str)))) (some (.oK (inrs ks) ws)) (some (.fz (.int (i : Int)))) key hkey'.most ms fs 0 [] [] x8 x9 ⟨Dic.nil, fun _ h => nomatch h⟩ (by simp [hf]) (by omega) hfn
  have hl0 : look xs0 vs0 IN = none := k0
  have at' : ∀ j : Nat, (hj : j < 7) → L2.atI (ms.map D.int) (j : Int) = some (.int (ms[j]'(by omega))) := fun j hj => at_nat _ _ _ (by rw [List.getElem?_map, List.getElem?_eq_getElem (by omega)]; rfl)
  have a4 : L2.atI (ms.map D.int) 4 = some (.int (ms[4]'(by omega))) := at' 4 (by decide)
  have a5 : L2.atI (ms.map D.int) 5 = some (.int (ms[5]'(by omega))) := at' 5 (by decide)
  have a6 : L2.atI (ms.map D.int) 6 = some (.int (ms[6]'(by omega))) := at' 6 (by decide)
  generalize ms[4]'(by omega) = v4 at a4
  generalize ms[5]'(by omega) = v5 at a5
  generalize ms[6]'(by omega) = v6 at a6
  have z2 : 2 ≤ PySem.sizeLine := line_of (by decide)
  have zw : ws.length < PySem.sizeLine := line_lt (by omega)
  have zv : vs0.length < PySem.sizeLine := line_lt (by rw [hf] at l0; simp at l0; omega)
  have hb : Str.ofString "book" = KB := rfl
  have hin : Str.ofString "in" = IN := rfl
  have pw := fun d => putA_inr key d ks ws
  have po := fun d => putA_inr IN d xs0 vs0
  have hlen0 : vs0.length ≤ 4 := by rw [hf] at l0; simpa using l0
  have el' := el
  rw [show inrs [] = ([] : List L2.Key) from rfl] at el'
  by_cases h0 : 0 < i ∧ 0 < v4 % 8
  · obtain ⟨h0, h4⟩ := h0
    have hi0 : (0 : Int) < (i : Int) := by omega
    have q0 : 0 ≤ v5 % (i : Int) := Int.emod_nonneg _ (by omega)
    have q1 : v5 % (i : Int) < (i : Int) := Int.emod_lt_of_pos _ hi0
    obtain ⟨d2, hd2, e2⟩ := at_mod [D.int ((i : Int) - 1), D.int (v5 % (i : Int))] v6 2 rfl (by decide)
    obtain ⟨j, hj, rfl⟩ : ∃ j : Nat, j < i ∧ d2 = .int (j : Int) := by
      rcases List.mem_cons.mp hd2 with h | h
      · exact ⟨i - 1, by omega, by rw [h]; congr 1; omega⟩
      · exact ⟨(v5 % (i : Int)).toNat, by omega, by rw [List.mem_singleton.mp h]; congr 1; omega⟩
    have hil := (List.getElem?_eq_some_iff.mp hkey).1
    have hjl : j < keys.length := by omega
    have kj : L2.atI (keys.map D.str) (j : Int) = some (.str keys[j]) := at_nat _ _ _ (by rw [List.getElem?_map, List.getElem?_eq_getElem hjl]; rfl)
    refine ⟨KB, (putA xs0 vs0 IN (.str keys[j])).1, (putA xs0 vs0 IN (.str keys[j])).2, some (.ol (ms.map D.int)), some (.fz (.dK (inrs (putA xs0 vs0 IN (.str keys[j])).1) (putA xs0 vs0 IN (.str keys[j])).2)), y8, y9, ⟨⟨o0.put _ _, rfl, .inr (.inr ⟨j, keys[j], hj, List.getElem?_eq_getElem hjl, ?_⟩)⟩, by have := (put_len IN (.str keys[j]) xs0 vs0 o0.dic.len).2; omega⟩, ?_⟩
    · rw [look_put IN IN _ xs0 vs0 o0.dic.len, if_pos rfl]
    · unfold Gen.b_law_shelf_2
      simp [-forD, -putA, ec, e1, enumL_F, el', a4, h4, hi0, h0, a5, a6, e2, kj, hb, hin, z2, zw, zv, po, pw]
  · refine ⟨KB, xs0, vs0, some (.ol (ms.map D.int)), some (.fz (.dK (inrs xs0) vs0)), y8, y9, ⟨⟨o0, rfl, .inl hl0⟩, by omega⟩, ?_⟩
    by_cases h1 : 0 < i
    · have hi0 : (0 : Int) < (i : Int) := by omega
      have h4 : ¬ 0 < v4 % 8 := fun h => h0 ⟨h1, h⟩
      unfold Gen.b_law_shelf_2
      simp [-forD, -putA, ec, e1, enumL_F, el', a4, h4, hi0, h1, hb, z2, zw, zv, pw]
    · have hi0 : ¬ (0 : Int) < (i : Int) := by omega
      unfold Gen.b_law_shelf_2
      simp [-forD, -putA, ec, e1, enumL_F, el', hi0, h1, hb, z2, zw, zv, pw]
end My

namespace My
open DL PySem
theorem nd_inj {xs : List Str} (nd : xs.Nodup) {i j : Nat} {a : Str} (hi : xs[i]? = some a) (hj : xs[j]? = some a) : i = j := by
  obtain ⟨h1, e1⟩ := List.getElem?_eq_some_iff.mp hi
  obtain ⟨h2, e2⟩ := List.getElem?_eq_some_iff.mp hj
  have p := List.pairwise_iff_getElem.mp nd
  rcases Nat.lt_trichotomy i j with h | h | h
  · exact absurd (e1.trans e2.symm) (p i j h1 h2 h)
  · exact h
  · exact absurd (e2.trans e1.symm) (p j i h2 h1 h)
noncomputable abbrev WK := Str × List Str × List D
noncomputable abbrev workD (w : WK) : D := .tup [.str w.1, .dK (inrs w.2.1) w.2.2]
structure Shelf (keys : List Str) (ws : List WK) : Prop where
  nd : keys.Nodup
  len : ws.length = keys.length
  most : keys.length ≤ 40
  wk : ∀ i w, ws[i]? = some w → Work keys i w.1 w.2.1 w.2.2
noncomputable abbrev shelfD (keys : List Str) (ws : List WK) : D := .dK (inrs keys) (ws.map workD)
theorem shelf_loop (ns : List Int) (keys fs : List Str) (hf : fs.length = 4) (hfn : ∀ f ∈ fs, Nam f) (hkn : ∀ k ∈ keys, Nam k) (hkl : keys.length ≤ 40) (nd : keys.Nodup) : ∀ (n i : Nat) (ws : List WK) (x4 x5 x6 x7 x8 x9 : Option SV), i + n = keys.length → ws.length = i → (∀ j w, ws[j]? = some w → Work1 keys j w.1 w.2.1 w.2.2) →
    ∃ (ws' : List WK) (δ : DSt), forD (gTupF 2 (gConsF (gNameF 4) (gConsF (gNameF 5) (gNilF)))) Gen.b_law_shelf_2 (enumF i ((keys.drop i).map D.str)) [some (.fz (.lst (ns.map D.int))), some (.fz (.lst (keys.map D.str))), some (.fz (.lst (fs.map D.str))), some (.oK (inrs (keys.take i)) (ws.map workD)), x4, x5, x6, x7, x8, x9] = some (.nx δ) ∧ δ[3]? = some (some (.oK (inrs keys) (ws'.map workD))) ∧ ws'.length = keys.length ∧ ∀ j w, ws'[j]? = some w → Work1 keys j w.1 w.2.1 w.2.2
  | 0, i, ws, x4, x5, x6, x7, x8, x9, h, hw, hW => by
    rw [List.drop_of_length_le (by omega)]
    refine ⟨ws, _, rfl, ?_, by omega, hW⟩
    rw [List.take_of_length_le (by omega)]; rfl
  | n + 1, i, ws, x4, x5, x6, x7, x8, x9, h, hw, hW => by
    have hi : i < keys.length := by omega
    have hk : keys[i]? = some keys[i] := List.getElem?_eq_getElem hi
    have hnew : keys[i] ∉ keys.take i := fun hm => by
      obtain ⟨j, hj⟩ := List.getElem?_of_mem hm
      have hji : j < i := by
        have := (List.getElem?_eq_some_iff.mp hj).1
        rw [List.length_take] at this; omega
      rw [List.getElem?_take_of_lt hji] at hj
      have hjl : j < keys.length := by omega
      have := nd_inj nd hj hk
      omega
    obtain ⟨kind, xs, vs, y6, y7, y8, y9, wk, e⟩ := work_turn ns keys fs hf hfn hkn (keys.take i) (ws.map workD) i (by omega) keys[i] hk hkl (by rw [List.length_take, List.length_map]; omega) (by rw [List.length_map]; omega) x6 x7 x8 x9
    rw [putA_new hnew] at e
    have e1 : keys.take i ++ [keys[i]] = keys.take (i + 1) := by rw [List.take_succ, hk]; rfl
    have e2 : ws.map workD ++ [.tup [.str kind, .dK (inrs xs) vs]] = (ws ++ [(kind, xs, vs)]).map workD := by rw [List.map_append]; rfl
    dsimp only at e
    rw [e1, e2] at e
    obtain ⟨ws', δ, g1, g2, g3, g4⟩ := shelf_loop ns keys fs hf hfn hkn hkl nd n (i + 1) (ws ++ [(kind, xs, vs)]) (some (.fz (.int (i : Int)))) (some (.fz (.str keys[i]))) y6 y7 y8 y9 (by omega) (by rw [List.length_append, List.length_singleton]; omega) (fun j w hj => by
      by_cases hjl : j < ws.length
      · rw [List.getElem?_append_left hjl] at hj; exact hW j w hj
      · have hjl' := (List.getElem?_eq_some_iff.mp hj).1
        rw [List.length_append, List.length_singleton] at hjl'
        have hje : j = i := by omega
        subst hje
        rw [List.getElem?_append_right (by omega), show j - ws.length = 0 by omega] at hj
        cases hj
        exact wk)
    refine ⟨ws', δ, ?_, g2, g3, g4⟩
    rw [List.drop_eq_getElem_cons hi, List.map_cons]
    exact (forD_nx (d := .tup [.int (i : Int), .str keys[i]]) (ds := enumF (i + 1) ((keys.drop (i + 1)).map D.str)) (by simp) e).trans g1
theorem shelf_ok (ns : List Int) (keys fs : List Str) (hf : fs.length = 4) (hfn : ∀ f ∈ fs, Nam f) (hkn : ∀ k ∈ keys, Nam k) (hkl : keys.length ≤ 40) (nd : keys.Nodup) : ∃ ws : List WK, Shelf keys ws ∧ (∀ (j : Nat) (w : WK), ws[j]? = some w → w.2.2.length ≤ 100) ∧ Gen.g_law_shelf [.lst (ns.map D.int), .lst (keys.map D.str), .lst (fs.map D.str)] = some (.oK (inrs keys) (ws.map workD)) := by
  obtain ⟨ws, δ, e, h1, h2, h3⟩ := shelf_loop ns keys fs hf hfn hkn hkl nd keys.length 0 [] none none none none none none (by omega) rfl (fun j w h => by simp at h)
  refine ⟨ws, ⟨nd, h2, hkl, fun j w h => (h3 j w h).1⟩, fun j w h => (h3 j w h).2, ?_⟩
  rw [List.drop_zero, List.take_zero] at e
  rw [show inrs [] = ([] : List L2.Key) from rfl, List.map_nil] at e
  unfold Gen.g_law_shelf Gen.f_law_shelf
  simp [-forD, enumL_F, e, h1]
/-! one step -/
noncomputable def idx (keys : List Str) (b : Str) : Option Nat := keys.findIdx? fun k => decide (k = b)
theorem idx_get {keys : List Str} (nd : keys.Nodup) {j : Nat} {b : Str} (h : keys[j]? = some b) : idx keys b = some j := by
  have hj := (List.getElem?_eq_some_iff.mp h).1
  unfold idx
  refine List.findIdx?_eq_some_iff_getElem.mpr ⟨hj, ?_, fun k hk => ?_⟩
  · have h' := h
    rw [List.getElem?_eq_getElem hj] at h'
    simpa using Option.some.inj h'
  · simp only [decide_eq_true_eq]
    intro z
    have := nd_inj nd (List.getElem?_eq_some_iff.mpr ⟨by omega, z⟩) h
    omega
theorem idx_none {keys : List Str} {b : Str} (h : b ∉ keys) : idx keys b = none := by
  unfold idx
  rw [List.findIdx?_eq_none_iff]
  intro x hx
  simp only [decide_eq_false_iff_not]
  exact fun z => h (by rw [← z]; exact hx)
noncomputable def other (ps : List (Str × Str)) (f : Str) : Option Str := (ps.find? fun p => decide (p.1 = f)).map (·.2)
noncomputable def tabOf (ps : List (Str × Str)) (kind : Str) : List (Str × Str) := ps
noncomputable def step (keys : List Str) (tab : Str → List (Str × Str)) (f : Str) (w : WK) : Option (Nat × Str) :=
  if (look w.2.1 w.2.2 f).isSome = true then none else (other (tab w.1) f).bind fun o => match look w.2.1 w.2.2 IN with
    | some (.str b) => (idx keys b).bind fun j => some (j, o)
    | _ => none
noncomputable def nxt (keys : List Str) (ws : List WK) (tab : Str → List (Str × Str)) (i : Nat) (f : Str) : Option (Nat × Str) := (ws[i]?).bind (step keys tab f)
noncomputable def ptD (keys : List Str) : Option (Nat × Str) → D
  | none => .non
  | some (j, o) => .tup [.str (keys.getD j ""), .str o]
theorem tab_look (ps : List (Str × Str)) {kind : Str} (h : kind = KB) : look (inrs [KB]) [D.lst (ps.map pairD)] (Sum.inr kind) = some (.lst ((tabOf ps kind).map pairD)) := by
  rw [look_inr, h]
  exact if_pos rfl
noncomputable def oD : Option Str → D
  | none => .non
  | some o => .str o
theorem other_loop (a0 a1 : Option SV) (f : Str) : ∀ (ps : List (Str × Str)) (x3 : Option SV),
    match other ps f with
    | some o => forD (gNameF 3) Gen.b_other_field_1 (ps.map pairD) [a0, a1, some (.fz (.str f)), x3] = some (.rt (.fz (.str o)))
    | none => ∃ δ, forD (gNameF 3) Gen.b_other_field_1 (ps.map pairD) [a0, a1, some (.fz (.str f)), x3] = some (.nx δ)
  | [], x3 => ⟨_, rfl⟩
  | p :: ps, x3 => by
    have run : (gNameF 3).run (pairD p) [a0, a1, some (.fz (.str f)), x3] = some [a0, a1, some (.fz (.str f)), some (.fz (pairD p))] := by simp
    rw [List.map_cons]
    unfold other
    rw [List.find?_cons]
    by_cases h : p.1 = f
    · rw [decide_eq_true h]
      dsimp only
      refine forD_rt run ?_
      unfold Gen.b_other_field_1
      simp [L2.atI, L2.ixN, h]
    · rw [decide_eq_false h]
      have hb : Gen.b_other_field_1 [a0, a1, some (.fz (.str f)), some (.fz (pairD p))] = some (.nx [a0, a1, some (.fz (.str f)), some (.fz (pairD p))]) := by
        unfold Gen.b_other_field_1
        simp [L2.atI, L2.ixN, h]
      have ih := other_loop a0 a1 f ps (some (.fz (pairD p)))
      unfold other at ih
      dsimp only
      generalize Option.map (fun x => x.snd) (List.find? (fun p => decide (p.fst = f)) ps) = o at ih ⊢
      cases o with
      | none => obtain ⟨δ, e⟩ := ih; exact ⟨δ, (forD_nx run hb).trans e⟩
      | some q => exact (forD_nx run hb).trans ih
theorem otherField (ps : List (Str × Str)) {kind : Str} (h : kind = KB) (f : Str) : Gen.g_other_field [tableD ps, .str kind, .str f] = some (.fz (oD (other (tabOf ps kind) f))) := by
  have tl := tab_look ps h
  have l := other_loop (some (.fz (tableD ps))) (some (.fz (.str kind))) f (tabOf ps kind) none
  unfold tableD at l ⊢
  unfold Gen.g_other_field Gen.f_other_field
  generalize other (tabOf ps kind) f = o at l ⊢
  generalize (tabOf ps kind).map pairD = T at *
  generalize inrs [KB] = KS at *
  generalize [D.lst (ps.map pairD)] = VS at *
  cases o with
  | none =>
    obtain ⟨δ, e⟩ := l
    simp [-forD, -look, tl, e, oD]
  | some o => simp [-forD, -look, tl, l, oD]
end My

namespace My
open DL PySem
theorem shelf_look {keys : List Str} {ws : List WK} (Sh : Shelf keys ws) {i : Nat} {k : Str} {w : WK} (hk : keys[i]? = some k) (hw : ws[i]? = some w) : look (inrs keys) (ws.map workD) (Sum.inr k) = some (workD w) := by
  rw [look_inr]
  exact look_get Sh.nd (by rw [List.length_map]; exact Sh.len.symm) i k _ hk (by rw [List.getElem?_map, hw]; rfl)
theorem shelf_none {keys : List Str} {ws : List WK} {k : Str} (h : k ∉ keys) : look (inrs keys) (ws.map workD) (Sum.inr k) = none := by
  rw [look_inr]; exact look_none h
theorem own_str {xs : List Str} {vs : List D} (h : Own xs vs) {x : Str} {v : D} (e : look xs vs x = some v) : ∃ s, v = .str s := h.str v (look_val e)
theorem nxt_some {keys : List Str} {ws : List WK} {tab : Str → List (Str × Str)} (Sh : Shelf keys ws) {i : Nat} {f : Str} {j : Nat} {o : Str} (h : nxt keys ws tab i f = some (j, o)) : j < i ∧ j < keys.length := by
  unfold nxt at h
  obtain ⟨w, hw, h⟩ := Option.bind_eq_some_iff.mp h
  have W := Sh.wk i w hw
  unfold step at h
  split at h
  · cases h
  · obtain ⟨o', _, h⟩ := Option.bind_eq_some_iff.mp h
    rcases W.inn with e | ⟨b, e, hb⟩ | ⟨i', b, hi', hb, e⟩
    · rw [e] at h; cases h
    · rw [e] at h
      dsimp only at h
      rw [idx_none hb] at h; cases h
    · rw [e] at h
      dsimp only at h
      rw [idx_get Sh.nd hb] at h
      cases h
      exact ⟨hi', (List.getElem?_eq_some_iff.mp hb).1⟩
theorem pairBehind {keys : List Str} {ws : List WK} (Sh : Shelf keys ws) (ps : List (Str × Str)) {i : Nat} {k f : Str} (hk : keys[i]? = some k) :
    Gen.g_pair_behind [shelfD keys ws, tableD ps, .tup [.str k, .str f]] = some (.fz (ptD keys (nxt keys ws (tabOf ps) i f))) := by
  have hil : i < ws.length := by rw [Sh.len]; exact (List.getElem?_eq_some_iff.mp hk).1
  have hw : ws[i]? = some ws[i] := List.getElem?_eq_getElem hil
  generalize ws[i] = w at hw
  have W := Sh.wk i w hw
  have sl := shelf_look Sh hk hw
  have of := otherField ps W.kin f
  have en : nxt keys ws (tabOf ps) i f = step keys (tabOf ps) f w := by unfold nxt; rw [hw]; rfl
  rw [en]
  have lf : look (inrs w.2.1) w.2.2 (Sum.inr f) = look w.2.1 w.2.2 f := look_inr f _ _
  have li : look (inrs w.2.1) w.2.2 (Sum.inr IN) = look w.2.1 w.2.2 IN := look_inr IN _ _
  have hin : Str.ofString "in" = IN := rfl
  have z2 : 2 ≤ PySem.sizeLine := line_of (by decide)
  obtain ⟨kind, xs, vs⟩ := w
  dsimp only at *
  replace sl : look (inrs keys) (ws.map workD) (Sum.inr k) = some (.tup [.str kind, .dK (inrs xs) vs]) := sl
  have sn : ∀ b, b ∉ keys → look (inrs keys) (ws.map workD) (Sum.inr b) = none := fun b hb => shelf_none hb
  have sy : ∀ j b, keys[j]? = some b → ∃ w', look (inrs keys) (ws.map workD) (Sum.inr b) = some (workD w') := fun j b hb => by
    have hjl : j < ws.length := by rw [Sh.len]; exact (List.getElem?_eq_some_iff.mp hb).1
    exact ⟨_, shelf_look Sh hb (List.getElem?_eq_getElem hjl)⟩
  unfold step
  dsimp only
  generalize tableD ps = TD at of ⊢
  generalize other (tabOf ps kind) f = ot at of ⊢
  have nd := Sh.nd
  unfold shelfD
  generalize inrs keys = KS at sl sn sy ⊢
  generalize ws.map workD = WS at sl sn sy ⊢
  generalize inrs xs = XS at sl lf li ⊢
  unfold Gen.g_pair_behind Gen.f_pair_behind
  cases hlf : look xs vs f with
  | some v =>
    rw [hlf] at lf
    simp [-look, L2.atI, L2.ixN, sl, lf, ptD]
  | none =>
    rw [hlf] at lf
    cases ot with
    | none =>
      simp only [oD] at of
      rcases W.inn with e | ⟨b, e, hb⟩ | ⟨i', b, hi', hb, e⟩
      · rw [e] at li
        simp [-look, L2.atI, L2.ixN, sl, lf, of, hin, li, ptD]
      · rw [e] at li
        simp [-look, L2.atI, L2.ixN, sl, lf, of, hin, li, ptD]
      · rw [e] at li
        simp [-look, L2.atI, L2.ixN, sl, lf, of, hin, li, ptD]
    | some o =>
      simp only [oD] at of
      rcases W.inn with e | ⟨b, e, hb⟩ | ⟨i', b, hi', hb, e⟩
      · rw [e] at li
        rw [e]
        simp [-look, L2.atI, L2.ixN, sl, lf, of, hin, li, ptD]
      · rw [e] at li
        rw [e]
        have s0 := sn b hb
        have ix := idx_none hb
        simp [-look, L2.atI, L2.ixN, sl, lf, of, hin, li, s0, ix, ptD]
      · rw [e] at li
        rw [e]
        obtain ⟨w', s0⟩ := sy i' b hb
        have ix := idx_get nd hb
        have gd : keys[i']?.getD (Str.ofString "") = b := by rw [hb]; rfl
        simp [-look, L2.atI, L2.ixN, sl, lf, of, hin, li, s0, ix, ptD, gd, z2]
end My

namespace My
open DL PySem
/-! the way -/
noncomputable def wayN (nx : Nat → Str → Option (Nat × Str)) : Nat → Nat → Str → List (Nat × Str)
  | 0, _, _ => []
  | n + 1, i, f => (i, f) :: match nx i f with
    | none => []
    | some (j, o) => wayN nx n j o
noncomputable abbrev pD (keys : List Str) (p : Nat × Str) : D := .tup [.str (keys.getD p.1 ""), .str p.2]
noncomputable def Places (keys : List Str) (pks : List (List L2.Key)) (pvs : List D) (done : List (Nat × Str)) : Prop :=
  pks.length = pvs.length ∧ pvs.length ≤ done.length ∧ ∀ k f : Str, look pks pvs [.inr k, .inr f] ≠ none → ∃ i, (i, f) ∈ done ∧ keys[i]? = some k
theorem way_while {keys : List Str} {ws : List WK} (Sh : Shelf keys ws) (ps : List (Str × Str)) (a2 a3 : Option SV) : ∀ (n i : Nat) (f : Str) (fuel : Nat) (done : List (Nat × Str)) (pks : List (List L2.Key)) (pvs : List D), i < n → i < keys.length → n + 2 ≤ fuel → done.length + n ≤ 500 → (∀ q ∈ done, i < q.1) → Places keys pks pvs done →
    ∃ δ, whileD Gen.t_way_1 Gen.b_way_2 fuel [some (.fz (shelfD keys ws)), some (.fz (tableD ps)), a2, a3, some (.ol (done.map (pD keys))), some (.oT pks pvs), some (.fz (pD keys (i, f)))] = some (.nx δ) ∧ δ[4]? = some (some (.ol ((done ++ wayN (nxt keys ws (tabOf ps)) n i f).map (pD keys))))
  | 0, i, f, fuel, done, pks, pvs, h, _, _, _, _, _ => by omega
  | n + 1, i, f, 0, done, pks, pvs, _, _, h, _, _, _ => by omega
  | n + 1, i, f, fuel + 1, done, pks, pvs, hin, hil, hf, hd, hq, hp => by
    have hk : keys[i]? = some keys[i] := List.getElem?_eq_getElem hil
    have hg : keys.getD i "" = keys[i] := by rw [List.getD_eq_getElem?_getD, hk]; rfl
    have pb := pairBehind Sh ps (f := f) hk
    have ln : look pks pvs [.inr keys[i], .inr f] = none := by
      cases hl : look pks pvs [.inr keys[i], .inr f] with
      | none => rfl
      | some v =>
        obtain ⟨i', hm, hi'⟩ := hp.2.2 keys[i] f (by rw [hl]; simp)
        have := nd_inj Sh.nd hi' hk
        have := hq _ hm
        dsimp only at this
        omega
    have zv : pvs.length < PySem.sizeLine := line_lt (by have := hp.2.1; omega)
    have zd : done.length < PySem.sizeLine := line_lt (by omega)
    have h1 : Gen.t_way_1 [some (.fz (shelfD keys ws)), some (.fz (tableD ps)), a2, a3, some (.ol (done.map (pD keys))), some (.oT pks pvs), some (.fz (pD keys (i, f)))] = some (true, [some (.fz (shelfD keys ws)), some (.fz (tableD ps)), a2, a3, some (.ol (done.map (pD keys))), some (.oT pks pvs), some (.fz (pD keys (i, f)))]) := by
      unfold Gen.t_way_1
      simp
    have hp' : Places keys (putA pks pvs [.inr keys[i], .inr f] (.int (done.length : Int))).1 (putA pks pvs [.inr keys[i], .inr f] (.int (done.length : Int))).2 (done ++ [(i, f)]) := by
      have pl := put_len ([.inr keys[i], .inr f] : List L2.Key) (.int (done.length : Int)) pks pvs hp.1
      refine ⟨pl.1, by rw [List.length_append, List.length_singleton]; have := hp.2.1; omega, fun k g hne => ?_⟩
      rw [look_put _ _ _ _ _ hp.1] at hne
      by_cases e : ([.inr keys[i], .inr f] : List L2.Key) = [.inr k, .inr g]
      · injection e with e1 e2
        injection e2 with e2 _
        refine ⟨i, ?_, by rw [hk]; exact congrArg some (Sum.inr.inj e1)⟩
        rw [← Sum.inr.inj e2]; simp
      · rw [if_neg e] at hne
        obtain ⟨i', h1, h2⟩ := hp.2.2 k g hne
        exact ⟨i', List.mem_append_left _ h1, h2⟩
    have h2 : Gen.b_way_2 [some (.fz (shelfD keys ws)), some (.fz (tableD ps)), a2, a3, some (.ol (done.map (pD keys))), some (.oT pks pvs), some (.fz (pD keys (i, f)))] = some (.nx [some (.fz (shelfD keys ws)), some (.fz (tableD ps)), a2, a3, some (.ol ((done ++ [(i, f)]).map (pD keys))), some (.oT (putA pks pvs [.inr keys[i], .inr f] (.int (done.length : Int))).1 (putA pks pvs [.inr keys[i], .inr f] (.int (done.length : Int))).2), some (.fz (ptD keys (nxt keys ws (tabOf ps) i f)))]) := by
      have ep : pD keys (i, f) = .tup [.str keys[i], .str f] := by show D.tup [.str (keys.getD i ""), .str f] = _; rw [hg]
      rw [List.map_append, List.map_singleton, ep]
      generalize nxt keys ws (tabOf ps) i f = nx at pb ⊢
      generalize shelfD keys ws = SD at pb ⊢
      generalize tableD ps = TD at pb ⊢
      generalize hdm : done.map (pD keys) = DM
      have hdl : DM.length = done.length := by rw [← hdm]; simp
      have zd' : DM.length < PySem.sizeLine := by rw [hdl]; exact zd
      unfold Gen.b_way_2
      cases nx with
      | none => simp [-look, -putA, ln, zv, zd', hdl, zd, pb, ptD] at pb ⊢
      | some q => obtain ⟨j, o⟩ := q; simp [-look, -putA, ln, zv, zd', hdl, zd, pb, ptD] at pb ⊢
    rw [whileD_go h1 h2]
    unfold wayN
    cases hnx : nxt keys ws (tabOf ps) i f with
    | none =>
      obtain ⟨fuel', rfl⟩ : ∃ m, fuel = m + 1 := ⟨fuel - 1, by omega⟩
      refine ⟨_, whileD_end (δ1 := [some (.fz (shelfD keys ws)), some (.fz (tableD ps)), a2, a3, some (.ol ((done ++ [(i, f)]).map (pD keys))), some (.oT (putA pks pvs [.inr keys[i], .inr f] (.int (done.length : Int))).1 (putA pks pvs [.inr keys[i], .inr f] (.int (done.length : Int))).2), some (.fz .non)]) ?_, rfl⟩
      unfold Gen.t_way_1
      simp [-putA, ptD]
    | some q =>
      obtain ⟨j, o⟩ := q
      have hj := nxt_some Sh hnx
      obtain ⟨δ, e, hδ⟩ := way_while Sh ps a2 a3 n j o fuel (done ++ [(i, f)]) _ _ (by omega) hj.2 (by omega) (by rw [List.length_append, List.length_singleton]; omega) (fun q hq' => by
        rcases List.mem_append.mp hq' with hq' | hq'
        · have := hq q hq'; omega
        · rw [List.mem_singleton.mp hq']; exact hj.1) hp'
      refine ⟨δ, e, ?_⟩
      rw [hδ, List.append_assoc]
      rfl
end My

namespace My
open DL PySem
theorem wayN_head (nx : Nat → Str → Option (Nat × Str)) (n i : Nat) (f : Str) (h : i < n) : ∃ r, wayN nx n i f = (i, f) :: r := by
  cases n with
  | zero => omega
  | succ n => exact ⟨_, rfl⟩
theorem wayN_chain {nx : Nat → Str → Option (Nat × Str)} (hx : ∀ i f j o, nx i f = some (j, o) → j < i) : ∀ (n i : Nat) (f : Str), i < n → ∀ (k : Nat) (p : Nat × Str), (wayN nx n i f)[k]? = some p → nx p.1 p.2 = (wayN nx n i f)[k + 1]?
  | 0, i, f, h, _, _, _ => by omega
  | n + 1, i, f, h, k, p, hp => by
    unfold wayN at hp ⊢
    cases hn : nx i f with
    | none =>
      rw [hn] at hp
      cases k with
      | zero => cases hp; rw [hn]; rfl
      | succ k => simp at hp
    | some q =>
      obtain ⟨j, o⟩ := q
      rw [hn] at hp
      have hj := hx i f j o hn
      obtain ⟨r, hr⟩ := wayN_head nx n j o (by omega)
      cases k with
      | zero =>
        cases hp
        rw [hn]
        dsimp only
        rw [List.getElem?_cons_succ, hr]; rfl
      | succ k =>
        dsimp only at hp ⊢
        rw [List.getElem?_cons_succ] at hp ⊢
        exact wayN_chain hx n j o (by omega) k p hp
theorem wayN_all {nx : Nat → Str → Option (Nat × Str)} (hx : ∀ i f j o, nx i f = some (j, o) → j < i) : ∀ (n i : Nat) (f : Str), ∀ p ∈ wayN nx n i f, p.1 ≤ i
  | 0, i, f, p, h => nomatch h
  | n + 1, i, f, p, h => by
    unfold wayN at h
    rcases List.mem_cons.mp h with h | h
    · rw [h]; exact Nat.le_refl _
    · cases hn : nx i f with
      | none => rw [hn] at h; cases h
      | some q =>
        obtain ⟨j, o⟩ := q
        rw [hn] at h
        have := wayN_all hx n j o p h
        have := hx i f j o hn
        omega
theorem wayN_len (nx : Nat → Str → Option (Nat × Str)) : ∀ (n i : Nat) (f : Str), (wayN nx n i f).length ≤ n
  | 0, _, _ => Nat.le_refl _
  | n + 1, i, f => by
    unfold wayN
    rw [List.length_cons]
    split
    · simp
    · have := wayN_len nx n ‹_› ‹_›; omega
section
variable {keys : List Str} {ws : List WK} (Sh : Shelf keys ws) (ps : List (Str × Str))
noncomputable abbrev wl (keys : List Str) (ws : List WK) (ps : List (Str × Str)) (i : Nat) (f : Str) : List (Nat × Str) := wayN (nxt keys ws (tabOf ps)) keys.length i f
include Sh in
theorem way_ok {i : Nat} {k : Str} (f : Str) (hk : keys[i]? = some k) : Gen.g_way [shelfD keys ws, tableD ps, .str k, .str f] = some (.ol ((wl keys ws ps i f).map (pD keys))) := by
  have hil := (List.getElem?_eq_some_iff.mp hk).1
  have hm := Sh.most
  obtain ⟨δ, e, hδ⟩ := way_while Sh ps (some (.fz (.str k))) (some (.fz (.str f))) keys.length i f 1000 [] [] [] hil hil (by omega) (by simp; omega) (fun _ h => nomatch h) ⟨rfl, Nat.le_refl _, fun k f h => absurd rfl h⟩
  have hg : keys.getD i "" = k := by rw [List.getD_eq_getElem?_getD, hk]; rfl
  have ep : pD keys (i, f) = .tup [.str k, .str f] := by show D.tup [.str (keys.getD i ""), .str f] = _; rw [hg]
  rw [ep] at e
  rw [List.nil_append] at hδ
  simp only [List.map_nil] at e
  have z2 : 2 ≤ PySem.sizeLine := line_of (by decide)
  generalize shelfD keys ws = SD at e ⊢
  generalize tableD ps = TD at e ⊢
  unfold Gen.g_way Gen.f_way
  simp [z2, e, hδ]
include Sh in
theorem nx_dec : ∀ i f j o, nxt keys ws (tabOf ps) i f = some (j, o) → j < i := fun i f j o h => (nxt_some Sh h).1
noncomputable def txt (ws : List WK) (p : Nat × Str) : Option D := (ws[p.1]?).bind fun w => look w.2.1 w.2.2 p.2
include Sh in
theorem last_at {i : Nat} {k : Str} (f : Str) (hk : keys[i]? = some k) : ∃ (q : Nat × Str) (kq : Str) (w : WK), L2.atI ((wl keys ws ps i f).map (pD keys)) (-1) = some (.tup [.str kq, .str q.2]) ∧ keys[q.1]? = some kq ∧ ws[q.1]? = some w := by
  have hil := (List.getElem?_eq_some_iff.mp hk).1
  obtain ⟨r, hr⟩ := wayN_head (nxt keys ws (tabOf ps)) keys.length i f hil
  rcases List.eq_nil_or_concat (wl keys ws ps i f) with e | ⟨l, q, e⟩
  · exact absurd (hr.symm.trans e) (by simp)
  · rw [List.concat_eq_append] at e
    have hq := wayN_all (nx_dec Sh ps) keys.length i f q (by rw [show wayN (nxt keys ws (tabOf ps)) keys.length i f = l ++ [q] from e]; simp)
    have hql : q.1 < keys.length := by omega
    have hqw : q.1 < ws.length := by rw [Sh.len]; exact hql
    refine ⟨q, keys[q.1], ws[q.1], ?_, List.getElem?_eq_getElem hql, List.getElem?_eq_getElem hqw⟩
    rw [e, List.map_append]
    have hg : keys.getD q.1 "" = keys[q.1] := by rw [List.getD_eq_getElem?_getD, List.getElem?_eq_getElem hql]; rfl
    have := at_last (l.map (pD keys)) (pD keys q)
    rw [show List.map (pD keys) [q] = [pD keys q] from rfl, this]
    show some (D.tup [.str (keys.getD q.1 ""), .str q.2]) = _
    rw [hg]
end
noncomputable def hadD (o : Option D) : D := o.getD .non
theorem had_ok {keys : List Str} {ws : List WK} (Sh : Shelf keys ws) (ps : List (Str × Str)) {i : Nat} {k : Str} (f : Str) (hk : keys[i]? = some k) {q : Nat × Str} {kq : Str} {w : WK} (hl : L2.atI ((wl keys ws ps i f).map (pD keys)) (-1) = some (.tup [.str kq, .str q.2])) (hq : keys[q.1]? = some kq) (hw : ws[q.1]? = some w) :
    Gen.g_had [shelfD keys ws, tableD ps, .str k, .str f] = some (.fz (hadD (look w.2.1 w.2.2 q.2))) := by
  have wo := way_ok Sh ps f hk
  have sl := shelf_look Sh hq hw
  have lf : look (inrs w.2.1) w.2.2 (Sum.inr q.2) = look w.2.1 w.2.2 q.2 := look_inr _ _ _
  obtain ⟨kind, xs, vs⟩ := w
  dsimp only at *
  replace sl : look (inrs keys) (ws.map workD) (Sum.inr kq) = some (.tup [.str kind, .dK (inrs xs) vs]) := sl
  unfold shelfD at wo ⊢
  generalize (wl keys ws ps i f).map (pD keys) = WL at wo hl
  generalize inrs keys = KS at sl wo ⊢
  generalize ws.map workD = WS at sl wo ⊢
  generalize inrs xs = XS at sl lf
  generalize tableD ps = TD at wo ⊢
  unfold Gen.g_had Gen.f_had hadD
  cases hlk : look xs vs q.2 with
  | none => rw [hlk] at lf; simp [-look, L2.atI, L2.ixN] at hl ⊢; simp [-look, L2.atI, L2.ixN, wo, hl, sl, lf]
  | some v => rw [hlk] at lf; simp [-look, L2.atI, L2.ixN] at hl ⊢; simp [-look, L2.atI, L2.ixN, wo, hl, sl, lf]
end My

namespace My
open DL PySem
/-! dicts: what a put and a drop leave -/
theorem put_mem {κ : Type} [DecidableEq κ] (k : κ) (v : D) (ks : List κ) (vs : List D) : ∀ q ∈ (putA ks vs k v).1, q = k ∨ q ∈ ks := by
  intro q hq
  unfold putA at hq
  split at hq
  · exact .inr hq
  · rcases List.mem_append.mp hq with h | h
    · exact .inr h
    · exact .inl (List.mem_singleton.mp h)
theorem put_val {κ : Type} [DecidableEq κ] (k : κ) (v : D) (ks : List κ) (vs : List D) : ∀ u ∈ (putA ks vs k v).2, u = v ∨ u ∈ vs := by
  intro u hu
  unfold putA at hu
  split at hu
  · obtain ⟨p, hp, e⟩ := List.mem_map.mp hu
    split at e
    · exact .inl e.symm
    · exact .inr (by rw [← e]; exact (List.of_mem_zip hp).2)
  · rcases List.mem_append.mp hu with h | h
    · exact .inr h
    · exact .inl (List.mem_singleton.mp h)
theorem put_old {xs : List Str} {k : Str} {v : D} : ∀ {vs : List D} {i : Nat}, xs.Nodup → xs.length = vs.length → xs[i]? = some k → ((xs.zip vs).map fun p => if p.1 = k then v else p.2) = vs.set i v := by
  induction xs with
  | nil => intro vs i _ _ h; simp at h
  | cons x xs ih =>
    intro vs i nd hl h
    cases vs with
    | nil => cases hl
    | cons u vs =>
      have nd' := List.nodup_cons.mp nd
      have hl' : xs.length = vs.length := by simpa using hl
      cases i with
      | zero =>
        obtain rfl : x = k := Option.some.inj h
        show (if x = x then v else u) :: (xs.zip vs).map (fun p => if p.1 = x then v else p.2) = v :: vs
        rw [if_pos rfl]
        congr 1
        have go : ∀ (ys : List Str) (us : List D), x ∉ ys → ys.length = us.length → (ys.zip us).map (fun p => if p.1 = x then v else p.2) = us := by
          intro ys
          induction ys with
          | nil => intro us _ h; cases us with
            | nil => rfl
            | cons _ _ => cases h
          | cons y ys ih2 => intro us hx h; cases us with
            | nil => cases h
            | cons u us =>
              show (if y = x then v else u) :: (ys.zip us).map (fun p => if p.1 = x then v else p.2) = u :: us
              rw [if_neg (fun e => hx (by rw [e]; exact List.mem_cons_self)), ih2 us (fun hm => hx (List.mem_cons_of_mem _ hm)) (by simpa using h)]
        exact go xs vs nd'.1 hl'
      | succ i =>
        have hm : k ∈ xs := List.mem_of_getElem? (by simpa using h)
        show (if x = k then v else u) :: (xs.zip vs).map (fun p => if p.1 = k then v else p.2) = u :: vs.set i v
        rw [if_neg (fun e => nd'.1 (by rw [e]; exact hm)), ih nd'.2 hl' (by simpa using h)]
theorem putA_set {xs : List Str} {k : Str} {v : D} {vs : List D} {i : Nat} (nd : xs.Nodup) (hl : xs.length = vs.length) (h : xs[i]? = some k) : putA xs vs k v = (xs, vs.set i v) := by
  unfold putA
  rw [if_pos (List.mem_of_getElem? h), put_old nd hl h]
noncomputable def dropS (xs : List Str) (vs : List D) (k : Str) : List Str × List D := (((xs.zip vs).filter fun p => decide (p.1 ≠ k)).map (·.1), ((xs.zip vs).filter fun p => decide (p.1 ≠ k)).map (·.2))
theorem dropS_cons (x : Str) (xs : List Str) (u : D) (vs : List D) (k : Str) : dropS (x :: xs) (u :: vs) k = if x = k then dropS xs vs k else (x :: (dropS xs vs k).1, u :: (dropS xs vs k).2) := by
  unfold dropS
  by_cases h : x = k
  · rw [if_pos h]; simp [h]
  · rw [if_neg h]; simp [h]
theorem dropA_inr (k : Str) : ∀ (xs : List Str) (vs : List D), dropA (inrs xs) vs (Sum.inr k) = (inrs (dropS xs vs k).1, (dropS xs vs k).2)
  | [], _ => by simp [dropS]
  | x :: xs, [] => by simp [dropS]
  | x :: xs, u :: vs => by
    have ih := dropA_inr k xs vs
    rw [dropS_cons]
    have e : dropA (inrs (x :: xs)) (u :: vs) (Sum.inr k) = if x = k then dropA (inrs xs) vs (Sum.inr k) else (Sum.inr x :: (dropA (inrs xs) vs (Sum.inr k)).1, u :: (dropA (inrs xs) vs (Sum.inr k)).2) := by
      unfold dropA
      by_cases h : x = k
      · rw [if_pos h]; simp [h]
      · rw [if_neg h]; simp [h]
    rw [e]
    by_cases h : x = k
    · rw [if_pos h, if_pos h, ih]
    · rw [if_neg h, if_neg h, ih]; rfl
theorem drop_zip (k : Str) (v : D) : ∀ (xs : List Str) (vs : List D), dropS xs ((xs.zip vs).map fun p => if p.1 = k then v else p.2) k = dropS xs vs k
  | [], _ => by simp [dropS]
  | x :: xs, [] => by simp [dropS]
  | x :: xs, u :: vs => by
    have ih := drop_zip k v xs vs
    show dropS (x :: xs) ((if x = k then v else u) :: (xs.zip vs).map (fun p => if p.1 = k then v else p.2)) k = _
    rw [dropS_cons, dropS_cons, ih]
    by_cases h : x = k
    · rw [if_pos h, if_pos h]
    · rw [if_neg h, if_neg h, if_neg h]
theorem drop_put {k : Str} {v : D} {xs : List Str} {vs : List D} (h : k ∈ xs) : dropS (putA xs vs k v).1 (putA xs vs k v).2 k = dropS xs vs k := by
  unfold putA
  rw [if_pos h]
  exact drop_zip k v xs vs
theorem look_drop (k : Str) : ∀ (xs : List Str) (vs : List D) (x : Str), look (dropS xs vs k).1 (dropS xs vs k).2 x = if x = k then none else look xs vs x
  | [], _, x => by simp [dropS, look]
  | a :: xs, [], x => by simp [dropS, look]
  | a :: xs, u :: vs, x => by
    have ih := look_drop k xs vs x
    rw [dropS_cons]
    show _ = if x = k then none else if a = x then some u else look xs vs x
    by_cases h : a = k
    · rw [if_pos h, ih]
      by_cases hx : x = k
      · rw [if_pos hx, if_pos hx]
      · rw [if_neg hx, if_neg hx, if_neg (fun e => hx (e.symm.trans h))]
    · rw [if_neg h]
      show (if a = x then some u else look (dropS xs vs k).1 (dropS xs vs k).2 x) = _
      rw [ih]
      by_cases ha : a = x
      · rw [if_pos ha, if_pos ha, if_neg (fun e => h (ha.trans e))]
      · rw [if_neg ha, if_neg ha]
theorem drop_sub (k : Str) (xs : List Str) (vs : List D) : (dropS xs vs k).1.length = (dropS xs vs k).2.length ∧ (dropS xs vs k).2.length ≤ vs.length ∧ (∀ v ∈ (dropS xs vs k).2, v ∈ vs) ∧ (xs.Nodup → (dropS xs vs k).1.Nodup) := by
  unfold dropS
  refine ⟨by simp, ?_, fun v hv => ?_, fun nd => ?_⟩
  · rw [List.length_map]
    have h1 := List.length_filter_le (fun p : Str × D => decide (p.1 ≠ k)) (xs.zip vs)
    rw [List.length_zip] at h1
    omega
  · obtain ⟨p, hp, rfl⟩ := List.mem_map.mp hv
    exact (List.of_mem_zip (List.mem_filter.mp hp).1).2
  · have h1 : List.Sublist (((xs.zip vs).filter fun p => decide (p.1 ≠ k)).map (·.1)) ((xs.zip vs).map (·.1)) := List.Sublist.map _ List.filter_sublist
    have h2 : List.Sublist ((xs.zip vs).map (·.1)) xs := by
      clear h1 nd
      induction xs generalizing vs with
      | nil => simp
      | cons x xs ih => cases vs with
        | nil => simp
        | cons u vs => exact List.Sublist.cons_cons x (ih vs)
    exact (h1.trans h2).nodup nd
theorem look_some {xs : List Str} : ∀ {vs : List D} {x : Str} {v : D}, look xs vs x = some v → x ∈ xs := by
  intro vs x v h
  apply Classical.byContradiction
  intro hn
  rw [look_none hn] at h
  cases h
/-! a shelf with one work changed -/
noncomputable def WOk (keys : List Str) (i : Nat) (w : WK) : Prop := Work keys i w.1 w.2.1 w.2.2
theorem Shelf.set {keys : List Str} {ws : List WK} (Sh : Shelf keys ws) (i : Nat) (w' : WK) (hw : WOk keys i w') : Shelf keys (ws.set i w') := by
  refine ⟨Sh.nd, by rw [List.length_set]; exact Sh.len, Sh.most, fun j w hj => ?_⟩
  rw [List.getElem?_set] at hj
  by_cases h : i = j
  · subst h
    rw [if_pos rfl] at hj
    split at hj
    · cases hj; exact hw
    · cases hj
  · rw [if_neg h] at hj
    exact Sh.wk j w hj
theorem set_at {ws : List WK} {i : Nat} {w w' : WK} (h : ws[i]? = some w) : (ws.set i w')[i]? = some w' := by
  have hl := (List.getElem?_eq_some_iff.mp h).1
  rw [List.getElem?_set, if_pos rfl, if_pos hl]
theorem set_not {ws : List WK} {i j : Nat} {w' : WK} (h : i ≠ j) : (ws.set i w')[j]? = ws[j]? := by
  rw [List.getElem?_set, if_neg h]
theorem step_eq {keys : List Str} {tab : Str → List (Str × Str)} {f : Str} {w w' : WK} (h1 : w'.1 = w.1) (h2 : look w'.2.1 w'.2.2 IN = look w.2.1 w.2.2 IN) (h3 : (look w'.2.1 w'.2.2 f).isSome = (look w.2.1 w.2.2 f).isSome) : step keys tab f w' = step keys tab f w := by
  unfold step
  rw [h1, h2, h3]
theorem nxt_same {keys : List Str} {ws : List WK} {tab : Str → List (Str × Str)} {l : Nat} {w w' : WK} (hw : ws[l]? = some w) (h1 : w'.1 = w.1) (h2 : look w'.2.1 w'.2.2 IN = look w.2.1 w.2.2 IN) (h3 : ∀ f, (look w'.2.1 w'.2.2 f).isSome = (look w.2.1 w.2.2 f).isSome) : nxt keys (ws.set l w') tab = nxt keys ws tab := by
  funext i f
  unfold nxt
  by_cases h : l = i
  · subst h
    rw [set_at hw, hw]
    exact step_eq h1 h2 (h3 f)
  · rw [set_not h]
/-! the last pair of a way -/
noncomputable def lp (keys : List Str) (ws : List WK) (ps : List (Str × Str)) (i : Nat) (f : Str) : Nat × Str := ((wl keys ws ps i f).getLast?).getD (i, f)
theorem nxt_fs {keys : List Str} {ws : List WK} {ps : List (Str × Str)} {fs : List Str} (hps : ∀ p ∈ ps, p.2 ∈ fs) {i : Nat} {f : Str} {j : Nat} {o : Str} (h : nxt keys ws (tabOf ps) i f = some (j, o)) : o ∈ fs := by
  unfold nxt at h
  obtain ⟨w, hw, h⟩ := Option.bind_eq_some_iff.mp h
  unfold step at h
  split at h
  · cases h
  · obtain ⟨o', ho, h⟩ := Option.bind_eq_some_iff.mp h
    unfold other tabOf at ho
    obtain ⟨p, hp, rfl⟩ := Option.map_eq_some_iff.mp ho
    have := hps p (List.mem_of_find?_eq_some hp)
    split at h
    · obtain ⟨j', _, h⟩ := Option.bind_eq_some_iff.mp h
      cases h
      exact this
    · cases h
theorem wayN_fs {nx : Nat → Str → Option (Nat × Str)} {fs : List Str} (hx : ∀ i f j o, nx i f = some (j, o) → o ∈ fs) : ∀ (n i : Nat) (f : Str), f ∈ fs → ∀ p ∈ wayN nx n i f, p.2 ∈ fs
  | 0, i, f, _, p, h => nomatch h
  | n + 1, i, f, hf, p, h => by
    unfold wayN at h
    rcases List.mem_cons.mp h with h | h
    · rw [h]; exact hf
    · cases hn : nx i f with
      | none => rw [hn] at h; cases h
      | some q =>
        obtain ⟨j, o⟩ := q
        rw [hn] at h
        exact wayN_fs hx n j o (hx i f j o hn) p h
section
variable {keys : List Str} {ws : List WK} (Sh : Shelf keys ws) (ps : List (Str × Str))
include Sh in
theorem lp_at {i : Nat} (f : Str) (hi : i < keys.length) : lp keys ws ps i f ∈ wl keys ws ps i f ∧ (lp keys ws ps i f).1 < keys.length ∧ L2.atI ((wl keys ws ps i f).map (pD keys)) (-1) = some (pD keys (lp keys ws ps i f)) := by
  obtain ⟨r, hr⟩ := wayN_head (nxt keys ws (tabOf ps)) keys.length i f hi
  rcases List.eq_nil_or_concat (wl keys ws ps i f) with e | ⟨l, q, e⟩
  · exact absurd (hr.symm.trans e) (by simp)
  · rw [List.concat_eq_append] at e
    have el : lp keys ws ps i f = q := by unfold lp; rw [e]; simp
    have hm : q ∈ wl keys ws ps i f := by rw [e]; simp
    have hq := wayN_all (nx_dec Sh ps) keys.length i f q hm
    rw [el]
    refine ⟨hm, by omega, ?_⟩
    rw [e, List.map_append]
    exact at_last (l.map (pD keys)) (pD keys q)
include Sh in
theorem had_lp {i : Nat} {k : Str} (f : Str) (hk : keys[i]? = some k) : Gen.g_had [shelfD keys ws, tableD ps, .str k, .str f] = some (.fz (hadD (txt ws (lp keys ws ps i f)))) := by
  have hi := (List.getElem?_eq_some_iff.mp hk).1
  obtain ⟨_, hl, ha⟩ := lp_at Sh ps f hi
  have hlw : (lp keys ws ps i f).1 < ws.length := by rw [Sh.len]; exact hl
  have hg : keys.getD (lp keys ws ps i f).1 "" = keys[(lp keys ws ps i f).1] := by rw [List.getD_eq_getElem?_getD, List.getElem?_eq_getElem hl]; rfl
  rw [show pD keys (lp keys ws ps i f) = .tup [.str (keys.getD (lp keys ws ps i f).1 ""), .str (lp keys ws ps i f).2] from rfl, hg] at ha
  rw [had_ok Sh ps f hk ha (List.getElem?_eq_getElem hl) (List.getElem?_eq_getElem hlw)]
  unfold txt
  rw [List.getElem?_eq_getElem hlw]
  rfl
include Sh in
theorem txt_str (p : Nat × Str) {v : D} (h : txt ws p = some v) : ∃ s, v = .str s := by
  unfold txt at h
  obtain ⟨w, hw, h⟩ := Option.bind_eq_some_iff.mp h
  exact own_str (Sh.wk _ w hw).own h
end
theorem lp_one {keys : List Str} {ws : List WK} {ps : List (Str × Str)} {i : Nat} {f : Str} (hi : i < keys.length) (h : nxt keys ws (tabOf ps) i f = none) : lp keys ws ps i f = (i, f) := by
  unfold lp wl
  obtain ⟨n, hn⟩ : ∃ n, keys.length = n + 1 := ⟨keys.length - 1, by omega⟩
  rw [hn]
  unfold wayN
  rw [h]
  rfl
end My

namespace My
open DL PySem
/-! _law_put -/
theorem set_map {ws : List WK} {i : Nat} {w' : WK} : (ws.map workD).set i (workD w') = (ws.set i w').map workD := by
  rw [List.map_set]
section
variable {keys : List Str} {ws : List WK} (Sh : Shelf keys ws) {i : Nat} {k : Str} {w : WK} (hk : keys[i]? = some k) (hw : ws[i]? = some w)
include Sh hk hw
theorem put_text (hlen : w.2.2.length ≤ 100) (f t : Str) : Gen.g_law_put [shelfD keys ws, .str k, .str f, .str t] = some (.oK (inrs keys) ((ws.set i (w.1, (putA w.2.1 w.2.2 f (.str t)).1, (putA w.2.1 w.2.2 f (.str t)).2)).map workD)) := by
  have W := Sh.wk i w hw
  have sl := shelf_look Sh hk hw
  obtain ⟨kind, xs, vs⟩ := w
  dsimp only at *
  replace sl : look (inrs keys) (ws.map workD) (Sum.inr k) = some (.tup [.str kind, .dK (inrs xs) vs]) := sl
  have zv : vs.length < PySem.sizeLine := line_lt (by omega)
  have zw : (ws.map workD).length < PySem.sizeLine := line_lt (by rw [List.length_map, Sh.len]; have := Sh.most; omega)
  have z2 : 2 ≤ PySem.sizeLine := line_of (by decide)
  have po := putA_inr f (.str t) xs vs
  have hs := fun d => putA_set (v := d) Sh.nd (show keys.length = (ws.map workD).length by rw [List.length_map]; exact Sh.len.symm) hk
  have pw := fun d => putA_inr k d keys (ws.map workD)
  rw [← set_map]
  have t1 : ∀ x y : D, L2.atI [x, y] 1 = some y := fun _ _ => rfl
  have t0 : ∀ x y : D, L2.atI [x, y] 0 = some x := fun _ _ => rfl
  unfold shelfD
  generalize ws.map workD = WS at *
  generalize hK : inrs keys = KS at *
  generalize hP : putA xs vs f (.str t) = P at *
  unfold Gen.g_law_put Gen.f_law_put
  simp [-look, -putA, sl, zv, zw, z2, po, pw, hs, t0, t1, hK]
theorem put_none (hlen : w.2.2.length ≤ 100) (hin : (look w.2.1 w.2.2 IN).isSome = true) : Gen.g_law_put [shelfD keys ws, .str k, .str IN, .non] = some (.oK (inrs keys) ((ws.set i (w.1, (dropS w.2.1 w.2.2 IN).1, (dropS w.2.1 w.2.2 IN).2)).map workD)) := by
  have W := Sh.wk i w hw
  have sl := shelf_look Sh hk hw
  obtain ⟨kind, xs, vs⟩ := w
  dsimp only at *
  replace sl : look (inrs keys) (ws.map workD) (Sum.inr k) = some (.tup [.str kind, .dK (inrs xs) vs]) := sl
  have zv : vs.length < PySem.sizeLine := line_lt (by omega)
  have zw : (ws.map workD).length < PySem.sizeLine := line_lt (by rw [List.length_map, Sh.len]; have := Sh.most; omega)
  have z2 : 2 ≤ PySem.sizeLine := line_of (by decide)
  have po := putA_inr IN .non xs vs
  have hm : IN ∈ xs := by
    obtain ⟨v, hv⟩ := Option.isSome_iff_exists.mp hin
    exact look_some hv
  have hd := drop_put (v := .non) (vs := vs) hm
  have hda := dropA_inr IN (putA xs vs IN .non).1 (putA xs vs IN .non).2
  rw [hd] at hda
  have hlk : look (inrs (putA xs vs IN .non).1) (putA xs vs IN .non).2 (Sum.inr IN) = some .non := by
    rw [look_inr, look_put IN IN .non xs vs W.own.dic.len, if_pos rfl]
  have hs := fun d => putA_set (v := d) Sh.nd (show keys.length = (ws.map workD).length by rw [List.length_map]; exact Sh.len.symm) hk
  have pw := fun d => putA_inr k d keys (ws.map workD)
  rw [← set_map]
  have t1 : ∀ x y : D, L2.atI [x, y] 1 = some y := fun _ _ => rfl
  have t0 : ∀ x y : D, L2.atI [x, y] 0 = some x := fun _ _ => rfl
  unfold shelfD
  generalize ws.map workD = WS at *
  generalize hK : inrs keys = KS at *
  generalize hP : putA xs vs IN .non = P at *
  generalize inrs P.1 = P1 at *
  generalize hDr : dropS xs vs IN = Q at *
  unfold Gen.g_law_put Gen.f_law_put
  simp [-look, -putA, -dropA, sl, zv, zw, z2, po, pw, hs, t0, t1, hK, hlk, hda]
end
/-! a dict from all pairs of two lists -/
theorem inner (B : FS) (a0 a1 a2 a3 : Option SV) (k : Str) (h : Str → D) (hB : ∀ (f : Str) (K : List (List L2.Key)) (V : List D), V.length ≤ 900 → B [a0, a1, a2, a3, some (.oT K V), some (.fz (.str k)), some (.fz (.str f))] = some (.nx [a0, a1, a2, a3, some (.oT (putA K V [.inr k, .inr f] (h f)).1 (putA K V [.inr k, .inr f] (h f)).2), some (.fz (.str k)), some (.fz (.str f))])) :
    ∀ (fs : List Str) (K : List (List L2.Key)) (V : List D) (x6 : Option SV), K.length = V.length → V.length + fs.length ≤ 900 →
    ∃ (K' : List (List L2.Key)) (V' : List D) (y6 : Option SV), forD (gNameF 6) B (fs.map D.str) [a0, a1, a2, a3, some (.oT K V), some (.fz (.str k)), x6] = some (.nx [a0, a1, a2, a3, some (.oT K' V'), some (.fz (.str k)), y6]) ∧ K'.length = V'.length ∧ V'.length ≤ V.length + fs.length ∧ (∀ q ∈ K', q ∈ K ∨ ∃ f ∈ fs, q = [.inr k, .inr f]) ∧ (∀ v ∈ V', v ∈ V ∨ ∃ f ∈ fs, v = h f) ∧ (∀ f ∈ fs, look K' V' [.inr k, .inr f] = some (h f)) ∧ ∀ q, (∀ f ∈ fs, q ≠ [.inr k, .inr f]) → look K' V' q = look K V q
  | [], K, V, x6, hl, hb => ⟨K, V, x6, rfl, hl, Nat.le_refl _, fun q hq => .inl hq, fun v hv => .inl hv, (fun _ h => nomatch h), fun _ _ => rfl⟩
  | f :: fs, K, V, x6, hl, hb => by
    rw [List.length_cons] at hb
    have pl := put_len ([.inr k, .inr f] : List L2.Key) (h f) K V hl
    have lk := fun q => look_put ([.inr k, .inr f] : List L2.Key) q (h f) K V hl
    have pm := put_mem ([.inr k, .inr f] : List L2.Key) (h f) K V
    have pv := put_val ([.inr k, .inr f] : List L2.Key) (h f) K V
    have e1 := hB f K V (by omega)
    generalize putA K V [.inr k, .inr f] (h f) = P at *
    obtain ⟨K', V', y6, e, h1, h2, h3, h4, h5, h6⟩ := inner B a0 a1 a2 a3 k h hB fs P.1 P.2 (some (.fz (.str f))) pl.1 (by omega)
    refine ⟨K', V', y6, ?_, h1, by rw [List.length_cons]; omega, fun q hq => ?_, fun v hv => ?_, fun g hg => ?_, fun q hq => ?_⟩
    · rw [List.map_cons]
      exact (forD_nx (by simp) e1).trans e
    · rcases h3 q hq with z | ⟨g, hg, z⟩
      · rcases pm q z with z | z
        · exact .inr ⟨f, List.mem_cons_self, z⟩
        · exact .inl z
      · exact .inr ⟨g, List.mem_cons_of_mem _ hg, z⟩
    · rcases h4 v hv with z | ⟨g, hg, z⟩
      · rcases pv v z with z | z
        · exact .inr ⟨f, List.mem_cons_self, z⟩
        · exact .inl z
      · exact .inr ⟨g, List.mem_cons_of_mem _ hg, z⟩
    · by_cases hgf : g ∈ fs
      · exact h5 g hgf
      · have hgf' : g = f := (List.mem_cons.mp hg).resolve_right hgf
        subst hgf'
        rw [h6 _ (fun f' hf' e => ?_), lk, if_pos rfl]
        injection e with _ e
        injection e with e _
        rw [Sum.inr.inj e] at hgf
        exact hgf hf'
    · rw [h6 q (fun g hg => hq g (List.mem_cons_of_mem _ hg)), lk, if_neg (fun z => hq f List.mem_cons_self z.symm)]
structure Grid (keys fs : List Str) (h : Nat → Str → D) (n : Nat) (K : List (List L2.Key)) (V : List D) : Prop where
  len : K.length = V.length
  most : V.length ≤ n * fs.length
  mem : ∀ q ∈ K, ∃ i f k, i < n ∧ keys[i]? = some k ∧ f ∈ fs ∧ q = [.inr k, .inr f]
  val : ∀ v ∈ V, ∃ i f, i < n ∧ f ∈ fs ∧ v = h i f
  at' : ∀ i f k, i < n → keys[i]? = some k → f ∈ fs → look K V [.inr k, .inr f] = some (h i f)
theorem outer (B : FS) (a0 a1 : Option SV) (keys fs : List Str) (nd : keys.Nodup) (hkl : keys.length ≤ 40) (hfl : fs.length = 4) (h : Nat → Str → D) (hB : ∀ (i : Nat) (k f : Str) (K : List (List L2.Key)) (V : List D), keys[i]? = some k → V.length ≤ 900 → B [a0, a1, some (.fz (.lst (keys.map D.str))), some (.fz (.lst (fs.map D.str))), some (.oT K V), some (.fz (.str k)), some (.fz (.str f))] = some (.nx [a0, a1, some (.fz (.lst (keys.map D.str))), some (.fz (.lst (fs.map D.str))), some (.oT (putA K V [.inr k, .inr f] (h i f)).1 (putA K V [.inr k, .inr f] (h i f)).2), some (.fz (.str k)), some (.fz (.str f))])) :
    ∀ (R : List Str) (n : Nat) (K : List (List L2.Key)) (V : List D) (x5 x6 : Option SV), keys.drop n = R → n ≤ keys.length → Grid keys fs h n K V →
    ∃ (K' : List (List L2.Key)) (V' : List D) (y5 y6 : Option SV), forD (gNameF 5) (forF (anyI (nameF 3)) (gNameF 6) B) (R.map D.str) [a0, a1, some (.fz (.lst (keys.map D.str))), some (.fz (.lst (fs.map D.str))), some (.oT K V), x5, x6] = some (.nx [a0, a1, some (.fz (.lst (keys.map D.str))), some (.fz (.lst (fs.map D.str))), some (.oT K' V'), y5, y6]) ∧ Grid keys fs h keys.length K' V'
  | [], n, K, V, x5, x6, hd, hn, G => by
    have : keys.length ≤ n := by
      have := congrArg List.length hd
      rw [List.length_drop, List.length_nil] at this
      omega
    have e : n = keys.length := by omega
    subst e
    exact ⟨K, V, x5, x6, rfl, G⟩
  | k :: R, n, K, V, x5, x6, hd, hn, G => by
    have hs : n < keys.length := by
      have := congrArg List.length hd
      rw [List.length_drop, List.length_cons] at this
      omega
    rw [List.drop_eq_getElem_cons hs] at hd
    have hk : keys[n]? = some k := by rw [List.getElem?_eq_getElem hs, (List.cons.inj hd).1]
    have hm := G.most
    rw [hfl] at hm
    obtain ⟨K', V', y6, e, h1, h2, h3, h4, h5, h6⟩ := inner B a0 a1 (some (.fz (.lst (keys.map D.str)))) (some (.fz (.lst (fs.map D.str)))) k (h n) (fun f K V hv => hB n k f K V hk hv) fs K V x6 G.len (by omega)
    have hb : (forF (anyI (nameF 3)) (gNameF 6) B) [a0, a1, some (.fz (.lst (keys.map D.str))), some (.fz (.lst (fs.map D.str))), some (.oT K V), some (.fz (.str k)), x6] = some (.nx [a0, a1, some (.fz (.lst (keys.map D.str))), some (.fz (.lst (fs.map D.str))), some (.oT K' V'), some (.fz (.str k)), y6]) := by
      simp [-forD, e]
    have G' : Grid keys fs h (n + 1) K' V' := by
      refine ⟨h1, by rw [hfl]; omega, fun q hq => ?_, fun v hv => ?_, fun i f k' hi hk' hf => ?_⟩
      · rcases h3 q hq with z | ⟨f, hf, z⟩
        · obtain ⟨i, f, k', hi, z⟩ := G.mem q z
          exact ⟨i, f, k', by omega, z⟩
        · exact ⟨n, f, k, by omega, hk, hf, z⟩
      · rcases h4 v hv with z | ⟨f, hf, z⟩
        · obtain ⟨i, f, hi, z⟩ := G.val v z
          exact ⟨i, f, by omega, z⟩
        · exact ⟨n, f, by omega, hf, z⟩
      · by_cases hin : i = n
        · subst hin
          rw [hk] at hk'
          cases hk'
          exact h5 f hf
        · rw [h6 _ (fun g _ z => ?_)]
          · exact G.at' i f k' (by omega) hk' hf
          · injection z with z _
            have := nd_inj nd hk' (by rw [hk]; exact congrArg some (Sum.inr.inj z).symm)
            exact hin this
    obtain ⟨K2, V2, w5, w6, e2, G2⟩ := outer B a0 a1 keys fs nd hkl hfl h hB R (n + 1) K' V' (some (.fz (.str k))) y6 (List.cons.inj hd).2 (by omega) G'
    exact ⟨K2, V2, w5, w6, (forD_nx (by simp) hb).trans e2, G2⟩
theorem Grid.nil (keys fs : List Str) (h : Nat → Str → D) : Grid keys fs h 0 [] [] := ⟨rfl, by simp, (fun _ h => nomatch h), (fun _ h => nomatch h), fun _ _ _ h => by omega⟩
noncomputable abbrev hadN (keys : List Str) (ws : List WK) (ps : List (Str × Str)) (i : Nat) (f : Str) : D := hadD (txt ws (lp keys ws ps i f))
noncomputable abbrev endN (keys : List Str) (ws : List WK) (ps : List (Str × Str)) (i : Nat) (f : Str) : D := pD keys (lp keys ws ps i f)
theorem had_flat {keys : List Str} {ws : List WK} (Sh : Shelf keys ws) (ps : List (Str × Str)) (i : Nat) (f : Str) : hadN keys ws ps i f = .non ∨ ∃ s, hadN keys ws ps i f = .str s := by
  unfold hadN hadD
  cases h : txt ws (lp keys ws ps i f) with
  | none => exact .inl rfl
  | some v => exact .inr (txt_str Sh _ h)
theorem all_ok {keys fs : List Str} {ws : List WK} (Sh : Shelf keys ws) (ps : List (Str × Str)) (hfl : fs.length = 4) : ∃ K V, Gen.g_law_all [shelfD keys ws, tableD ps, .lst (keys.map D.str), .lst (fs.map D.str)] = some (.oT K V) ∧ Grid keys fs (hadN keys ws ps) keys.length K V := by
  obtain ⟨K, V, y5, y6, e, G⟩ := outer Gen.b_law_all_1 (some (.fz (shelfD keys ws))) (some (.fz (tableD ps))) keys fs Sh.nd Sh.most hfl (hadN keys ws ps) (fun i k f K V hk hv => by
    have hl := had_lp Sh ps f hk
    have hfl := had_flat Sh ps i f
    have zv : V.length < PySem.sizeLine := line_lt (by omega)
    have z2 : 2 ≤ PySem.sizeLine := line_of (by decide)
    unfold hadN at hfl ⊢
    generalize hadD (txt ws (lp keys ws ps i f)) = d at *
    generalize shelfD keys ws = SD at *
    generalize tableD ps = TD at *
    unfold Gen.b_law_all_1
    rcases hfl with rfl | ⟨s, rfl⟩
    · simp [-putA, hl, zv, z2]
    · simp [-putA, hl, zv, z2]) keys 0 [] [] none none (List.drop_zero ..) (Nat.zero_le _) (Grid.nil ..)
  refine ⟨K, V, ?_, G⟩
  generalize shelfD keys ws = SD at *
  generalize tableD ps = TD at *
  unfold Gen.g_law_all Gen.f_law_all Gen.b_law_all_2
  simp [-forD, e]
theorem ends_ok {keys fs : List Str} {ws : List WK} (Sh : Shelf keys ws) (ps : List (Str × Str)) (hfl : fs.length = 4) : ∃ K V, Gen.g_law_ends [shelfD keys ws, tableD ps, .lst (keys.map D.str), .lst (fs.map D.str)] = some (.oT K V) ∧ Grid keys fs (endN keys ws ps) keys.length K V := by
  obtain ⟨K, V, y5, y6, e, G⟩ := outer Gen.b_law_ends_1 (some (.fz (shelfD keys ws))) (some (.fz (tableD ps))) keys fs Sh.nd Sh.most hfl (endN keys ws ps) (fun i k f K V hk hv => by
    have wo := way_ok Sh ps f hk
    obtain ⟨_, _, ha⟩ := lp_at Sh ps f (List.getElem?_eq_some_iff.mp hk).1
    have zv : V.length < PySem.sizeLine := line_lt (by omega)
    have z2 : 2 ≤ PySem.sizeLine := line_of (by decide)
    unfold endN
    generalize (wl keys ws ps i f).map (pD keys) = WL at *
    rw [show pD keys (lp keys ws ps i f) = .tup [.str (keys.getD (lp keys ws ps i f).1 ""), .str (lp keys ws ps i f).2] from rfl] at *
    generalize keys.getD (lp keys ws ps i f).1 "" = A at *
    generalize (lp keys ws ps i f).2 = C at *
    generalize shelfD keys ws = SD at *
    generalize tableD ps = TD at *
    unfold Gen.b_law_ends_1
    simp [-putA, wo, ha, zv, z2]) keys 0 [] [] none none (List.drop_zero ..) (Nat.zero_le _) (Grid.nil ..)
  refine ⟨K, V, ?_, G⟩
  generalize shelfD keys ws = SD at *
  generalize tableD ps = TD at *
  unfold Gen.g_law_ends Gen.f_law_ends Gen.b_law_ends_2
  simp [-forD, e]
end My

namespace My
open DL PySem
noncomputable abbrev OT : Str := "Other text"
noncomputable abbrev IO : Str := "its own"
theorem eqM_two (a b c d : Str) : eqM 48 (.tup [.str a, .str b]) (.tup [.str c, .str d]) = some (decide (a = c) && decide (b = d)) := by
  by_cases h1 : a = c <;> by_cases h2 : b = d <;> simp [h1, h2]
noncomputable def Due (K KE K2 : List (List L2.Key)) (V VE V2 : List D) (kl o : Str) (q : List L2.Key) : Prop :=
  ∃ (k f ke fe : Str) (a b : D), q = [.inr k, .inr f] ∧ look K V q = some b ∧ look KE VE q = some (.tup [.str ke, .str fe]) ∧ look K2 V2 q = some a ∧ (b = .non ∨ ∃ s, b = .str s) ∧ (if ke = kl ∧ fe = o then a = .str OT else a = b)
theorem walk (a0 a1 a2 a3 a4 a7 a8 a9 a10 a16 a17 : Option SV) (K KE K2 : List (List L2.Key)) (V VE V2 : List D) (kl o : Str) : ∀ (R : List (List L2.Key)) (x14 x15 : Option SV), (∀ q ∈ R, Due K KE K2 V VE V2 kl o q) →
    ∃ y14 y15, forD (gNameF 14) Gen.b_law_1 (R.map fun k => D.tup (k.map keyD)) [a0, a1, a2, a3, a4, some (.fz (.dT K V)), some (.oT KE VE), a7, a8, a9, a10, some (.fz (.str kl)), some (.fz (.str o)), some (.oT K2 V2), x14, x15, a16, a17] = some (.nx [a0, a1, a2, a3, a4, some (.fz (.dT K V)), some (.oT KE VE), a7, a8, a9, a10, some (.fz (.str kl)), some (.fz (.str o)), some (.oT K2 V2), y14, y15, a16, a17])
  | [], x14, x15, _ => ⟨x14, x15, rfl⟩
  | q :: R, x14, x15, h => by
    obtain ⟨k, f, ke, fe, a, b, rfl, l1, l2, l3, hb, hd⟩ := h q List.mem_cons_self
    have eq2 := eqM_two ke fe kl o
    have z2 : 2 ≤ PySem.sizeLine := line_of (by decide)
    have hot : Str.ofString "Other text" = OT := rfl
    have hbody : ∃ y15, Gen.b_law_1 [a0, a1, a2, a3, a4, some (.fz (.dT K V)), some (.oT KE VE), a7, a8, a9, a10, some (.fz (.str kl)), some (.fz (.str o)), some (.oT K2 V2), some (.fz (.tup [.str k, .str f])), x15, a16, a17] = some (.nx [a0, a1, a2, a3, a4, some (.fz (.dT K V)), some (.oT KE VE), a7, a8, a9, a10, some (.fz (.str kl)), some (.fz (.str o)), some (.oT K2 V2), some (.fz (.tup [.str k, .str f])), y15, a16, a17]) := by
      by_cases hc : ke = kl ∧ fe = o
      · rw [if_pos hc] at hd
        subst hd
        rw [decide_eq_true hc.1, decide_eq_true hc.2] at eq2
        refine ⟨some (.fz (.str OT)), ?_⟩
        unfold Gen.b_law_1
        rcases hb with rfl | ⟨s, rfl⟩
        · simp [-look, -eqM, l1, l2, l3, eq2, z2, hot]
        · simp [-look, -eqM, l1, l2, l3, eq2, z2, hot]
      · rw [if_neg hc] at hd
        subst hd
        have eq3 : (decide (ke = kl) && decide (fe = o)) = false := by
          rw [← Bool.decide_and]; exact decide_eq_false hc
        rw [eq3] at eq2
        refine ⟨some (.fz a), ?_⟩
        unfold Gen.b_law_1
        rcases hb with rfl | ⟨s, rfl⟩
        · simp [-look, -eqM, l1, l2, l3, eq2, z2, hot]
        · simp [-look, -eqM, l1, l2, l3, eq2, z2, hot]
    obtain ⟨y15, hbody⟩ := hbody
    obtain ⟨w14, w15, e⟩ := walk a0 a1 a2 a3 a4 a7 a8 a9 a10 a16 a17 K KE K2 V VE V2 kl o R (some (.fz (.tup [.str k, .str f]))) y15 (fun q hq => h q (List.mem_cons_of_mem _ hq))
    refine ⟨w14, w15, ?_⟩
    rw [List.map_cons]
    exact (forD_nx (by simp) hbody).trans e
end My

namespace My
open DL PySem
section
variable {keys fs : List Str} {ws : List WK} (Sh : Shelf keys ws) {ps : List (Str × Str)} (hps : ∀ p ∈ ps, p.2 ∈ fs) (hfn : ∀ f ∈ fs, Nam f)
noncomputable def putW (w : WK) (f t : Str) : WK := (w.1, (putA w.2.1 w.2.2 f (.str t)).1, (putA w.2.1 w.2.2 f (.str t)).2)
include Sh in
theorem putW_look {i : Nat} {w : WK} (hw : ws[i]? = some w) (f t x : Str) : look (putW w f t).2.1 (putW w f t).2.2 x = if f = x then some (.str t) else look w.2.1 w.2.2 x :=
  look_put f x _ _ _ (Sh.wk i w hw).own.dic.len
include Sh in
theorem putW_ok {i : Nat} {w : WK} (hw : ws[i]? = some w) {f : Str} (t : Str) (hf : f ≠ IN) : Shelf keys (ws.set i (putW w f t)) := by
  have W := Sh.wk i w hw
  refine Sh.set i _ ⟨W.own.put f t, W.kin, ?_⟩
  rw [putW_look Sh hw f t IN, if_neg hf]
  exact W.inn
include Sh in
theorem dropW_ok {i : Nat} {w : WK} (hw : ws[i]? = some w) : Shelf keys (ws.set i (w.1, (dropS w.2.1 w.2.2 IN).1, (dropS w.2.1 w.2.2 IN).2)) := by
  have W := Sh.wk i w hw
  have d := drop_sub IN w.2.1 w.2.2
  refine Sh.set i _ ⟨⟨⟨d.2.2.2 W.own.dic.nd, d.1⟩, fun v hv => W.own.str v (d.2.2.1 v hv)⟩, W.kin, .inl ?_⟩
  rw [look_drop, if_pos rfl]
include Sh in
theorem put_had {i : Nat} {k : Str} {w : WK} (hk : keys[i]? = some k) (hw : ws[i]? = some w) {f : Str} (t : Str) (hf : f ≠ IN) : Gen.g_had [shelfD keys (ws.set i (putW w f t)), tableD ps, .str k, .str f] = some (.fz (.str t)) := by
  have Sh' := putW_ok Sh hw t hf
  have hi := (List.getElem?_eq_some_iff.mp hk).1
  have lk := putW_look Sh hw f t f
  rw [if_pos rfl] at lk
  have hn : nxt keys (ws.set i (putW w f t)) (tabOf ps) i f = none := by
    unfold nxt
    rw [set_at hw]
    show step keys (tabOf ps) f (putW w f t) = none
    unfold step
    rw [lk]
    rfl
  rw [had_lp Sh' ps f hk, lp_one hi hn]
  unfold txt
  rw [set_at hw]
  show some (SV.fz (hadD (look (putW w f t).2.1 (putW w f t).2.2 f))) = _
  rw [lk]
  rfl
include Sh in
theorem drop_had {i : Nat} {k : Str} {w : WK} (hk : keys[i]? = some k) (hw : ws[i]? = some w) {f : Str} (hf : f ≠ IN) : Gen.g_had [shelfD keys (ws.set i (w.1, (dropS w.2.1 w.2.2 IN).1, (dropS w.2.1 w.2.2 IN).2)), tableD ps, .str k, .str f] = some (.fz (hadD (look w.2.1 w.2.2 f))) := by
  have Sh' := dropW_ok Sh hw
  have hi := (List.getElem?_eq_some_iff.mp hk).1
  have lk := look_drop IN w.2.1 w.2.2 f
  rw [if_neg hf] at lk
  have li := look_drop IN w.2.1 w.2.2 IN
  rw [if_pos rfl] at li
  have hn : nxt keys (ws.set i (w.1, (dropS w.2.1 w.2.2 IN).1, (dropS w.2.1 w.2.2 IN).2)) (tabOf ps) i f = none := by
    unfold nxt
    rw [set_at hw]
    show step keys (tabOf ps) f _ = none
    unfold step
    dsimp only
    rw [li]
    split
    · rfl
    · cases other (tabOf ps w.1) f <;> rfl
  rw [had_lp Sh' ps f hk, lp_one hi hn]
  unfold txt
  rw [set_at hw]
  show some (SV.fz (hadD (look (dropS w.2.1 w.2.2 IN).1 (dropS w.2.1 w.2.2 IN).2 f))) = _
  rw [lk]
include Sh hps hfn in
theorem lp_name {i : Nat} {f : Str} (hi : i < keys.length) (hf : f ∈ fs) : Nam (lp keys ws ps i f).2 :=
  hfn _ (wayN_fs (fun i f j o h => nxt_fs hps h) keys.length i f hf _ (lp_at Sh ps f hi).1)
include Sh hps hfn in
theorem due_ok {i : Nat} {f : Str} (hi : i < keys.length) (hf : f ∈ fs) {w : WK} (hw : ws[(lp keys ws ps i f).1]? = some w) {kl : Str} (hkl : keys[(lp keys ws ps i f).1]? = some kl) (hne : hadN keys ws ps i f ≠ .non) {K KE K2 : List (List L2.Key)} {V VE V2 : List D}
    (G : Grid keys fs (hadN keys ws ps) keys.length K V) (GE : Grid keys fs (endN keys ws ps) keys.length KE VE) (G2 : Grid keys fs (hadN keys (ws.set (lp keys ws ps i f).1 (putW w (lp keys ws ps i f).2 OT)) ps) keys.length K2 V2) : ∀ q ∈ K, Due K KE K2 V VE V2 kl (lp keys ws ps i f).2 q := by
  have hin := nam_in (lp_name Sh hps hfn hi hf)
  have Sh' := putW_ok Sh hw OT hin
  have lk := fun x => putW_look Sh hw (lp keys ws ps i f).2 OT x
  have hs : (look w.2.1 w.2.2 (lp keys ws ps i f).2).isSome = true := by
    unfold hadN txt hadD at hne
    rw [hw] at hne
    cases h : look w.2.1 w.2.2 (lp keys ws ps i f).2 with
    | some v => rfl
    | none => exact absurd (by show (Option.getD (look w.2.1 w.2.2 (lp keys ws ps i f).2) D.non) = _; rw [h]; rfl) hne
  generalize lp keys ws ps i f = L at *
  obtain ⟨l, o⟩ := L
  dsimp only at *
  have nx : nxt keys (ws.set l (putW w o OT)) (tabOf ps) = nxt keys ws (tabOf ps) := by
    refine nxt_same hw rfl (by rw [lk, if_neg hin]) fun x => ?_
    rw [lk]
    by_cases h : o = x
    · rw [if_pos h, ← h, hs]; rfl
    · rw [if_neg h]
  have lpe : ∀ j g, lp keys (ws.set l (putW w o OT)) ps j g = lp keys ws ps j g := fun j g => by
    unfold lp wl; rw [nx]
  intro q hq
  obtain ⟨j, g, k, hj, hk, hg, rfl⟩ := G.mem q hq
  have hjl := (lp_at Sh ps g hj).2.1
  have hgd : keys[(lp keys ws ps j g).1]? = some (keys.getD (lp keys ws ps j g).1 "") := by rw [List.getD_eq_getElem?_getD, List.getElem?_eq_getElem hjl]; rfl
  have h1 := G.at' j g k hj hk hg
  have h2 := GE.at' j g k hj hk hg
  have h3 := G2.at' j g k hj hk hg
  have hfl := had_flat Sh ps j g
  refine ⟨k, g, keys.getD (lp keys ws ps j g).1 "", (lp keys ws ps j g).2, _, _, rfl, h1, h2, h3, hfl, ?_⟩
  unfold hadN
  rw [lpe]
  generalize lp keys ws ps j g = p at *
  obtain ⟨p1, p2⟩ := p
  dsimp only at *
  split
  · rename_i h
    have e : p1 = l := nd_inj Sh.nd hgd (by rw [h.1]; exact hkl)
    subst e
    unfold txt
    dsimp only
    rw [set_at hw]
    show hadD (look (putW w o OT).2.1 (putW w o OT).2.2 p2) = _
    rw [lk, if_pos h.2.symm]
    rfl
  · rename_i h
    unfold txt
    dsimp only
    by_cases e : l = p1
    · subst e
      rw [set_at hw, hw]
      show hadD (look (putW w o OT).2.1 (putW w o OT).2.2 p2) = hadD (look w.2.1 w.2.2 p2)
      rw [lk, if_neg]
      intro z
      rw [hkl] at hgd
      exact h ⟨(Option.some.inj hgd).symm, z.symm⟩
    · rw [set_not e]
end
/-! one turn -/
noncomputable def Hd5 (K : List (List L2.Key)) (V : List D) (sv : SV) : Prop := sv = .oT K V ∨ sv = .fz (.dT K V)
theorem fields_alone (a0 a1 a2 a5 a6 a7 a8 a10 a11 a12 a13 a14 a15 : Option SV) {keys : List Str} {ws : List WK} (Sh : Shelf keys ws) (ps : List (Str × Str)) {i : Nat} {k : Str} {w : WK} (hk : keys[i]? = some k) (hw : ws[i]? = some w) : ∀ (fs : List Str) (x17 : Option SV) (sv16 : SV), (∀ f ∈ fs, Nam f) → (sv16 = .oK (inrs keys) ((ws.set i (w.1, (dropS w.2.1 w.2.2 IN).1, (dropS w.2.1 w.2.2 IN).2)).map workD)) →
    ∃ y17, forD (gNameF 17) Gen.b_law_2 (fs.map D.str) [a0, a1, a2, some (.fz (tableD ps)), some (.fz (shelfD keys ws)), a5, a6, a7, a8, some (.fz (.str k)), a10, a11, a12, a13, a14, a15, some sv16, x17] = some (.nx [a0, a1, a2, some (.fz (tableD ps)), some (.fz (shelfD keys ws)), a5, a6, a7, a8, some (.fz (.str k)), a10, a11, a12, a13, a14, a15, some sv16, y17])
  | [], x17, sv16, _, _ => ⟨x17, rfl⟩
  | f :: fs, x17, sv16, hf, h16 => by
    have dh := drop_had (ps := ps) Sh hk hw (nam_in (hf f List.mem_cons_self))
    have sl := shelf_look Sh hk hw
    have W := Sh.wk i w hw
    have lf : look (inrs w.2.1) w.2.2 (Sum.inr f) = look w.2.1 w.2.2 f := look_inr _ _ _
    obtain ⟨y17, e⟩ := fields_alone a0 a1 a2 a5 a6 a7 a8 a10 a11 a12 a13 a14 a15 Sh ps hk hw fs (some (.fz (.str f))) sv16 (fun g hg => hf g (List.mem_cons_of_mem _ hg)) h16
    refine ⟨y17, ?_⟩
    rw [List.map_cons]
    refine (forD_nx (δ2 := [a0, a1, a2, some (.fz (tableD ps)), some (.fz (shelfD keys ws)), a5, a6, a7, a8, some (.fz (.str k)), a10, a11, a12, a13, a14, a15, some sv16, some (.fz (.str f))]) (δ1 := [a0, a1, a2, some (.fz (tableD ps)), some (.fz (shelfD keys ws)), a5, a6, a7, a8, some (.fz (.str k)), a10, a11, a12, a13, a14, a15, some sv16, some (.fz (.str f))]) (by simp) ?_).trans e
    clear e
    subst h16
    unfold shelfD at dh ⊢
    generalize (ws.set i (w.1, (dropS w.2.1 w.2.2 IN).1, (dropS w.2.1 w.2.2 IN).2)).map workD = WS' at *
    obtain ⟨kind, xs, vs⟩ := w
    dsimp only at *
    replace sl : look (inrs keys) (ws.map workD) (Sum.inr k) = some (.tup [.str kind, .dK (inrs xs) vs]) := sl
    have t1 : ∀ x y : D, L2.atI [x, y] 1 = some y := fun _ _ => rfl
    generalize inrs keys = KS at *
    generalize ws.map workD = WS at *
    generalize inrs xs = XS at *
    generalize tableD ps = TD at *
    unfold Gen.b_law_2
    cases hlk : look xs vs f with
    | none =>
      rw [hlk] at lf dh
      simp only [hadD, Option.getD_none] at dh
      simp [-look, dh, sl, t1, lf]
    | some v =>
      rw [hlk] at lf dh
      obtain ⟨s, rfl⟩ := own_str W.own hlk
      simp only [hadD, Option.getD_some] at dh
      simp [-look, dh, sl, t1, lf]
end My

namespace My
open DL PySem
theorem at_len {α : Type} (l : List α) (x : Int) (h : 0 < l.length) : ∃ (i : Nat) (c : α), l[i]? = some c ∧ L2.atI l (x % (l.length : Int)) = some c := by
  obtain ⟨c, hc, e⟩ := at_mod l x l.length rfl (by omega)
  obtain ⟨i, hi⟩ := List.getElem?_of_mem hc
  exact ⟨i, c, hi, e⟩
theorem turn (a0 : Option SV) {keys fs : List Str} {ws : List WK} (Sh : Shelf keys ws) (hlen : ∀ (j : Nat) (w : WK), ws[j]? = some w → w.2.2.length ≤ 100) (hk0 : 0 < keys.length) {ps : List (Str × Str)} (hps : ∀ p ∈ ps, p.2 ∈ fs) (hfn : ∀ f ∈ fs, Nam f) (hfl : fs.length = 4) {K KE : List (List L2.Key)} {V VE : List D}
    (G : Grid keys fs (hadN keys ws ps) keys.length K V) (GE : Grid keys fs (endN keys ws ps) keys.length KE VE) (c : Int) (sv5 : SV) (h5 : Hd5 K V sv5) (x8 x9 x10 x11 x12 x13 x14 x15 x16 x17 : Option SV) :
    ∃ sv5' y8 y9 y10 y11 y12 y13 y14 y15 y16 y17, Hd5 K V sv5' ∧ Gen.b_law_3 [a0, some (.fz (.lst (keys.map D.str))), some (.fz (.lst (fs.map D.str))), some (.fz (tableD ps)), some (.fz (shelfD keys ws)), some sv5, some (.oT KE VE), some (.fz (.int c)), x8, x9, x10, x11, x12, x13, x14, x15, x16, x17] = some (.nx [a0, some (.fz (.lst (keys.map D.str))), some (.fz (.lst (fs.map D.str))), some (.fz (tableD ps)), some (.fz (shelfD keys ws)), some sv5', some (.oT KE VE), some (.fz (.int c)), y8, y9, y10, y11, y12, y13, y14, y15, y16, y17]) := by
  obtain ⟨ms, e1, hms, e3⟩ := numbers_ok c 3 (by decide)
  rw [show ((3 : Nat) : Int) = 3 from rfl] at e1
  have at' : ∀ j : Nat, (hj : j < 3) → L2.atI (ms.map D.int) (j : Int) = some (.int (ms[j]'(by omega))) := fun j hj => at_nat _ _ _ (by rw [List.getElem?_map, List.getElem?_eq_getElem (by omega)]; rfl)
  have b0 : L2.atI (ms.map D.int) 0 = some (.int (ms[0]'(by omega))) := at' 0 (by decide)
  have b1 : L2.atI (ms.map D.int) 1 = some (.int (ms[1]'(by omega))) := at' 1 (by decide)
  have b2 : L2.atI (ms.map D.int) 2 = some (.int (ms[2]'(by omega))) := at' 2 (by decide)
  generalize ms[0]'(by omega) = v0 at b0
  generalize ms[1]'(by omega) = v1 at b1
  generalize ms[2]'(by omega) = v2 at b2
  obtain ⟨i, dk, hdk, ek⟩ := at_len (keys.map D.str) v0 (by rw [List.length_map]; exact hk0)
  rw [List.length_map] at ek
  rw [List.getElem?_map] at hdk
  obtain ⟨k, hk, rfl⟩ := Option.map_eq_some_iff.mp hdk
  obtain ⟨df, hdf, ef⟩ := at_mod (fs.map D.str) v1 4 (by rw [List.length_map, hfl]; rfl) (by decide)
  obtain ⟨f, hf, rfl⟩ := List.mem_map.mp hdf
  have hi := (List.getElem?_eq_some_iff.mp hk).1
  have hiw : i < ws.length := by rw [Sh.len]; exact hi
  have hw : ws[i]? = some ws[i] := List.getElem?_eq_getElem hiw
  generalize ws[i] = w at hw
  have W := Sh.wk i w hw
  have slk := shelf_look Sh hk hw
  have lkB := G.at' i f k hi hk hf
  have lkE := GE.at' i f k hi hk hf
  have hll := (lp_at Sh ps f hi).2.1
  have hlw : (lp keys ws ps i f).1 < ws.length := by rw [Sh.len]; exact hll
  have hkl : keys[(lp keys ws ps i f).1]? = some keys[(lp keys ws ps i f).1] := List.getElem?_eq_getElem hll
  have hwl : ws[(lp keys ws ps i f).1]? = some ws[(lp keys ws ps i f).1] := List.getElem?_eq_getElem hlw
  have hg : keys.getD (lp keys ws ps i f).1 "" = keys[(lp keys ws ps i f).1] := by rw [List.getD_eq_getElem?_getD, hkl]; rfl
  have eE : endN keys ws ps i f = .tup [.str keys[(lp keys ws ps i f).1], .str (lp keys ws ps i f).2] := by show D.tup [.str (keys.getD (lp keys ws ps i f).1 ""), .str (lp keys ws ps i f).2] = _; rw [hg]
  rw [eE] at lkE
  generalize keys[(lp keys ws ps i f).1] = kl at *
  generalize ws[(lp keys ws ps i f).1] = wl' at *
  have sll := shelf_look Sh hkl hwl
  have lfl : look (inrs wl'.2.1) wl'.2.2 (Sum.inr (lp keys ws ps i f).2) = look wl'.2.1 wl'.2.2 (lp keys ws ps i f).2 := look_inr _ _ _
  have eB : hadN keys ws ps i f = hadD (look wl'.2.1 wl'.2.2 (lp keys ws ps i f).2) := by
    unfold hadN txt
    rw [hwl]; rfl
  have hin := nam_in (lp_name Sh hps hfn hi hf)
  have hinf := nam_in (hfn f hf)
  have Sh2 := putW_ok Sh hwl OT hin
  obtain ⟨K2, V2, eA, G2⟩ := all_ok (fs := fs) Sh2 ps hfl
  have pT := put_text Sh hkl hwl (hlen _ _ hwl) (lp keys ws ps i f).2 OT
  have pO := put_text Sh hk hw (hlen _ _ hw) f IO
  have hO := put_had (ps := ps) Sh hk hw IO hinf
  have due := due_ok Sh hps hfn hi hf hwl hkl
  have lIN : look (inrs w.2.1) w.2.2 (Sum.inr IN) = look w.2.1 w.2.2 IN := look_inr _ _ _
  have WL := Sh.wk _ _ hwl
  have pN := put_none Sh hk hw (hlen _ _ hw)
  have fa := fun a0 a1 a2 a5 a6 a7 a8 a10 a11 a12 a13 a14 a15 x17 => fields_alone a0 a1 a2 a5 a6 a7 a8 a10 a11 a12 a13 a14 a15 Sh ps hk hw fs x17 _ hfn rfl
  replace due := fun hne => due hne G GE G2
  have wk := fun a0 a1 a2 a3 a4 a7 a8 a9 a10 a16 a17 x14 x15 hd => walk a0 a1 a2 a3 a4 a7 a8 a9 a10 a16 a17 K KE K2 V VE V2 kl (lp keys ws ps i f).2 K x14 x15 hd
  have hot : Str.ofString "Other text" = OT := rfl
  have hio : Str.ofString "its own" = IO := rfl
  have hsin : Str.ofString "in" = IN := rfl
  have z2 : 2 ≤ PySem.sizeLine := line_of (by decide)
  have t1 : ∀ x y : D, L2.atI [x, y] 1 = some y := fun _ _ => rfl
  have t0 : ∀ x y : D, L2.atI [x, y] 0 = some x := fun _ _ => rfl
  have kll : (keys.map D.str).length = keys.length := List.length_map ..
  unfold putW at hO eA
  obtain ⟨kind, xs, vs⟩ := w
  obtain ⟨kindl, xsl, vsl⟩ := wl'
  dsimp only at *
  replace slk : look (inrs keys) (ws.map workD) (Sum.inr k) = some (.tup [.str kind, .dK (inrs xs) vs]) := slk
  replace sll : look (inrs keys) (ws.map workD) (Sum.inr kl) = some (.tup [.str kindl, .dK (inrs xsl) vsl]) := sll
  unfold shelfD at *
  generalize (ws.set i (kind, (putA xs vs f (.str IO)).1, (putA xs vs f (.str IO)).2)).map workD = WSO at *
  generalize (ws.set (lp keys ws ps i f).1 (kindl, (putA xsl vsl (lp keys ws ps i f).2 (.str OT)).1, (putA xsl vsl (lp keys ws ps i f).2 (.str OT)).2)).map workD = WST at *
  generalize (ws.set i (kind, (dropS xs vs IN).1, (dropS xs vs IN).2)).map workD = WSD at *
  generalize (lp keys ws ps i f).2 = o at *
  rw [eB] at lkB due
  generalize ws.map workD = WS at *
  generalize inrs keys = KS at *
  generalize inrs xs = XS at *
  generalize inrs xsl = XSL at *
  generalize tableD ps = TD at *
  generalize hkm : keys.map D.str = KM at *
  generalize hfm : fs.map D.str = FM at *
  generalize hmm : ms.map D.int = MM at *
  unfold Hd5 at h5 ⊢
  unfold Gen.b_law_3
  have hk0' : (0 : Int) < (keys.length : Int) := by omega
  cases hlk : look xsl vsl o with
  | none =>
    rw [hlk] at lfl lkB
    simp only [hadD, Option.getD_none] at lkB
    by_cases h1 : v2 % 3 = 1
    · refine ⟨sv5, some (.ol MM), some (.fz (.str k)), some (.fz (.str f)), some (.fz (.str kl)), some (.fz (.str o)), x13, x14, x15, x16, x17, h5, ?_⟩
      rcases h5 with rfl | rfl <;> simp [-look, -forD, -eqM, e1, b0, b1, b2, kll, hk0, hk0', ek, ef, lkE, lkB, sll, slk, t1, lfl, z2, h1, pO, hO, hio]
    · cases hli : look xs vs IN with
      | none =>
        rw [hli] at lIN
        refine ⟨sv5, some (.ol MM), some (.fz (.str k)), some (.fz (.str f)), some (.fz (.str kl)), some (.fz (.str o)), x13, x14, x15, x16, x17, h5, ?_⟩
        rcases h5 with rfl | rfl <;> simp [-look, -forD, -eqM, e1, b0, b1, b2, kll, hk0, hk0', ek, ef, lkE, lkB, sll, slk, t1, lfl, z2, h1, hsin, lIN]
      | some u =>
        rw [hli] at lIN
        have pn := pN (by rw [hli]; rfl)
        obtain ⟨y17, el⟩ := fa a0 (some (.fz (.lst KM))) (some (.fz (.lst FM))) (some sv5) (some (.oT KE VE)) (some (.fz (.int c))) (some (.ol MM)) (some (.fz (.str f))) (some (.fz (.str kl))) (some (.fz (.str o))) x13 x14 x15 x17
        refine ⟨sv5, some (.ol MM), some (.fz (.str k)), some (.fz (.str f)), some (.fz (.str kl)), some (.fz (.str o)), x13, x14, x15, some (.oK KS WSD), y17, h5, ?_⟩
        rcases h5 with rfl | rfl <;> simp [-look, -forD, -eqM, e1, b0, b1, b2, kll, hk0, hk0', ek, ef, lkE, lkB, sll, slk, t1, lfl, z2, h1, hsin, lIN, pn, el]
  | some v =>
    obtain ⟨s, rfl⟩ := own_str WL.own hlk
    have hdue := due (by rw [hlk]; intro z; cases z)
    rw [hlk] at lfl lkB
    simp only [hadD, Option.getD_some] at lkB
    by_cases h0 : v2 % 3 = 0
    · obtain ⟨y14, y15, el⟩ := wk a0 (some (.fz (.lst KM))) (some (.fz (.lst FM))) (some (.fz TD)) (some (.fz (.dK KS WS))) (some (.fz (.int c))) (some (.ol MM)) (some (.fz (.str k))) (some (.fz (.str f))) x16 x17 x14 x15 hdue
      refine ⟨.fz (.dT K V), some (.ol MM), some (.fz (.str k)), some (.fz (.str f)), some (.fz (.str kl)), some (.fz (.str o)), some (.oT K2 V2), y14, y15, x16, x17, .inr rfl, ?_⟩
      rcases h5 with rfl | rfl <;> simp [-look, -forD, -eqM, e1, b0, b1, b2, kll, hk0, hk0', ek, ef, lkE, lkB, sll, slk, t1, lfl, z2, h0, hot, pT, eA, el]
    · by_cases h1 : v2 % 3 = 1
      · refine ⟨sv5, some (.ol MM), some (.fz (.str k)), some (.fz (.str f)), some (.fz (.str kl)), some (.fz (.str o)), x13, x14, x15, x16, x17, h5, ?_⟩
        rcases h5 with rfl | rfl <;> simp [-look, -forD, -eqM, e1, b0, b1, b2, kll, hk0, hk0', ek, ef, lkE, lkB, sll, slk, t1, lfl, z2, h1, pO, hO, hio]
      · cases hli : look xs vs IN with
        | none =>
          rw [hli] at lIN
          refine ⟨sv5, some (.ol MM), some (.fz (.str k)), some (.fz (.str f)), some (.fz (.str kl)), some (.fz (.str o)), x13, x14, x15, x16, x17, h5, ?_⟩
          rcases h5 with rfl | rfl <;> simp [-look, -forD, -eqM, e1, b0, b1, b2, kll, hk0, hk0', ek, ef, lkE, lkB, sll, slk, t1, lfl, z2, h1, hsin, lIN, h0]
        | some u =>
          rw [hli] at lIN
          have pn := pN (by rw [hli]; rfl)
          obtain ⟨y17, el⟩ := fa a0 (some (.fz (.lst KM))) (some (.fz (.lst FM))) (some sv5) (some (.oT KE VE)) (some (.fz (.int c))) (some (.ol MM)) (some (.fz (.str f))) (some (.fz (.str kl))) (some (.fz (.str o))) x13 x14 x15 x17
          refine ⟨sv5, some (.ol MM), some (.fz (.str k)), some (.fz (.str f)), some (.fz (.str kl)), some (.fz (.str o)), x13, x14, x15, some (.oK KS WSD), y17, h5, ?_⟩
          rcases h5 with rfl | rfl <;> simp [-look, -forD, -eqM, e1, b0, b1, b2, kll, hk0, hk0', ek, ef, lkE, lkB, sll, slk, t1, lfl, z2, h1, hsin, lIN, pn, el, h0]
end My

namespace My
open DL PySem
theorem turns (a0 : Option SV) {keys fs : List Str} {ws : List WK} (Sh : Shelf keys ws) (hlen : ∀ (j : Nat) (w : WK), ws[j]? = some w → w.2.2.length ≤ 100) (hk0 : 0 < keys.length) {ps : List (Str × Str)} (hps : ∀ p ∈ ps, p.2 ∈ fs) (hfn : ∀ f ∈ fs, Nam f) (hfl : fs.length = 4) {K KE : List (List L2.Key)} {V VE : List D}
    (G : Grid keys fs (hadN keys ws ps) keys.length K V) (GE : Grid keys fs (endN keys ws ps) keys.length KE VE) : ∀ (cs : List Int) (sv5 : SV) (x7 x8 x9 x10 x11 x12 x13 x14 x15 x16 x17 : Option SV), Hd5 K V sv5 →
    ∃ sv5' y7 y8 y9 y10 y11 y12 y13 y14 y15 y16 y17, Hd5 K V sv5' ∧ forD (gNameF 7) Gen.b_law_3 (cs.map D.int) [a0, some (.fz (.lst (keys.map D.str))), some (.fz (.lst (fs.map D.str))), some (.fz (tableD ps)), some (.fz (shelfD keys ws)), some sv5, some (.oT KE VE), x7, x8, x9, x10, x11, x12, x13, x14, x15, x16, x17] = some (.nx [a0, some (.fz (.lst (keys.map D.str))), some (.fz (.lst (fs.map D.str))), some (.fz (tableD ps)), some (.fz (shelfD keys ws)), some sv5', some (.oT KE VE), y7, y8, y9, y10, y11, y12, y13, y14, y15, y16, y17])
  | [], sv5, x7, x8, x9, x10, x11, x12, x13, x14, x15, x16, x17, h => ⟨sv5, x7, x8, x9, x10, x11, x12, x13, x14, x15, x16, x17, h, rfl⟩
  | c :: cs, sv5, x7, x8, x9, x10, x11, x12, x13, x14, x15, x16, x17, h => by
    obtain ⟨sv1, y8, y9, y10, y11, y12, y13, y14, y15, y16, y17, h1, e1⟩ := turn a0 Sh hlen hk0 hps hfn hfl G GE c sv5 h x8 x9 x10 x11 x12 x13 x14 x15 x16 x17
    obtain ⟨sv2, z7, z8, z9, z10, z11, z12, z13, z14, z15, z16, z17, h2, e2⟩ := turns a0 Sh hlen hk0 hps hfn hfl G GE cs sv1 (some (.fz (.int c))) y8 y9 y10 y11 y12 y13 y14 y15 y16 y17 h1
    exact ⟨sv2, z7, z8, z9, z10, z11, z12, z13, z14, z15, z16, z17, h2, (forD_nx (by simp) e1).trans e2⟩
theorem law_true (ns : List Int) (hns : ns.length ≤ 63) : Gen.g_law [.lst (ns.map D.int)] = some (.fz (.bl true)) := by
  obtain ⟨c0, e0⟩ := cell_at ns 0
  obtain ⟨c1, e1⟩ := cell_at ns 1
  obtain ⟨c2, e2⟩ := cell_at ns 2
  obtain ⟨c9, e9⟩ := cell_at ns 9
  rw [show ((0 : Nat) : Int) = 0 from rfl] at e0
  rw [show ((1 : Nat) : Int) = 1 from rfl] at e1
  rw [show ((2 : Nat) : Int) = 2 from rfl] at e2
  rw [show ((9 : Nat) : Int) = 9 from rfl] at e9
  obtain ⟨x0, h0, m0⟩ := mixed_ok c0
  obtain ⟨x1, h1, m1⟩ := mixed_ok c1
  have q0 : 0 ≤ c0 % 5 := Int.emod_nonneg _ (by decide)
  have q1 : c0 % 5 < 5 := Int.emod_lt_of_pos _ (by decide)
  obtain ⟨n, hn⟩ : ∃ n : Nat, (n : Int) = 2 + c0 % 5 := ⟨(2 + c0 % 5).toNat, by omega⟩
  obtain ⟨keys, ek, kl, knd, kn⟩ := names_ok x0 h0 n (by omega)
  obtain ⟨fs, ef, fl, _, fn⟩ := names_ok x1 h1 4 (by decide)
  rw [show ((4 : Nat) : Int) = 4 from rfl] at ef
  obtain ⟨ps, et, hps⟩ := table_ok c2 fs fl
  obtain ⟨ws, Sh, hlen, es⟩ := shelf_ok ns keys fs fl fn kn (by omega) knd
  obtain ⟨K, V, eA, G⟩ := all_ok (fs := fs) Sh ps fl
  obtain ⟨KE, VE, eE, GE⟩ := ends_ok (fs := fs) Sh ps fl
  obtain ⟨cs, ec, hcl⟩ := cut_map ns (some 10) (some 18)
  obtain ⟨sv5, y7, y8, y9, y10, y11, y12, y13, y14, y15, y16, y17, h5, el⟩ := turns (some (.fz (.lst (ns.map D.int)))) Sh hlen (by omega) hps fn fl G GE (c9 :: cs) (.oT K V) none none none none none none none none none none none (.inl rfl)
  rw [List.map_cons] at el
  have hflat : V.all D.isFlat = true := by
    rw [List.all_eq_true]
    intro v hv
    obtain ⟨i, f, _, _, rfl⟩ := G.val v hv
    rcases had_flat Sh ps i f with e | ⟨s, e⟩ <;> rw [e] <;> rfl
  have hs := sameT_self (ks := K) hflat
  have zc : 1 + cs.length ≤ PySem.sizeLine := line_of (by omega)
  have zc' : cs.length + 1 ≤ PySem.sizeLine := line_of (by omega)
  have z1 : 1 ≤ PySem.sizeLine := line_of (by decide)
  have hcm : (cs.map D.int).length = cs.length := List.length_map ..
  unfold Hd5 at h5
  unfold tableD shelfD at *
  generalize cs.map D.int = CM at *
  generalize ws.map workD = WS at *
  generalize inrs keys = KS at *
  generalize inrs [KB] = TK at *
  generalize [D.lst (ps.map pairD)] = TV at *
  generalize keys.map D.str = KM at *
  generalize fs.map D.str = FM at *
  generalize ns.map D.int = NS at *
  unfold Gen.g_law Gen.f_law
  rcases h5 with h | h <;> subst h <;>
  simp [-forD, e0, e1, e2, e9, m0, m1, ← hn, ek, ef, et, es, eA, eE, ec, hcm, zc, zc', z1, el, hs]
end My

open PySem PySem.W PyProof.Rows
set_option maxRecDepth 100000 in
set_option maxHeartbeats 0 in
theorem PySem.Challenge.cw_citeward_k11_whole_fields_follow_holds : PySem.Challenge.rw_citeward_k11_whole_fields_follow.Holds := by
  w_on; o_law; k_head; (case hw => w_witness2)
  k_fill
  refine Gen.walk (l := PySem.Challenge.rw_citeward_k11_whole_fields_follow) rfl rfl (fun w h Y => PySem.W.kIn_of Y) ?F My.law_true
  case F =>
    intro w mg fa h KX G hmg
    refine' Gen.all_mk KX G hmg ?alaw_names ?llaw_names ?claw_names ?klaw_names ?alaw_numbers ?llaw_numbers ?claw_numbers ?klaw_numbers ?alaw_table ?llaw_table ?claw_table ?klaw_table ?alaw_cell_at ?llaw_cell_at ?claw_cell_at ?klaw_cell_at ?alaw_shelf ?llaw_shelf ?claw_shelf ?klaw_shelf ?aother_field ?lother_field ?cother_field ?kother_field ?apair_behind ?lpair_behind ?cpair_behind ?kpair_behind ?away ?lway ?cway ?kway ?ahad ?lhad ?chad ?khad ?alaw_all ?llaw_all ?claw_all ?klaw_all ?alaw_ends ?llaw_ends ?claw_ends ?klaw_ends ?alaw_mixed ?llaw_mixed ?claw_mixed ?klaw_mixed ?alaw_put ?llaw_put ?claw_put ?klaw_put ?alaw ?llaw ?claw ?klaw ?zdict ?zenumerate ?zint ?zlen ?zrange
    (case alaw_names => k_is)
    (case llaw_names => k_is)
    (case claw_names => k_is)
    (case klaw_names => k_is)
    (case alaw_numbers => k_is)
    (case llaw_numbers => k_is)
    (case claw_numbers => k_is)
    (case klaw_numbers => k_is)
    (case alaw_table => k_is)
    (case llaw_table => k_is)
    (case claw_table => k_is)
    (case klaw_table => k_is)
    (case alaw_cell_at => k_is)
    (case llaw_cell_at => k_is)
    (case claw_cell_at => k_is)
    (case klaw_cell_at => k_is)
    (case alaw_shelf => k_is)
    (case llaw_shelf => k_is)
    (case claw_shelf => k_is)
    (case klaw_shelf => k_is)
    (case aother_field => k_is)
    (case lother_field => k_is)
    (case cother_field => k_is)
    (case kother_field => k_is)
    (case apair_behind => k_is)
    (case lpair_behind => k_is)
    (case cpair_behind => k_is)
    (case kpair_behind => k_is)
    (case away => k_is)
    (case lway => k_is)
    (case cway => k_is)
    (case kway => k_is)
    (case ahad => k_is)
    (case lhad => k_is)
    (case chad => k_is)
    (case khad => k_is)
    (case alaw_all => k_is)
    (case llaw_all => k_is)
    (case claw_all => k_is)
    (case klaw_all => k_is)
    (case alaw_ends => k_is)
    (case llaw_ends => k_is)
    (case claw_ends => k_is)
    (case klaw_ends => k_is)
    (case alaw_mixed => k_is)
    (case llaw_mixed => k_is)
    (case claw_mixed => k_is)
    (case klaw_mixed => k_is)
    (case alaw_put => k_is)
    (case llaw_put => k_is)
    (case claw_put => k_is)
    (case klaw_put => k_is)
    (case alaw => k_is)
    (case llaw => k_is)
    (case claw => k_is)
    (case klaw => k_is)
    (case zdict => k_is)
    (case zenumerate => k_is)
    (case zint => k_is)
    (case zlen => k_is)
    (case zrange => k_is)

