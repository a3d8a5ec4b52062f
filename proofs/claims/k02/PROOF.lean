import PyProof.Rows.All
import Wide.All
import OpenK.AllK
import Wide.FinOn
import Lean
import PyProof.EqAt
import PyProof.EqKinds
import PyProof.TupleCall
import PyProof.NeKinds
import PyProof.EnumMake
import PyProof.ConsumeWalk
import PyProof.StrWalks
import PyProof.WalksMore
import PyProof.StrLawsNeg
import PySem.Challenge.RW_citeward_k02_whole_any_text_of_hands
set_option Elab.async false
set_option linter.all false
set_option maxRecDepth 100000
set_option maxHeartbeats 4000000
/-! THE HAND LAYER, for ints, bools, texts, own classes, LISTS and tuples (index, slices, in, append, pop ..), calls, loops. Paste it whole ahead of your own text; what your proof does not reach may be deleted. -/
namespace L2
open PySem PySem.Spec PyProof.Rows

noncomputable abbrev Key := Sum Int Str
noncomputable def keyIs : Key → Value → Bool
  | .inl k, v => Value.isInt k v
  | .inr x, v => Value.isStrOf x v
noncomputable def keyH (w : World) : Key → Int
  | .inl k => hashInt k
  | .inr x => hashStr w x
theorem keyIs_shape : ∀ {k : Key} {v : Value}, keyIs k v = true → (∃ i t, k = Sum.inl i ∧ v = Value.int i t) ∨ (∃ x t, k = Sum.inr x ∧ v = Value.str x t)
  | .inl i, v, h => by
    obtain ⟨t, e⟩ := Value.isInt_shape (k := i) (v := v) h
    exact .inl ⟨i, t, rfl, e⟩
  | .inr x, v, h => by
    obtain ⟨t, e⟩ := Value.isStrOf_shape (x := x) (v := v) h
    exact .inr ⟨x, t, rfl, e⟩
theorem key_ll (a b : Int) : decide ((Sum.inl a : Key) = Sum.inl b) = (a == b) := by
  by_cases e : a = b
  · subst e; simp
  · have h : ¬ (Sum.inl a : Key) = Sum.inl b := fun q => e (Sum.inl.inj q)
    rw [decide_eq_false h]
    exact (beq_eq_false_iff_ne.mpr e).symm
theorem key_rr (a b : Str) : decide ((Sum.inr a : Key) = Sum.inr b) = decide (a = b) := by
  by_cases e : a = b
  · subst e; simp
  · have h : ¬ (Sum.inr a : Key) = Sum.inr b := fun q => e (Sum.inr.inj q)
    rw [decide_eq_false h, decide_eq_false e]
theorem key_lr (a : Int) (b : Str) : decide ((Sum.inl a : Key) = Sum.inr b) = false := decide_eq_false (fun q => nomatch q)
theorem key_rl (a : Str) (b : Int) : decide ((Sum.inr a : Key) = Sum.inl b) = false := decide_eq_false (fun q => nomatch q)

noncomputable def mixKind (prog : Program) (w : World) : PySem.KeyKind prog w Key where
  is := keyIs
  hash := keyH w
  inj := fun v a b ha hb => by
    rcases keyIs_shape ha with ⟨i, t, rfl, rfl⟩ | ⟨x, t, rfl, rfl⟩
    · rcases keyIs_shape hb with ⟨j, u, rfl, e⟩ | ⟨y, u, rfl, e⟩
      · injection e with e1 _; rw [e1]
      · exact nomatch e
    · rcases keyIs_shape hb with ⟨j, u, rfl, e⟩ | ⟨y, u, rfl, e⟩
      · exact nomatch e
      · injection e with e1 _; rw [e1]
  byValue := fun k v h => by
    rcases keyIs_shape h with ⟨i, t, rfl, rfl⟩ | ⟨x, t, rfl, rfl⟩ <;> rfl
  pyHash := fun hv h => by
    rcases keyIs_shape hv with ⟨i, t, rfl, rfl⟩ | ⟨x, t, rfl, rfl⟩
    · exact wpAny_pyHash_int h
    · exact wpAny_pyHash_str h
  eqBool := fun hu hv h => by
    rcases keyIs_shape hu with ⟨i, t, rfl, rfl⟩ | ⟨x, t, rfl, rfl⟩
    · rcases keyIs_shape hv with ⟨j, u, rfl, rfl⟩ | ⟨y, u, rfl, rfl⟩
      · rw [key_ll] at h; exact wpAny_eqBool_int h
      · rw [key_lr] at h; exact SeqAt.EqAt.int_str i t y u _ _ _ _ h
    · rcases keyIs_shape hv with ⟨j, u, rfl, rfl⟩ | ⟨y, u, rfl, rfl⟩
      · rw [key_rl] at h; exact SeqAt.EqAt.str_int x t j u _ _ _ _ h
      · rw [key_rr] at h; exact wpAny_eqBool_str h
  «strs» := fun k x t v h => by
    rcases keyIs_shape h with ⟨i, u, rfl, e⟩ | ⟨y, u, rfl, e⟩
    · exact nomatch e
    · injection e with e1 _
      subst e1
      cases v <;> rfl

theorem mixKind_is (prog : Program) (w : World) (k : Key) (v : Value) : (mixKind prog w).is k v = keyIs k v := rfl
end L2

namespace L2
open PySem PySem.Spec PyProof.Rows

inductive V where
  | non | bl (b : Bool) | int (i : Int) | str (x : Str) | byt (b : Array UInt8) | flt (b : UInt64) | ref (a : Addr) | ty (n : String)
  deriving DecidableEq

noncomputable def RelV : V → Value → Prop
  | .non, u => u = Value.none
  | .bl b, u => u = Value.bool b
  | .int i, u => ∃ t, u = Value.int i t
  | .str x, u => ∃ t, u = Value.str x t
  | .byt b, u => ∃ t, u = Value.bytes b t
  | .flt b, u => ∃ t, u = Value.float b t
  | .ref a, u => u = Value.ref a
  | .ty n, u => u = Value.type n

noncomputable abbrev Vals : List V → List Value → Prop := Paired RelV
theorem Vals.length {xs : List V} {us : List Value} (r : Vals xs us) : xs.length = us.length := Paired.length r
theorem Vals.get : ∀ {xs : List V} {us : List Value} {i : Nat} {x : V}, Vals xs us → xs[i]? = some x → ∃ u, us[i]? = some u ∧ RelV x u
  | _, _, _, _, .nil, e => by simp at e
  | _, _, 0, _, .cons r _, e => by simp at e; subst e; exact ⟨_, rfl, r⟩
  | _, _, i + 1, x, .cons _ t, e => by
    obtain ⟨u, h1, h2⟩ := Vals.get (i := i) (x := x) t (by simpa using e)
    exact ⟨u, by simpa using h1, h2⟩
theorem Vals.append : ∀ {xs ys : List V} {us ws : List Value}, Vals xs us → Vals ys ws → Vals (xs ++ ys) (us ++ ws)
  | _, _, _, _, .nil, s => s
  | _, _, _, _, .cons r t, s => .cons r (Vals.append t s)
theorem Vals.take : ∀ {xs : List V} {us : List Value} (n : Nat), Vals xs us → Vals (xs.take n) (us.take n)
  | _, _, 0, _ => .nil
  | _, _, _ + 1, .nil => .nil
  | _, _, n + 1, .cons r t => .cons r (Vals.take n t)
theorem Vals.drop : ∀ {xs : List V} {us : List Value} (n : Nat), Vals xs us → Vals (xs.drop n) (us.drop n)
  | _, _, 0, r => r
  | _, _, _ + 1, .nil => .nil
  | _, _, n + 1, .cons _ t => Vals.drop n t

noncomputable def RelO : Option V → Option Value → Prop
  | some v, some u => RelV v u
  | none, none => True
  | _, _ => False
noncomputable def KV {κ : Type} : List (κ × V) → List (κ × Value) → Prop := Paired fun (p : κ × V) (q : κ × Value) => p.1 = q.1 ∧ RelV p.2 q.2

noncomputable def kV : Key → V
  | .inl i => .int i
  | .inr x => .str x

inductive HO where
  | lst (xs : List V)
  | tup (xs : List V)
  | dK (kvs : List (Key × V)) (ep : Nat) | dT (kvs : List (List Key × V)) (ep : Nat) (bs : List Addr)
  | set (S : Int → Bool) (n : Nat)
  | ins (C dx : Addr) (fs : List (Str × V))
  | own (x : Addr)
  | xd (fs : List (Str × V))
  | met (f x : Addr)
  | rng (lo hi : Int)
  | frz (o : Obj) (u : HO)
  | tbl (ps : Array Value)
  | ext (φ : Heap → Prop)

noncomputable abbrev Hp := Addr → Option HO
noncomputable def upd (H : Hp) (a : Addr) (o : HO) : Hp := fun b => if b = a then some o else H b
theorem upd_same {H : Hp} {a : Addr} {o : HO} : upd H a o a = some o := by unfold upd; rw [if_pos rfl]
theorem upd_ne {H : Hp} {a b : Addr} {o : HO} (h : b ≠ a) : upd H a o b = H b := by unfold upd; rw [if_neg h]
theorem ne_of_none {H : Hp} {a b : Addr} {o : HO} (h : H a = some o) (h' : H b = none) : a ≠ b := by
  intro e; subst e; rw [h] at h'; cases h'

section
variable (P : Program) (w : World)
noncomputable def ObjOk (H : Hp) (h : Heap) (a : Addr) : HO → Prop
  | .lst xs => xs.length ≤ sizeLine ∧ ∃ (its : List Value) (n : Nat), Vals xs its ∧ h.get? a = some { cls := .type "list", data := .seq its.toArray n }
  | .tup xs => xs.length ≤ sizeLine ∧ ∃ its : List Value, Vals xs its ∧ IsTup h a its.toArray
  | .dK kvs ep => kvs.length ≤ sizeLine ∧ (a == sysModules) = false ∧ ∃ vs, KV kvs vs ∧ h.DictAt (mixKind P w) a vs ep
  | .dT kvs ep bs => kvs.length ≤ sizeLine ∧ (a == sysModules) = false ∧ ∃ xs : List (List Key × Addr × Value),
      Paired (fun (p : List Key × V) (q : List Key × Addr × Value) => p.1 = q.1 ∧ H q.2.1 = some (.tup (p.1.map kV)) ∧ RelV p.2 q.2.2) kvs xs ∧
      ∃ o es, h.get? a = some o ∧ o.ExactDict ∧ o.data = .dict es ep ∧ es.toList = xs.map (entryOfKey (tupleKind (mixKind P w))) ∧ (xs.map (·.1)).Nodup ∧ (xs.map fun x => x.2.1) = bs
  | .set S n => h.SetOf (intKind P w) a S n
  | .ins C dx fs => H dx = some (.own a) ∧ fs.length ≤ 1000 ∧ dx ≠ a ∧ h.get? a = some (PySem.W.instObj C dx) ∧
      ∃ mA, h.Ns1 dx mA ∧ (∀ f, RelO (fs.lookup f) (mA f)) ∧ PySem.Within mA (fs.map (·.1))
  | .own _ => ∃ o, h.get? a = some o
  | .xd fs => ∃ mA, h.Ns1 a mA ∧ ∀ f, RelO (fs.lookup f) (mA f)
  | .rng lo hi => ∃ t u v, h.get? a = some { cls := .type "range", data := .fields #[.int lo t, .int hi u, .int 1 v] }
  | .frz o u => h.get? a = some o ∧ ObjOk H h a u
  | .tbl ps => h.get? a = some { cls := .none, data := .fields ps }
  | .met f x => h.get? a = some (PySem.W.methodObj (.ref f) (.ref x))
  | .ext φ => φ h ∧ (∃ o, h.get? a = some o) ∧ ∀ h1 h2 : Heap, φ h1 → (∀ o, h1.get? a = some o → h2.get? a = some o) → φ h2
noncomputable def HOk (H : Hp) (h : Heap) : Prop := ∀ a o, H a = some o → ObjOk P w H h a o
end

section
variable {P : Program} {w : World} {H H' : Hp} {h h' : Heap} {a : Addr} {o : HO}
theorem ObjOk.lt (x : ObjOk P w H h a o) : a < h.objs.size := by
  cases o with
  | lst xs => obtain ⟨_, _, _, _, e⟩ := x; exact Heap.lt_size e
  | tup xs => obtain ⟨_, _, _, p⟩ := x; exact p.lt
  | dK kvs ep => obtain ⟨_, _, _, _, o, _, e, _⟩ := x; exact Heap.lt_size e
  | dT kvs ep bs => obtain ⟨_, _, _, _, o, _, e, _⟩ := x; exact Heap.lt_size e
  | set S n => obtain ⟨o, _, _, _, e, _⟩ := x; exact Heap.lt_size e
  | ins C dx fs => obtain ⟨_, _, _, e, _⟩ := x; exact Heap.lt_size e
  | own y => obtain ⟨_, e⟩ := x; exact Heap.lt_size e
  | xd fs => obtain ⟨_, ⟨_, _, _, e, _⟩, _⟩ := x; exact Heap.lt_size e
  | rng lo hi => obtain ⟨_, _, _, e⟩ := x; exact Heap.lt_size e
  | frz ob u => obtain ⟨e, _⟩ := x; exact Heap.lt_size e
  | tbl ps => exact Heap.lt_size (show h.get? a = some _ from x)
  | met f y => exact Heap.lt_size (show h.get? a = some _ from x)
  | ext φ => obtain ⟨_, ⟨_, e⟩, _⟩ := x; exact Heap.lt_size e
theorem Paired.mapP {α β : Type} {F G : α → β → Prop} : ∀ {l₁ : List α} {l₂ : List β}, Paired F l₁ l₂ → (∀ a b, F a b → G a b) → Paired G l₁ l₂
  | _, _, .nil, _ => .nil
  | _, _, .cons r t, f => .cons (f _ _ r) (Paired.mapP t f)
theorem ObjOk.stay (x : ObjOk P w H h a o) (k : ∀ b u, (b = a ∨ H b = some (.own a)) → h.get? b = some u → h'.get? b = some u)
    (ho : ∀ b, H b = some (.own a) → H' b = some (.own a)) (ht : ∀ b xs, H b = some (.tup xs) → H' b = some (.tup xs)) : ObjOk P w H' h' a o := by
  induction o with
  | lst xs => obtain ⟨z, its, n, r, e⟩ := x; exact ⟨z, its, n, r, k _ _ (.inl rfl) e⟩
  | tup xs => obtain ⟨z, its, r, ob, e, c⟩ := x; exact ⟨z, its, r, ob, k _ _ (.inl rfl) e, c⟩
  | dK kvs ep => obtain ⟨z, y, vs, r, ob, es, e, c⟩ := x; exact ⟨z, y, vs, r, ob, es, k _ _ (.inl rfl) e, c⟩
  | dT kvs ep bs =>
    obtain ⟨z, y, xs, r, ob, es, e, c⟩ := x
    exact ⟨z, y, xs, Paired.mapP r fun p q z => ⟨z.1, ht _ _ z.2.1, z.2.2⟩, ob, es, k _ _ (.inl rfl) e, c⟩
  | set S n => obtain ⟨ob, es, ep, t, e, c⟩ := x; exact ⟨ob, es, ep, t, k _ _ (.inl rfl) e, c⟩
  | ins C dx fs =>
    obtain ⟨d, z, ne, e, mA, ⟨od, es, ep, e2, c⟩, r⟩ := x
    exact ⟨ho _ d, z, ne, k _ _ (.inl rfl) e, mA, ⟨od, es, ep, k _ _ (.inr d) e2, c⟩, r⟩
  | own y => obtain ⟨ob, e⟩ := x; exact ⟨ob, k _ _ (.inl rfl) e⟩
  | xd fs => obtain ⟨mA, ⟨od, es, ep, e, c⟩, r⟩ := x; exact ⟨mA, ⟨od, es, ep, k _ _ (.inl rfl) e, c⟩, r⟩
  | rng lo hi => obtain ⟨t, u, v, e⟩ := x; exact ⟨t, u, v, k _ _ (.inl rfl) e⟩
  | frz ob u ih => obtain ⟨e, q⟩ := x; exact ⟨k _ _ (.inl rfl) e, ih q⟩
  | tbl ps =>
    have e : h.get? a = some { cls := .none, data := .fields ps } := x
    show h'.get? a = some { cls := .none, data := .fields ps }
    exact k a _ (.inl rfl) e
  | met f y =>
    have e : h.get? a = some (PySem.W.methodObj (.ref f) (.ref y)) := x
    show h'.get? a = some (PySem.W.methodObj (.ref f) (.ref y))
    exact k a _ (.inl rfl) e
  | ext φ => obtain ⟨p, ⟨o, e⟩, st⟩ := x; exact ⟨st _ _ p fun o q => k _ _ (.inl rfl) q, ⟨o, k _ _ (.inl rfl) e⟩, st⟩
theorem HOk.lt (x : HOk P w H h) (e : H a = some o) : a < h.objs.size := (x a o e).lt
theorem HOk.fresh (x : HOk P w H h) (e : h.objs.size ≤ a) : H a = none := by
  cases q : H a with
  | none => rfl
  | some u => exact absurd (Nat.lt_of_lt_of_le (x.lt q) e) (Nat.lt_irrefl _)
theorem HOk.kept (x : HOk P w H h) (k : ∀ b u, h.get? b = some u → h'.get? b = some u) : HOk P w H h' := fun a o e =>
  (x a o e).stay (fun b u _ q => k b u q) (fun _ q => q) fun _ _ q => q
theorem HOk.laid (x : HOk P w H h) (k : ∀ b u, h.get? b = some u → h'.get? b = some u) (hp : h.objs.size ≤ a) (new : ObjOk P w (upd H a o) h' a o) : HOk P w (upd H a o) h' := fun b u e => by
  have hn := x.fresh hp
  by_cases hb : b = a
  · subst hb; rw [upd_same] at e; cases e; exact new
  · rw [upd_ne hb] at e
    exact (x b u e).stay (fun c v _ q => k c v q) (fun c q => by rw [upd_ne (ne_of_none q hn)]; exact q) fun c xs q => by rw [upd_ne (ne_of_none q hn)]; exact q
end

noncomputable def Rd (H : Hp) (a : Addr) (u : HO) : Prop := H a = some u ∨ ∃ o, H a = some (.frz o u)
theorem Rd.ok {P : Program} {w : World} {H : Hp} {h : Heap} {a : Addr} {u : HO} (r : Rd H a u) (x : HOk P w H h) : ObjOk P w H h a u := by
  rcases r with r | ⟨o, r⟩
  · exact x a u r
  · obtain ⟨_, q⟩ := x a _ r
    exact q
noncomputable def HK (H : Hp) (a : Addr) (kvs : List (Key × V)) : Prop := ∃ ep, H a = some (.dK kvs ep)
noncomputable def HTt (H : Hp) (a : Addr) (kvs : List (List Key × V)) : Prop := ∃ ep bs, H a = some (.dT kvs ep bs)
noncomputable def Mut : Option HO → Prop
  | some (.lst _) => True
  | some (.dK _ _) => True
  | some (.dT _ _ _) => True
  | some (.set _ _) => True
  | some (.ins _ _ _) => True
  | some (.ext _) => True
  | _ => False
section
variable {P : Program} {w : World} {H : Hp} {h h' : Heap} {x e : Addr} {o' : HO}
theorem HOk.write (ok : HOk P w H h) (mu : Mut (H x)) (he : e = x ∨ H e = some (.own x)) (k : ∀ b u, b ≠ e → h.get? b = some u → h'.get? b = some u) (heo : ∃ u, h'.get? e = some u)
    (new : ObjOk P w (upd H x o') h' x o') : HOk P w (upd H x o') h' := fun b u q => by
  have nown : ∀ c y, H c = some (.own y) → c ≠ x := fun c y r z => by subst z; rw [r] at mu; exact mu
  have ntup : ∀ c xs, H c = some (.tup xs) → c ≠ x := fun c xs r z => by subst z; rw [r] at mu; exact mu
  by_cases hb : b = x
  · subst hb; rw [upd_same] at q; cases q; exact new
  · rw [upd_ne hb] at q
    by_cases hbe : b = e
    · have q' : H b = some (.own x) := by
        rcases he with z | z
        · exact absurd (hbe.trans z) hb
        · rw [hbe]; exact z
      rw [q] at q'; cases q'
      obtain ⟨v, hv⟩ := heo
      exact ⟨v, by rw [hbe]; exact hv⟩
    · refine (ok b u q).stay (fun c v hc r => k c v ?_ r) (fun c r => by rw [upd_ne (nown c b r)]; exact r) fun c xs r => by rw [upd_ne (ntup c xs r)]; exact r
      rcases hc with rfl | hc
      · exact hbe
      · rintro rfl
        rcases he with z | z
        · exact nown c b hc z
        · rw [hc] at z; cases z; exact hb rfl
end

/-! ### kept unless tracked; of the frames at fs (the callers') the slots may change (an exception that passes writes there); of the records at ex (iterators) nothing is said -/
structure Un (fs ex : List Addr) (H H' : Hp) (h h' : Heap) : Prop where
  keep : ∀ b o, h.get? b = some o → H b = none → b ∉ fs → b ∉ ex → h'.get? b = some o
  slot : ∀ b o, h.get? b = some o → H b = none → b ∈ fs → b ∉ ex → ∃ sl, h'.get? b = some { o with slots := sl }
  free : ∀ b o, h.get? b = some o → H b = none → b ∉ ex → H' b = none
  there : ∀ b o, h.get? b = some o → b ∉ ex → ∃ o', h'.get? b = some o'
  tups : ∀ b xs, H b = some (.tup xs) → H' b = some (.tup xs)
  frzs : ∀ b o u, H b = some (.frz o u) → H' b = some (.frz o u)
  tbls : ∀ b ps, H b = some (.tbl ps) → ∃ more, H' b = some (.tbl (ps ++ more))
section
variable {fs fs' ex ex' : List Addr} {H H1 H2 : Hp} {h h1 h2 h' : Heap} {a x e : Addr} {o : HO}
theorem Un.any (u : Un fs ex H H1 h h1) {b : Addr} {ob : Obj} (q : h.get? b = some ob) (n : H b = none) (hx : b ∉ ex) : ∃ sl, h1.get? b = some { ob with slots := sl } := by
  by_cases hb : b ∈ fs
  · exact u.slot b ob q n hb hx
  · exact ⟨ob.slots, u.keep b ob q n hb hx⟩
theorem Un.kept (k : ∀ b u, h.get? b = some u → h'.get? b = some u) : Un fs ex H H h h' :=
  ⟨fun b ob q _ _ _ => k b ob q, fun b ob q _ _ _ => ⟨ob.slots, k b ob q⟩, fun _ _ _ n _ => n, fun b ob q _ => ⟨ob, k b ob q⟩, fun _ _ q => q, fun _ _ _ q => q, fun _ ps q => ⟨#[], by rw [q]; simp⟩⟩
theorem Un.refl : Un fs ex H H h h := Un.kept fun _ _ q => q
theorem Un.laid (k : ∀ b u, h.get? b = some u → h'.get? b = some u) (hp : h.objs.size ≤ a) (hn : H a = none) : Un fs ex H (upd H a o) h h' where
  keep := fun b u q _ _ _ => k b u q
  slot := fun b u q _ _ _ => ⟨u.slots, k b u q⟩
  free := fun b u q n _ => by rw [upd_ne (Nat.ne_of_lt (Nat.lt_of_lt_of_le (Heap.lt_size q) hp))]; exact n
  there := fun b u q _ => ⟨u, k b u q⟩
  tups := fun b xs q => by rw [upd_ne (ne_of_none q hn)]; exact q
  frzs := fun b u xs q => by rw [upd_ne (ne_of_none q hn)]; exact q
  tbls := fun b ps q => ⟨#[], by rw [upd_ne (ne_of_none q hn), q]; simp⟩
theorem Un.write (mu : Mut (H x)) (he : e = x ∨ H e = some (.own x)) (k : ∀ b u, b ≠ e → h.get? b = some u → h'.get? b = some u) (heo : ∃ u, h'.get? e = some u) : Un fs ex H (upd H x o) h h' := by
  have hx : ∀ b, H b = none → b ≠ x := fun b n z => by subst z; rw [n] at mu; exact mu
  have hb : ∀ b, H b = none → b ≠ e := fun b n z => by
    subst z
    rcases he with r | r
    · exact hx b n r
    · rw [n] at r; cases r
  have hm : ∀ b u, H b = some u → ¬ Mut (some u) → b ≠ x := fun b u q nm z => by subst z; rw [q] at mu; exact nm mu
  refine ⟨fun b u q n _ _ => k b u (hb b n) q, fun b u q n _ _ => ⟨u.slots, k b u (hb b n) q⟩, fun b u q n _ => by rw [upd_ne (hx b n)]; exact n, fun b u q _ => ?_,
    fun b xs q => by rw [upd_ne (hm b _ q fun z => z)]; exact q, fun b u xs q => by rw [upd_ne (hm b _ q fun z => z)]; exact q, fun b ps q => ⟨#[], by rw [upd_ne (hm b _ q fun z => z), q]; simp⟩⟩
  by_cases hbe : b = e
  · subst hbe; exact heo
  · exact ⟨u, k b u hbe q⟩
end

/-! ### the heap without what is tracked -/
noncomputable def trk (h : Heap) (H : Hp) : List Addr := (List.range h.objs.size).filter fun a => (H a).isSome
noncomputable def hidT (h : Heap) (H : Hp) : Heap := PySem.W.hideAll h (trk h H)
theorem hidT_size (h : Heap) (H : Hp) : (hidT h H).objs.size = h.objs.size := PySem.W.hideAll_size _ _
theorem hidT_get {h : Heap} {H : Hp} {b : Addr} {o : Obj} (e : h.get? b = some o) (n : H b = none) : (hidT h H).get? b = some o :=
  PySem.W.hideAll_get _ e fun hm => by
    have q : (H b).isSome = true := (List.mem_filter.mp hm).2
    rw [n] at q; simp at q
theorem of_hidT {h : Heap} {H : Hp} {b : Addr} {o : Obj} (e : (hidT h H).get? b = some o) : h.get? b = some o ∧ H b = none := by
  have e' : h.get? b = some o := PySem.W.of_hideAll (trk h H) e
  refine ⟨e', ?_⟩
  cases q : H b with
  | none => rfl
  | some x =>
    have hm : b ∈ trk h H := List.mem_filter.mpr ⟨List.mem_range.mpr (Heap.lt_size e'), by simp [q]⟩
    have z : (hidT h H).get? b = none := PySem.W.hideAll_none (trk h H) hm
    rw [z] at e; cases e

/-! ### OpenK's ledger, filled with every new object but one -/
noncomputable def allNews (g h : Heap) (L : Addr) : List (Addr × Obj) := (List.range h.objs.size).filterMap fun a => if a = L ∨ (g.get? a).isSome = true then none else (h.get? a).map fun o => (a, o)
noncomputable def rest (g h : Heap) (L d : Addr) : List (Addr × Obj) := (allNews g h L).filter fun p => decide (p.1 ≠ d)
end L2

namespace L2
open PySem PySem.Spec PyProof.Rows

structure Mod (K : PySem.W.Frag) (mg : Str → Option Value) (base : Heap) : Prop where
  kin : K.In base
  glob : base.Ns mainGlobals mg
  blt : ∃ mb, base.Ns builtinsNs mb ∧ ∀ x : Str, x ≠ "__name__" → mb x = bootBuiltins x
  nolimit : base.NoLimit

structure Cx where
  prog : Program
  w : World
  K : PySem.W.Frag
  mg : Str → Option Value
  base : Heap
  A : Around
  N : List Str
  s₀ : Shared
  H₀ : Hp
  env : Env
  outer : List Env
  stack : List Env
  ex : List Addr
  fn : Str → Bool
  calm : Bool
  pn : List (Addr × Obj)
  xe : Value → Shared → Prop
noncomputable def frs (l : List Env) : List Addr := l.filterMap (·.frame)
noncomputable abbrev Cx.fs (X : Cx) : List Addr := frs X.outer

noncomputable def Vis (sc : Scope) (x : Str) : Prop := sc.names.lookup x = some .local ∨ sc.names.lookup x = some .cell ∨ sc.names.lookup x = some .free
noncomputable def Loc (sc : Scope) (x : Str) : Prop := sc.names.lookup x = some .local ∨ sc.names.lookup x = some .cell
noncomputable def Look (env : Env) (h : Heap) (m : Str → Option Value) (x : Str) (u : Value) : Prop :=
  (env.kindOf x = some .local ∧ m x = some u) ∨ ((env.kindOf x = some .cell ∨ env.kindOf x = some .free) ∧ ∃ c, env.cells.lookup x = some c ∧ h.IsCell c (some u))

structure Cx.Ok (X : Cx) : Prop where
  mod : Mod X.K X.mg X.base
  kind : X.env.scope.kind = .function
  glob : X.env.globals = mainGlobals
  blt : X.env.builtins = builtinsNs
  above : X.s₀.heap.objs.size ≤ X.env.locals
  inj : ∀ x y c, X.env.cells.lookup x = some c → X.env.cells.lookup y = some c → x = y
  has : ∀ x, (X.env.kindOf x = some .cell ∨ X.env.kindOf x = some .free) → ∃ c, X.env.cells.lookup x = some c
  cab : ∀ x c, X.fn x = true → X.env.cells.lookup x = some c → X.s₀.heap.objs.size ≤ c
  hd : X.calm = true → X.A.handled = none
  frames : X.A.frames = some X.stack
  stk : X.stack = X.outer ∨ (X.stack = X.env :: X.outer ∧ X.env.frame = some X.env.locals)
  exf : ∀ b ∈ X.ex, b ≠ X.env.locals ∧ ∀ x c, X.env.cells.lookup x = some c → c ≠ b
  bs : ∀ b o, X.base.get? b = some o → X.s₀.heap.get? b = some o ∧ X.H₀ b = none
  bsz : X.base.objs.size ≤ X.s₀.heap.objs.size
  noex : ∀ b o, X.base.get? b = some o → b ∉ X.ex
  exfs : ∀ b ∈ X.ex, b ∉ X.fs
  funs : X.s₀.heap.FunFrames X.base X.outer
  frf : ∀ b ∈ X.fs, X.H₀ b = none

structure Inv (X : Cx) (pins : List (Addr × Obj)) (σ : List (Option V)) (H : Hp) (s : Shared) : Prop where
  ok : X.Ok
  os : s.os = X.s₀.os
  bare : AllBare s.gens
  base : Un X.fs X.ex X.H₀ H X.s₀.heap s.heap
  loc : ∃ m, s.heap.Ns X.env.locals m ∧ ∀ (i : Nat) (x : Str) (v : V), X.N[i]? = some x → σ[i]? = some (some v) → Vis X.env.scope x → ∃ u, RelV v u ∧ Look X.env s.heap m x u
  cell : ∀ x c, X.env.cells.lookup x = some c → ∃ v, s.heap.IsCell c v
  free : H X.env.locals = none
  freeC : ∀ x c, X.env.cells.lookup x = some c → H c = none
  pin : ∀ p ∈ X.pn ++ pins, s.heap.get? p.1 = some p.2 ∧ H p.1 = none ∧ p.1 ≠ X.env.locals ∧ p.1 ∉ X.fs ∧ ∀ v, p.2.data ≠ .cell v
  hok : HOk X.prog X.w H s.heap
  len : σ.length = X.N.length

section
variable {X : Cx} {pins : List (Addr × Obj)} {σ : List (Option V)} {H H' : Hp} {s : Shared} {h' : Heap}

theorem Cx.Ok.nofr (ok : X.Ok) {b : Addr} {o : Obj} (e : X.base.get? b = some o) : b ∉ X.fs := fun hb => by
  have := (ok.funs.mem hb).1
  rw [e] at this; cases this
theorem Inv.bs (I : Inv X pins σ H s) : ∀ b o, X.base.get? b = some o → s.heap.get? b = some o ∧ H b = none := fun b o e =>
  ⟨I.base.keep b o (I.ok.bs b o e).1 (I.ok.bs b o e).2 (I.ok.nofr e) (I.ok.noex b o e), I.base.free b o (I.ok.bs b o e).1 (I.ok.bs b o e).2 (I.ok.noex b o e)⟩
theorem Inv.bk (I : Inv X pins σ H s) : ∀ b o, X.base.get? b = some o → s.heap.get? b = some o := fun b o e => (I.bs b o e).1
theorem Inv.mod (I : Inv X pins σ H s) : Mod X.K X.mg X.base := I.ok.mod
theorem Inv.kIn (I : Inv X pins σ H s) : X.K.In s.heap := I.ok.mod.kin.keeps I.bk
theorem Inv.lt (I : Inv X pins σ H s) : X.env.locals < s.heap.objs.size := let ⟨_, hn, _⟩ := I.loc; hn.lt
theorem Inv.sz (I : Inv X pins σ H s) : X.s₀.heap.objs.size ≤ s.heap.objs.size := Nat.le_trans I.ok.above (Nat.le_of_lt I.lt)
theorem Inv.nofs (I : Inv X pins σ H s) {a : Addr} (h : s.heap.objs.size ≤ a) : a ∉ X.fs := fun hb => by
  obtain ⟨_, o, ho, _⟩ := I.ok.funs.mem hb
  exact absurd (Nat.lt_of_lt_of_le (Heap.lt_size ho) (Nat.le_trans I.sz h)) (Nat.lt_irrefl _)
theorem Inv.cne (I : Inv X pins σ H s) : ∀ x c, X.env.cells.lookup x = some c → c ≠ X.env.locals := fun x c e z => by
  obtain ⟨v, o, ho, hd⟩ := I.cell x c e
  obtain ⟨m, ⟨o', es, ep, ho', hd', _⟩, _⟩ := I.loc
  rw [z, ho'] at ho; cases ho; rw [hd'] at hd; cases hd
theorem Inv.funs (I : Inv X pins σ H s) : s.heap.FunFrames X.base X.outer := by
  have all : ∀ (l : List Env), (∀ b ∈ frs l, b ∈ X.fs) → X.s₀.heap.FunFrames X.base l → s.heap.FunFrames X.base l := by
    intro l
    induction l with
    | nil => intro _ _; trivial
    | cons env r ih =>
      intro hs hl
      obtain ⟨hk, ⟨L, o, hf, hn, ho, hd⟩, hr⟩ := hl
      have hL : L ∈ X.fs := hs L (by unfold frs; rw [List.filterMap_cons, hf]; exact List.mem_cons_self)
      obtain ⟨sl, e⟩ := I.base.slot L o ho (I.ok.frf L hL) hL fun z => I.ok.exfs L z hL
      exact ⟨hk, ⟨L, _, hf, hn, e, hd⟩, ih (fun b hb => hs b (by unfold frs; rw [List.filterMap_cons, hf]; exact List.mem_cons_of_mem _ hb)) hr⟩
  exact all X.outer (fun _ hb => hb) I.ok.funs

theorem Inv.stack (I : Inv X pins σ H s) : s.heap.FunFrames X.base X.stack := by
  rcases I.ok.stk with e | ⟨e, hf⟩
  · rw [e]; exact I.funs
  · rw [e]
    obtain ⟨m, hn, _⟩ := I.loc
    refine .cons (by rw [I.ok.kind]; decide) hf hn ?_ I.funs
    exact Heap.get?_none_of_le (Nat.le_trans I.ok.bsz I.ok.above)
theorem Inv.stkSub (I : Inv X pins σ H s) : ∀ b ∈ frs X.stack, b ∈ X.env.locals :: X.fs := fun b hb => by
  rcases I.ok.stk with e | ⟨e, hf⟩
  · rw [e] at hb; exact List.mem_cons_of_mem _ hb
  · rw [e] at hb
    unfold frs at hb
    rw [List.filterMap_cons, hf] at hb
    exact hb
theorem Inv.stkFree (I : Inv X pins σ H s) : ∀ b ∈ frs X.stack, H b = none := fun b hb => by
  rcases List.mem_cons.mp (I.stkSub b hb) with e | hb
  · rw [e]; exact I.free
  · obtain ⟨_, o, ho, _⟩ := I.ok.funs.mem hb
    exact I.base.free b o ho (I.ok.frf b hb) fun z => I.ok.exfs b z hb

theorem Inv.step {g' : Array GenState} {t' : Nat} {d' : Drawn} {ch : List Addr} (I : Inv X pins σ H s)
    (hch : ∀ b ∈ ch, (b ∈ X.ex ∨ X.s₀.heap.objs.size ≤ b) ∧ b ≠ X.env.locals ∧ (∀ x c, X.env.cells.lookup x = some c → c ≠ b) ∧ ∀ p ∈ X.pn ++ pins, p.1 ≠ b)
    (keep : ∀ b o, b ≠ X.env.locals → b ∉ X.fs → b ∉ ch → s.heap.get? b = some o → H b = none → h'.get? b = some o)
    (slot : ∀ b o, b ≠ X.env.locals → b ∈ X.fs → b ∉ ch → s.heap.get? b = some o → H b = none → ∃ sl, h'.get? b = some { o with slots := sl }) (free : ∀ b o, b ∉ ch → s.heap.get? b = some o → H b = none → H' b = none)
    (there : ∀ b o, b ∉ ch → s.heap.get? b = some o → ∃ o', h'.get? b = some o')
    (tups : ∀ b xs, H b = some (.tup xs) → H' b = some (.tup xs)) (frzs : ∀ b o u, H b = some (.frz o u) → H' b = some (.frz o u)) (tbls : ∀ b ps, H b = some (.tbl ps) → ∃ more, H' b = some (.tbl (ps ++ more)))
    (ns : ∀ m, s.heap.Ns X.env.locals m → h'.Ns X.env.locals m) (hok : HOk X.prog X.w H' h') (hg : AllBare g') :
    Inv X pins σ H' { s with heap := h', gens := g', drawn := d', toks := t' } := by
  have neL : ∀ b o, X.s₀.heap.get? b = some o → b ≠ X.env.locals := fun b o e => Nat.ne_of_lt (Nat.lt_of_lt_of_le (Heap.lt_size e) I.ok.above)
  have neC : ∀ b o, X.s₀.heap.get? b = some o → b ∉ X.ex → b ∉ ch := fun b o e hx hb => by
    rcases (hch b hb).1 with z | z
    · exact hx z
    · exact absurd (Nat.lt_of_lt_of_le (Heap.lt_size e) z) (Nat.lt_irrefl _)
  have cellK : ∀ x c, X.env.cells.lookup x = some c → ∀ v, s.heap.IsCell c v → h'.IsCell c v := fun x c e v ⟨o, ho, hd⟩ => by
    have nch : c ∉ ch := fun z => (hch c z).2.2.1 x c e rfl
    by_cases hc : c ∈ X.fs
    · obtain ⟨sl, q⟩ := slot c o (I.cne x c e) hc nch ho (I.freeC x c e)
      exact ⟨_, q, hd⟩
    · exact ⟨o, keep c o (I.cne x c e) hc nch ho (I.freeC x c e), hd⟩
  refine ⟨I.ok, I.os, hg, ⟨fun b o e n hb hx => ?_, fun b o e n hb hx => ?_, fun b o e n hx => ?_, fun b o e hx => ?_, fun b xs e => tups b xs (I.base.tups b xs e), fun b o xs e => frzs b o xs (I.base.frzs b o xs e), fun b ps e => ?_⟩, ?_, fun x c e => ?_, ?_, fun x c e => ?_, fun p hp => ?_, hok, I.len⟩
  · exact keep b o (neL b o e) hb (neC b o e hx) (I.base.keep b o e n hb hx) (I.base.free b o e n hx)
  · obtain ⟨sl, e1⟩ := I.base.slot b o e n hb hx
    obtain ⟨sl', e2⟩ := slot b _ (neL b o e) hb (neC b o e hx) e1 (I.base.free b o e n hx)
    exact ⟨sl', e2⟩
  · obtain ⟨o', e1⟩ := I.base.there b o e hx
    exact free b o' (neC b o e hx) e1 (I.base.free b o e n hx)
  · obtain ⟨o', e1⟩ := I.base.there b o e hx
    exact there b o' (neC b o e hx) e1
  · obtain ⟨m1, e1⟩ := I.base.tbls b ps e
    obtain ⟨m2, e2⟩ := tbls b _ e1
    exact ⟨m1 ++ m2, by rw [e2, Array.append_assoc]⟩
  · obtain ⟨m, hn, hl⟩ := I.loc
    refine ⟨m, ns m hn, fun i x v e1 e2 e3 => ?_⟩
    obtain ⟨u, r, l⟩ := hl i x v e1 e2 e3
    refine ⟨u, r, ?_⟩
    rcases l with l | ⟨k, c, e, z⟩
    · exact .inl l
    · exact .inr ⟨k, c, e, cellK x c e _ z⟩
  · obtain ⟨v, z⟩ := I.cell x c e
    exact ⟨v, cellK x c e v z⟩
  · obtain ⟨m, ⟨o, _, _, ho, _⟩, _⟩ := I.loc
    exact free _ o (fun z => (hch _ z).2.1 rfl) ho I.free
  · obtain ⟨v, o, ho, hd⟩ := I.cell x c e
    exact free c o (fun z => (hch c z).2.2.1 x c e rfl) ho (I.freeC x c e)
  · obtain ⟨e, n, ne, nf, d⟩ := I.pin p hp
    have nch : p.1 ∉ ch := fun z => (hch p.1 z).2.2.2 p hp rfl
    exact ⟨keep p.1 p.2 ne nf nch e n, free p.1 p.2 nch e n, ne, nf, d⟩
theorem Inv.un {t' : Nat} (I : Inv X pins σ H s) (u : Un X.fs [] H H' s.heap h') (hok : HOk X.prog X.w H' h') : Inv X pins σ H' { s with heap := h', toks := t' } := by
  obtain ⟨m, ⟨o, es, ep, ho, r⟩, _⟩ := id I.loc
  obtain ⟨sl, hL⟩ := u.any ho I.free (by simp)
  exact I.step (g' := s.gens) (d' := s.drawn) (ch := []) (fun _ z => nomatch z) (fun b o _ hb _ e n => u.keep b o e n hb (by simp)) (fun b o _ hb _ e n => u.slot b o e n hb (by simp)) (fun b o _ e n => u.free b o e n (by simp)) (fun b o _ e => u.there b o e (by simp)) u.tups u.frzs u.tbls (fun m' hm => by
    obtain ⟨o', es', ep', ho', r'⟩ := hm
    rw [ho] at ho'; cases ho'
    exact ⟨_, es', ep', hL, r'⟩) hok I.bare
theorem Inv.call {g' : Array GenState} {t' : Nat} {d' : Drawn} {ch : List Addr} (I : Inv X pins σ H s) (u : Un (frs X.stack) ch H H' s.heap h') (hok : HOk X.prog X.w H' h') (hg : AllBare g')
    (hch : ∀ b ∈ ch, (b ∈ X.ex ∨ X.s₀.heap.objs.size ≤ b) ∧ b ≠ X.env.locals ∧ (∀ x c, X.env.cells.lookup x = some c → c ≠ b) ∧ ∀ p ∈ X.pn ++ pins, p.1 ≠ b) :
    Inv X pins σ H' { s with heap := h', gens := g', drawn := d', toks := t' } := by
  obtain ⟨m, ⟨o, es, ep, ho, r⟩, _⟩ := id I.loc
  obtain ⟨sl, hL⟩ := u.any ho I.free fun z => (hch _ z).2.1 rfl
  exact I.step (ch := ch) hch (fun b o hL hb hc e n => u.keep b o e n (fun z => (List.mem_cons.mp (I.stkSub b z)).elim hL hb) hc) (fun b o _ _ hc e n => u.any e n hc) (fun b o hc e n => u.free b o e n hc) (fun b o hc e => u.there b o e hc) u.tups u.frzs u.tbls (fun m' hm => by
    obtain ⟨o', es', ep', ho', r'⟩ := hm
    rw [ho] at ho'; cases ho'
    exact ⟨_, es', ep', hL, r'⟩) hok hg
theorem Inv.turned {t' : Nat} {it : Addr} (I : Inv X pins σ H s) (k : ∀ b o, b ≠ it → s.heap.get? b = some o → h'.get? b = some o) (hn : H it = none) (hL : it ≠ X.env.locals)
    (h1 : it ∈ X.ex ∨ X.s₀.heap.objs.size ≤ it) (h2 : ∀ x c, X.env.cells.lookup x = some c → c ≠ it) (h3 : ∀ p ∈ X.pn ++ pins, p.1 ≠ it) : Inv X pins σ H { s with heap := h', toks := t' } := by
  have nit : ∀ b u, H b = some u → b ≠ it := fun b u e z => by rw [z, hn] at e; cases e
  refine I.step (g' := s.gens) (d' := s.drawn) (ch := [it]) (fun b hb => ?_) (fun b o _ _ hc e _ => k b o (fun z => hc (by simp [z])) e) (fun b o _ _ hc e _ => ⟨o.slots, k b o (fun z => hc (by simp [z])) e⟩) (fun _ _ _ _ n => n)
    (fun b o hc e => ⟨o, k b o (fun z => hc (by simp [z])) e⟩) (fun _ _ e => e) (fun _ _ _ e => e) (fun b ps e => ⟨#[], by rw [e]; simp⟩) (fun m hm => ?_) (fun b u e => ?_) I.bare
  · have e : b = it := by simpa using hb
    subst e
    exact ⟨h1, hL, h2, h3⟩
  · obtain ⟨o, es, ep, ho, r⟩ := hm
    exact ⟨o, es, ep, k _ o (Ne.symm hL) ho, r⟩
  · refine (I.hok b u e).stay (fun c v hc q => k c v ?_ q) (fun _ q => q) fun _ _ q => q
    rcases hc with z | z
    · rw [z]; exact nit b u e
    · exact nit c _ z
theorem Inv.tok (I : Inv X pins σ H s) (t : Nat) : Inv X pins σ H { s with toks := t } := I.un (h' := s.heap) (t' := t) Un.refl I.hok
theorem Inv.kept {t' : Nat} (I : Inv X pins σ H s) (k : ∀ b u, s.heap.get? b = some u → h'.get? b = some u) : Inv X pins σ H { s with heap := h', toks := t' } := I.un (Un.kept k) (I.hok.kept k)
theorem Inv.laid {a : Addr} {o : HO} {t' : Nat} (I : Inv X pins σ H s) (k : ∀ b u, s.heap.get? b = some u → h'.get? b = some u) (hp : s.heap.objs.size ≤ a) (new : ObjOk X.prog X.w (upd H a o) h' a o) :
    Inv X pins σ (upd H a o) { s with heap := h', toks := t' } := I.un (Un.laid k hp (I.hok.fresh hp)) (I.hok.laid k hp new)
theorem Inv.write {x e : Addr} {o : HO} {t' : Nat} (I : Inv X pins σ H s) (mu : Mut (H x)) (he : e = x ∨ H e = some (.own x)) (k : ∀ b u, b ≠ e → s.heap.get? b = some u → h'.get? b = some u) (heo : ∃ u, h'.get? e = some u)
    (new : ObjOk X.prog X.w (upd H x o) h' x o) : Inv X pins σ (upd H x o) { s with heap := h', toks := t' } := I.un (Un.write mu he k heo) (I.hok.write mu he k heo new)
theorem Inv.pins_of {pins' : List (Addr × Obj)} (I : Inv X pins σ H s) (h : ∀ p ∈ pins', s.heap.get? p.1 = some p.2 ∧ H p.1 = none ∧ p.1 ≠ X.env.locals ∧ p.1 ∉ X.fs ∧ ∀ v, p.2.data ≠ .cell v) : Inv X pins' σ H s :=
  ⟨I.ok, I.os, I.bare, I.base, I.loc, I.cell, I.free, I.freeC, fun p hp => (List.mem_append.mp hp).elim (fun z => I.pin p (List.mem_append_left _ z)) (h p), I.hok, I.len⟩

theorem nodup_ix {N : List Str} (hN : N.Nodup) {i j : Nat} {x : Str} (a : N[i]? = some x) (b : N[j]? = some x) : i = j := by
  obtain ⟨h1, e1⟩ := List.getElem?_eq_some_iff.mp a
  obtain ⟨h2, e2⟩ := List.getElem?_eq_some_iff.mp b
  exact (List.getElem_inj hN).mp (e1.trans e2.symm)

theorem store_ok2 {M : Model} {A : Around} {E : Value → Shared → Prop} {i : Nat} {x : Str} {v : V} {u : Value} {Q : Unit → Shared → Prop} (I : Inv X pins σ H s) (hN : X.N.Nodup) (hi : X.N[i]? = some x) (hx : Loc X.env.scope x) (r : RelV v u)
    (h : ∀ s', Inv X pins (σ.set i (some v)) H s' → (∃ a, Heap.SameBut a s.heap s'.heap ∧ (a = X.env.locals ∨ X.env.cells.lookup x = some a)) → Q () s') (hf : X.fn x = true ∨ X.env.scope.names.lookup x = some .local := by first | exact .inl rfl | exact .inr rfl | assumption) : wpAny M A (storeName X.env x u) Q E s := by
  obtain ⟨m, hn, hl⟩ := id I.loc
  have hcls : (X.env.scope.kind == .class || (X.env.scope.kind == .module && X.env.locals != X.env.globals)) = false := by rw [I.ok.kind]; rfl
  have hiσ : i < σ.length := by rw [I.len]; exact (List.getElem?_eq_some_iff.mp hi).1
  have cne := I.cne
  have tracked : ∀ {a : Addr} {h' : Heap}, (∃ o, s.heap.get? a = some o ∧ H a = none) → Heap.SameBut a s.heap h' → HOk X.prog X.w H h' := fun {a h'} ha hs b ob e => by
    obtain ⟨_, _, hfree⟩ := ha
    refine (I.hok b ob e).stay (fun c w' hc q => (hs.2 c ?_).trans q) (fun _ q => q) fun _ _ q => q
    rintro rfl
    rcases hc with rfl | hc
    · rw [hfree] at e; cases e
    · rw [hfree] at hc; cases hc
  rcases hx with hk | hk
  · refine wpAny_storeName_local hk hn (fun h' hn' hs => ?_) hcls
    obtain ⟨oL, _, _, hoL, _⟩ := id hn
    refine h _ ⟨I.ok, I.os, I.bare, ⟨fun b o e n hb hx => ?_, fun b o e n hb hx => ?_, I.base.free, fun b o e hx => ?_, I.base.tups, I.base.frzs, I.base.tbls⟩, ⟨_, hn', fun j y v' e1 e2 e3 => ?_⟩, fun y c e => ?_, I.free, I.freeC, fun p hp => ?_, tracked ⟨oL, hoL, I.free⟩ hs, by simpa using I.len⟩ ⟨_, hs, .inl rfl⟩
    · exact (hs.2 b (Nat.ne_of_lt (Nat.lt_of_lt_of_le (Heap.lt_size e) I.ok.above))).trans (I.base.keep b o e n hb hx)
    · obtain ⟨sl, e1⟩ := I.base.slot b o e n hb hx
      exact ⟨sl, (hs.2 b (Nat.ne_of_lt (Nat.lt_of_lt_of_le (Heap.lt_size e) I.ok.above))).trans e1⟩
    · obtain ⟨o', e1⟩ := I.base.there b o e hx
      exact ⟨o', (hs.2 b (Nat.ne_of_lt (Nat.lt_of_lt_of_le (Heap.lt_size e) I.ok.above))).trans e1⟩
    · by_cases hj : j = i
      · subst hj
        rw [hi] at e1; cases e1
        rw [List.getElem?_set_self hiσ] at e2
        cases e2
        exact ⟨u, r, .inl ⟨hk, by simp⟩⟩
      · rw [List.getElem?_set_ne (Ne.symm hj)] at e2
        obtain ⟨u', r', q⟩ := hl j y v' e1 e2 e3
        refine ⟨u', r', ?_⟩
        rcases q with ⟨k, e⟩ | ⟨k, c, e, z⟩
        · refine .inl ⟨k, ?_⟩
          have : y ≠ x := fun e => hj (nodup_ix hN e1 (e ▸ hi))
          simp [this, e]
        · exact .inr ⟨k, c, e, z.sameBut hs (cne y c e)⟩
    · obtain ⟨w', z⟩ := I.cell y c e
      exact ⟨w', z.sameBut hs (cne y c e)⟩
    · obtain ⟨e, n, ne, nf, d⟩ := I.pin p hp
      exact ⟨(hs.2 p.1 ne).trans e, n, ne, nf, d⟩
  · have hfn : X.fn x = true := by
      rcases hf with z | z
      · exact z
      · rw [z] at hk; cases hk
    obtain ⟨c, hc⟩ := I.ok.has x (.inl hk)
    obtain ⟨w', z⟩ := I.cell x c hc
    refine wpAny_storeName_cell I.ok.kind hk hc z (fun h' hc' hs => ?_)
    obtain ⟨oc, hoc, hocd⟩ := id z
    refine h { s with heap := h' } ⟨I.ok, I.os, I.bare, ⟨fun b o e n hb hx => ?_, fun b o e n hb hx => ?_, I.base.free, fun b o e hx => ?_, I.base.tups, I.base.frzs, I.base.tbls⟩, ⟨m, hn.sameBut hs (Ne.symm (cne x c hc)), fun j y v' e1 e2 e3 => ?_⟩, fun y c' e => ?_, I.free, I.freeC, fun p hp => ?_, tracked ⟨oc, hoc, I.freeC x c hc⟩ hs, by simpa using I.len⟩ ⟨c, hs, .inr hc⟩
    · exact (hs.2 b (Nat.ne_of_lt (Nat.lt_of_lt_of_le (Heap.lt_size e) (I.ok.cab x c hfn hc)))).trans (I.base.keep b o e n hb hx)
    · obtain ⟨sl, e1⟩ := I.base.slot b o e n hb hx
      exact ⟨sl, (hs.2 b (Nat.ne_of_lt (Nat.lt_of_lt_of_le (Heap.lt_size e) (I.ok.cab x c hfn hc)))).trans e1⟩
    · obtain ⟨o', e1⟩ := I.base.there b o e hx
      exact ⟨o', (hs.2 b (Nat.ne_of_lt (Nat.lt_of_lt_of_le (Heap.lt_size e) (I.ok.cab x c hfn hc)))).trans e1⟩
    · by_cases hj : j = i
      · subst hj
        rw [hi] at e1; cases e1
        rw [List.getElem?_set_self hiσ] at e2
        cases e2
        exact ⟨u, r, .inr ⟨.inl hk, c, hc, hc'⟩⟩
      · rw [List.getElem?_set_ne (Ne.symm hj)] at e2
        obtain ⟨u', r', q⟩ := hl j y v' e1 e2 e3
        refine ⟨u', r', ?_⟩
        rcases q with q | ⟨k, c', e, z'⟩
        · exact .inl q
        · refine .inr ⟨k, c', e, z'.sameBut hs ?_⟩
          rintro rfl
          exact hj (nodup_ix hN e1 (I.ok.inj _ _ _ e hc ▸ hi))
    · by_cases hcc : c' = c
      · subst hcc; exact ⟨_, hc'⟩
      · obtain ⟨w2, z2⟩ := I.cell y c' e
        exact ⟨w2, z2.sameBut hs hcc⟩
    · obtain ⟨e, n, ne, nf, d⟩ := I.pin p hp
      refine ⟨(hs.2 p.1 ?_).trans e, n, ne, nf, d⟩
      intro q
      rw [q, hoc] at e
      have q' : oc = p.2 := Option.some.inj e
      exact d w' (by rw [← q']; exact hocd)
theorem store_ok {M : Model} {A : Around} {E : Value → Shared → Prop} {i : Nat} {x : Str} {v : V} {u : Value} {Q : Unit → Shared → Prop} (I : Inv X pins σ H s) (hN : X.N.Nodup) (hi : X.N[i]? = some x) (hx : Loc X.env.scope x) (r : RelV v u)
    (h : ∀ s', Inv X pins (σ.set i (some v)) H s' → Q () s') (hf : X.fn x = true ∨ X.env.scope.names.lookup x = some .local := by first | exact .inl rfl | exact .inr rfl | assumption) : wpAny M A (storeName X.env x u) Q E s :=
  store_ok2 I hN hi hx r (fun s' I' _ => h s' I') hf
theorem Inv.call' {s' : Shared} {ch : List Addr} (I : Inv X pins σ H s) (ho : s'.os = s.os) (u : Un (frs X.stack) ch H H' s.heap s'.heap) (hok : HOk X.prog X.w H' s'.heap) (hg : AllBare s'.gens)
    (hch : ∀ b ∈ ch, (b ∈ X.ex ∨ X.s₀.heap.objs.size ≤ b) ∧ b ≠ X.env.locals ∧ (∀ x c, X.env.cells.lookup x = some c → c ≠ b) ∧ ∀ p ∈ X.pn ++ pins, p.1 ≠ b) : Inv X pins σ H' s' := by
  obtain ⟨h', g', d', t', o'⟩ := s'
  have e : o' = s.os := ho
  subst e
  exact I.call (g' := g') (t' := t') (d' := d') u hok hg hch
end

/-! ### the judgements -/
noncomputable abbrev XK := Value → Option Addr → Hp → Prop
noncomputable abbrev St := List (Option V)
noncomputable abbrev VK := V → Hp → Prop
noncomputable abbrev TE := St → Hp → VK → Prop
noncomputable abbrev TT := St → Hp → (Bool → Hp → Prop) → Prop
noncomputable abbrev TA := St → Hp → (List V → Hp → Prop) → Prop
structure Ends where
  nx : St → Hp → Prop
  rt : VK
  bk : St → Hp → Prop := fun _ _ => False
  ct : St → Hp → Prop := fun _ _ => False
noncomputable abbrev TS := Ends → St → Hp → Prop

noncomputable def EP (X : Cx) (pins : List (Addr × Obj)) (σ : St) (Q : VK) (u : Value) (s' : Shared) : Prop := ∃ v H', Inv X pins σ H' s' ∧ RelV v u ∧ Q v H'
noncomputable def TP (X : Cx) (pins : List (Addr × Obj)) (σ : St) (Q : Bool → Hp → Prop) (b : Bool) (s' : Shared) : Prop := ∃ H', Inv X pins σ H' s' ∧ Q b H'
noncomputable def AP (X : Cx) (pins : List (Addr × Obj)) (σ : St) (Q : List V → Hp → Prop) (us : List Value) (s' : Shared) : Prop := ∃ vs H', Inv X pins σ H' s' ∧ Vals vs us ∧ Q vs H'
noncomputable def SP (X : Cx) (pins : List (Addr × Obj)) (D : Ends) (f : Flow) (s' : Shared) : Prop :=
  match f with
  | .next => ∃ σ' H', Inv X pins σ' H' s' ∧ D.nx σ' H'
  | .brk => ∃ σ' H', Inv X pins σ' H' s' ∧ D.bk σ' H'
  | .cont => ∃ σ' H', Inv X pins σ' H' s' ∧ D.ct σ' H'
  | .ret u => ∃ v σ' H', Inv X pins σ' H' s' ∧ RelV v u ∧ D.rt v H'

noncomputable def PE (X : Cx) (e : Expr) (t : TE) : Prop :=
  ∀ (pins : List (Addr × Obj)) (s : Shared) (σ : St) (H : Hp) (Q : VK), Inv X pins σ H s → t σ H Q → wpAny (model X.prog X.w) X.A (eval e X.env) (EP X pins σ Q) X.xe s
noncomputable def PT (X : Cx) (e : Expr) (t : TT) : Prop :=
  ∀ (pins : List (Addr × Obj)) (s : Shared) (σ : St) (H : Hp) (Q : Bool → Hp → Prop), Inv X pins σ H s → t σ H Q → wpAny (model X.prog X.w) X.A (isTrue e X.env (eval e X.env)) (TP X pins σ Q) X.xe s
noncomputable def PW (X : Cx) (e : Expr) (t : TT) : Prop :=
  ∀ (whole : Sem Value) (pins : List (Addr × Obj)) (s : Shared) (σ : St) (H : Hp) (Q : Bool → Hp → Prop), Inv X pins σ H s → t σ H Q → wpAny (model X.prog X.w) X.A (isTrue e X.env whole) (TP X pins σ Q) X.xe s
theorem PW.pt {X : Cx} {e : Expr} {t : TT} (h : PW X e t) : PT X e t := h _
noncomputable def PA (X : Cx) (es : List Expr) (t : TA) : Prop :=
  ∀ (pos : Pos) (pins : List (Addr × Obj)) (s : Shared) (σ : St) (H : Hp) (Q : List V → Hp → Prop), Inv X pins σ H s → t σ H Q → wpAny (model X.prog X.w) X.A (spliced (backTo pos (starEach es X.env))) (AP X pins σ Q) X.xe s
noncomputable def PS (X : Cx) (st : Stmt) (t : TS) : Prop :=
  ∀ (pins : List (Addr × Obj)) (s : Shared) (σ : St) (H : Hp) (D : Ends), Inv X pins σ H s → t D σ H → wpAny (model X.prog X.w) X.A (exec st X.env) (SP X pins D) X.xe s
noncomputable def PSs (X : Cx) (st : List Stmt) (t : TS) : Prop :=
  ∀ (pins : List (Addr × Obj)) (s : Shared) (σ : St) (H : Hp) (D : Ends), Inv X pins σ H s → t D σ H → wpAny (model X.prog X.w) X.A (execs st X.env) (SP X pins D) X.xe s
theorem thn {α : Type} {t : Sem α} {Q Q' : α → Shared → Prop} {M : Model} {A : Around} {E : Value → Shared → Prop} {s : Shared} (h : wpAny M A t Q E s) (hQ : ∀ a s, Q a s → Q' a s) : wpAny M A t Q' E s := wpAny_mono h hQ fun _ _ x => x
end L2

namespace L2
open PySem PySem.Spec PyProof.Rows
section
variable {X : Cx}


/-! ### names and constants -/
noncomputable def tVar (i : Nat) : TE := fun σ H Q => ∃ v, σ[i]? = some (some v) ∧ Q v H
noncomputable def tC (v : V) : TE := fun _ H Q => Q v H
theorem pe_var {i : Nat} {x : Str} {pos : Pos} (hN : X.N[i]? = some x) (hv : Vis X.env.scope x) (hd : (x == ("__debug__" : Str)) = false := by decide) (hcd : (x == ("__classdict__" : Str)) = false := by decide) : PE X (.Name x pos) (tVar i) := by
  intro pins s σ H Q I h
  obtain ⟨v, e, h⟩ := h
  obtain ⟨m, hn, hl⟩ := I.loc
  obtain ⟨u, r, l⟩ := hl i x v hN e hv
  have fin : EP X pins σ Q u s := ⟨v, H, I, r, h⟩
  rcases l with ⟨hk, hm⟩ | ⟨hk, c, hc, hcell⟩
  · exact wpAny_Name (wpAny_loadName_local I.ok.kind hk hn hm fin) hd
  · rcases hk with hk | hk
    · exact wpAny_Name (wpAny_loadName_cell I.ok.kind hk hc hcell fin) hd
    · exact wpAny_Name (wpAny_loadName_free I.ok.kind hk hc hcell fin hcd) hd
theorem pe_int {i j pos} : PE X (.Constant (.int i) j pos) (tC (.int i)) := fun _ _ _ H _ I h => wpAny_Constant_int ⟨.int i, H, I.tok _, ⟨_, rfl⟩, h⟩
theorem pe_bl {b j pos} : PE X (.Constant (.bool b) j pos) (tC (.bl b)) := fun _ _ _ H _ I h => Constant_bool ⟨.bl b, H, I, rfl, h⟩
theorem pe_non {j pos} : PE X (.Constant .none j pos) (tC .non) := fun _ _ _ H _ I h => Constant_none ⟨.non, H, I, rfl, h⟩
theorem pe_str {x j pos} : PE X (.Constant (.str x) j pos) (tC (.str x)) := fun _ _ _ H _ I h => Calls.Constant_str ⟨.str x, H, I.tok _, ⟨_, rfl⟩, h⟩

noncomputable def Gl (X : Cx) (x : Str) : Prop := X.env.kindOf x = some .globalImplicit
theorem ld_glob {E : Value → Shared → Prop} {pins : List (Addr × Obj)} {s : Shared} {σ : St} {H : Hp} {x : Str} {u : Value} {pos : Pos} {Q : Value → Shared → Prop} (I : Inv X pins σ H s) (hg : Gl X x) (hm : X.mg x = some u) (h : Q u s)
    (hd : (x == ("__debug__" : Str)) = false := by decide) : wpAny (model X.prog X.w) X.A (eval (.Name x pos) X.env) Q E s :=
  Calls.Name_function_global I.ok.kind hg (Calls.loadGlobal_global (by rw [I.ok.glob]; exact I.mod.glob.keeps I.bk) hm h) hd
theorem ld_blt {E : Value → Shared → Prop} {pins : List (Addr × Obj)} {s : Shared} {σ : St} {H : Hp} {x : Str} {u : Value} {pos : Pos} {Q : Value → Shared → Prop} (I : Inv X pins σ H s) (hg : Gl X x) (hm : X.mg x = none) (hv : bootBuiltins x = some u) (h : Q u s)
    (hn : x ≠ "__name__" := by decide) (hd : (x == ("__debug__" : Str)) = false := by decide) : wpAny (model X.prog X.w) X.A (eval (.Name x pos) X.env) Q E s := by
  obtain ⟨mb, h1, h2⟩ := I.mod.blt
  exact Calls.Name_function_global I.ok.kind hg (Calls.loadGlobal_builtin (by rw [I.ok.glob]; exact I.mod.glob.keeps I.bk) hm (by rw [I.ok.blt]; exact h1.keeps I.bk) ((h2 x hn).trans hv) h) hd
theorem pe_glob {x : Str} {v : V} {u : Value} {pos : Pos} (hg : Gl X x) (hm : X.mg x = some u) (r : RelV v u) (hd : (x == ("__debug__" : Str)) = false := by decide) : PE X (.Name x pos) (tC v) :=
  fun _ _ _ H _ I h => ld_glob I hg hm ⟨v, H, I, r, h⟩ hd
theorem pe_bltn {x : Str} {v : V} {u : Value} {pos : Pos} (hg : Gl X x) (hm : X.mg x = none) (hv : bootBuiltins x = some u) (r : RelV v u) (hn : x ≠ "__name__" := by decide) (hd : (x == ("__debug__" : Str)) = false := by decide) : PE X (.Name x pos) (tC v) :=
  fun _ _ _ H _ I h => ld_blt I hg hm hv ⟨v, H, I, r, h⟩ hn hd

/-! ### arithmetic -/
variable {a b : Expr} {ta tb : TE} {pos : Pos}

/-! ### comparisons -/
noncomputable def tB (t : TE) : TT := fun σ H Q => t σ H fun x H1 => ∃ c, x = .bl c ∧ Q c H1
theorem pt_val {e : Expr} {t : TE} (h : PE X e t) (he : ∀ whole, isTrue e X.env whole = (do let v ← whole; standAt e.pos; holding [v] (truthy v)) := by intro _; rfl) : PT X e (tB t) := by
  intro pins s σ H Q I hw
  refine isTrue_plain (thn (h pins s σ H _ I hw) fun v s1 ⟨x, H1, I1, r1, q1⟩ => ?_) (he _)
  obtain ⟨d, rfl, q⟩ := q1
  cases r1
  exact wpAny_truthy_bool ⟨H1, I1, q⟩

/-! ### and, or, not -/
variable {tA tB' : TT} {rest : List Expr}
noncomputable def tAnd (t u : TT) : TT := fun σ H Q => t σ H fun c H1 => if c = true then u σ H1 Q else Q false H1
noncomputable def tOr (t u : TT) : TT := fun σ H Q => t σ H fun c H1 => if c = true then Q true H1 else u σ H1 Q
noncomputable def tNot (t : TT) : TT := fun σ H Q => t σ H fun c H1 => Q (!c) H1
theorem pw_and1 (ha : PT X a tA) : PW X (.BoolOp .And [a] pos) tA := by
  intro wh pins s σ H Q I h
  refine isTrue_and (thn (ha pins s σ H Q I h) fun c s1 e => ?_)
  cases c with
  | true => exact isTrue_and_nil e
  | false => exact e
theorem pw_or1 (ha : PT X a tA) : PW X (.BoolOp .Or [a] pos) tA := by
  intro wh pins s σ H Q I h
  refine isTrue_or (thn (ha pins s σ H Q I h) fun c s1 e => ?_)
  cases c with
  | false => exact isTrue_or_nil e
  | true => exact e
theorem pw_and (ha : PT X a tA) (hb : PW X (.BoolOp .And (b :: rest) pos) tB') : PW X (.BoolOp .And (a :: b :: rest) pos) (tAnd tA tB') := by
  intro wh pins s σ H Q I h
  refine isTrue_and (thn (ha pins s σ H _ I h) fun c s1 ⟨H1, I1, q1⟩ => ?_)
  cases c with
  | true => exact hb wh pins s1 σ H1 Q I1 q1
  | false => exact ⟨H1, I1, q1⟩
theorem pw_or (ha : PT X a tA) (hb : PW X (.BoolOp .Or (b :: rest) pos) tB') : PW X (.BoolOp .Or (a :: b :: rest) pos) (tOr tA tB') := by
  intro wh pins s σ H Q I h
  refine isTrue_or (thn (ha pins s σ H _ I h) fun c s1 ⟨H1, I1, q1⟩ => ?_)
  cases c with
  | true => exact ⟨H1, I1, q1⟩
  | false => exact hb wh pins s1 σ H1 Q I1 q1
theorem pt_not (ha : PT X a tA) : PT X (.UnaryOp .Not a pos) (tNot tA) := by
  intro pins s σ H Q I h
  exact isTrue_not (ha pins s σ H (fun c H1 => Q (!c) H1) I h)
noncomputable def tAndV (ta tb : TE) : TE := fun σ H Q => ta σ H fun x H1 => ∃ c, x = .bl c ∧ if c = true then tb σ H1 Q else Q (.bl false) H1
noncomputable def tNotV (ta : TE) : TE := fun σ H Q => ta σ H fun x H1 => ∃ c, x = .bl c ∧ Q (.bl (!c)) H1
theorem pe_one {op} {t : TE} (h : PE X a t) : PE X (.BoolOp op [a] pos) t := fun pins s σ H Q I hw => BoolOp_one (h pins s σ H Q I hw)
theorem pe_and (ha : PE X a ta) (hb : PE X (.BoolOp .And (b :: rest) pos) tb) : PE X (.BoolOp .And (a :: b :: rest) pos) (tAndV ta tb) := by
  intro pins s σ H Q I h
  refine BoolOp_and (thn (ha pins s σ H _ I h) fun v s1 ⟨x, H1, I1, r1, q1⟩ => ?_)
  obtain ⟨c, rfl, q1⟩ := q1
  cases r1
  refine wpAny_truthy_bool ?_
  cases c with
  | true => exact hb pins s1 σ H1 Q I1 q1
  | false => exact ⟨.bl false, H1, I1, rfl, q1⟩
theorem pe_not (ha : PE X a ta) : PE X (.UnaryOp .Not a pos) (tNotV ta) := by
  intro pins s σ H Q I h
  refine UnaryOp_ (thn (ha pins s σ H _ I h) fun v s1 ⟨x, H1, I1, r1, q1⟩ => ?_)
  obtain ⟨c, rfl, q1⟩ := q1
  cases r1
  exact not_of (wpAny_truthy_bool ⟨.bl (!c), H1, I1, rfl, q1⟩)
noncomputable def tIf (t : TT) (ta tb : TE) : TE := fun σ H Q => t σ H fun c H1 => if c = true then ta σ H1 Q else tb σ H1 Q
theorem pe_ifExp {c : Expr} (hc : PT X c tA) (ha : PE X a ta) (hb : PE X b tb) : PE X (.IfExp c a b pos) (tIf tA ta tb) := by
  intro pins s σ H Q I h
  refine wpAny_IfExp (thn (hc pins s σ H _ I h) fun d s1 ⟨H1, I1, q1⟩ => ?_)
  cases d with
  | true => exact ha pins s1 σ H1 Q I1 q1
  | false => exact hb pins s1 σ H1 Q I1 q1
end
end L2

namespace L2
open PySem PySem.Spec PyProof.Rows

/-! ### a list, a tuple that is read: tracked, frozen, or an object of the module -/
noncomputable def SqL (K : PySem.W.Frag) (H : Hp) (a : Addr) (xs : List V) : Prop :=
  Rd H a (.lst xs) ∨
    ∃ (o : Obj) (its : Array Value) (n : Nat), K.lookup a = some o ∧ o.cls = .type "list" ∧ o.dict = none ∧ o.data = .seq its n ∧ its.size ≤ sizeLine ∧ Vals xs its.toList
noncomputable def SqT (K : PySem.W.Frag) (H : Hp) (a : Addr) (xs : List V) : Prop :=
  Rd H a (.tup xs) ∨
    ∃ (o : Obj) (its : Array Value) (n : Nat), K.lookup a = some o ∧ o.cls = .type "tuple" ∧ o.data = .seq its n ∧ its.size ≤ sizeLine ∧ Vals xs its.toList
noncomputable def absV : Value → Option V
  | .none => some .non
  | .bool b => some (.bl b)
  | .int i _ => some (.int i)
  | .str x _ => some (.str x)
  | .bytes b _ => some (.byt b)
  | .float b _ => some (.flt b)
  | .ref a => some (.ref a)
  | .type n => some (.ty n)
  | _ => none
theorem RelV.abs {x : V} {u : Value} (r : RelV x u) : absV u = some x := by
  cases x with
  | non => cases r; rfl
  | bl _ => cases r; rfl
  | int _ => obtain ⟨t, rfl⟩ := r; rfl
  | str _ => obtain ⟨t, rfl⟩ := r; rfl
  | byt _ => obtain ⟨t, rfl⟩ := r; rfl
  | flt _ => obtain ⟨t, rfl⟩ := r; rfl
  | ref _ => cases r; rfl
  | ty _ => cases r; rfl
theorem RelV.inj {x y : V} {u : Value} (r : RelV x u) (q : RelV y u) : x = y := Option.some.inj (r.abs.symm.trans q.abs)
theorem Vals.inj : ∀ {xs ys : List V} {us : List Value}, Vals xs us → Vals ys us → xs = ys
  | _, _, _, .nil, .nil => rfl
  | _, _, _, .cons r t, .cons r' t' => by rw [r.inj r', Vals.inj t t']
section
variable {X : Cx} {pins : List (Addr × Obj)} {σ : St} {H : Hp} {s : Shared} {a : Addr} {xs ys : List V}
theorem Inv.list (I : Inv X pins σ H s) (h : SqL X.K H a xs) : ∃ its : List Value, Vals xs its ∧ PlainL s.heap a its.toArray ∧ xs.length ≤ sizeLine := by
  rcases h with h | ⟨o, its, n, hk, hc, hd, hs, hz, r⟩
  · obtain ⟨z, its, n, r, e⟩ := h.ok I.hok
    exact ⟨its, r, ⟨_, n, e, rfl, rfl, rfl⟩, z⟩
  · refine ⟨its.toList, r, ⟨o, n, I.kIn a o hk, hc, hd, by simpa using hs⟩, ?_⟩
    have e := r.length
    simp only [Array.length_toList] at e
    omega
theorem Inv.tuple (I : Inv X pins σ H s) (h : SqT X.K H a xs) : ∃ its : List Value, Vals xs its ∧ IsTup s.heap a its.toArray ∧ xs.length ≤ sizeLine := by
  rcases h with h | ⟨o, its, n, hk, hc, hs, hz, r⟩
  · obtain ⟨z, its, r, p⟩ := h.ok I.hok
    exact ⟨its, r, p, z⟩
  · refine ⟨its.toList, r, ⟨o, I.kIn a o hk, hc, n, by simpa using hs⟩, ?_⟩
    have e := r.length
    simp only [Array.length_toList] at e
    omega
theorem Inv.list_inj (I : Inv X pins σ H s) (h : SqL X.K H a xs) (h' : SqL X.K H a ys) : xs = ys := by
  obtain ⟨its, r, ⟨o, n, e, _, _, d⟩, _⟩ := I.list h
  obtain ⟨its', r', ⟨o', n', e', _, _, d'⟩, _⟩ := I.list h'
  rw [e] at e'; cases e'
  rw [d] at d'
  injection d' with d1 _
  have : its = its' := by simpa using congrArg Array.toList d1
  subst this
  exact r.inj r'
theorem Inv.tuple_inj (I : Inv X pins σ H s) (h : SqT X.K H a xs) (h' : SqT X.K H a ys) : xs = ys := by
  obtain ⟨its, r, ⟨o, e, _, n, d⟩, _⟩ := I.tuple h
  obtain ⟨its', r', ⟨o', e', _, n', d'⟩, _⟩ := I.tuple h'
  rw [e] at e'; cases e'
  rw [d] at d'
  injection d' with d1 _
  have : its = its' := by simpa using congrArg Array.toList d1
  subst this
  exact r.inj r'
end

/-! ### another wish about exceptions -/
noncomputable abbrev Cx.wish (X : Cx) (E : Value → Shared → Prop) : Cx := { X with xe := E }
noncomputable abbrev Cx.nox (X : Cx) : Cx := X.wish fun _ _ => False
theorem Cx.Ok.wish {X : Cx} (ok : X.Ok) (E : Value → Shared → Prop) : (X.wish E).Ok :=
  ⟨ok.mod, ok.kind, ok.glob, ok.blt, ok.above, ok.inj, ok.has, ok.cab, ok.hd, ok.frames, ok.stk, ok.exf, ok.bs, ok.bsz, ok.noex, ok.exfs, ok.funs, ok.frf⟩
theorem Cx.Ok.unwish {X : Cx} {E : Value → Shared → Prop} (ok : (X.wish E).Ok) : X.Ok :=
  ⟨ok.mod, ok.kind, ok.glob, ok.blt, ok.above, ok.inj, ok.has, ok.cab, ok.hd, ok.frames, ok.stk, ok.exf, ok.bs, ok.bsz, ok.noex, ok.exfs, ok.funs, ok.frf⟩
section
variable {X : Cx} {pins : List (Addr × Obj)} {σ : St} {H : Hp} {s : Shared} {E : Value → Shared → Prop}
theorem Inv.wish (I : Inv X pins σ H s) (E : Value → Shared → Prop) : Inv (X.wish E) pins σ H s := ⟨I.ok.wish E, I.os, I.bare, I.base, I.loc, I.cell, I.free, I.freeC, I.pin, I.hok, I.len⟩
theorem Inv.unwish (I : Inv (X.wish E) pins σ H s) : Inv X pins σ H s := ⟨I.ok.unwish, I.os, I.bare, I.base, I.loc, I.cell, I.free, I.freeC, I.pin, I.hok, I.len⟩
theorem SP.unwish {D : Ends} {f : Flow} {s' : Shared} (h : SP (X.wish E) pins D f s') : SP X pins D f s' := by
  cases f with
  | next => obtain ⟨σ', H', I, q⟩ := h; exact ⟨σ', H', I.unwish, q⟩
  | brk => obtain ⟨σ', H', I, q⟩ := h; exact ⟨σ', H', I.unwish, q⟩
  | cont => obtain ⟨σ', H', I, q⟩ := h; exact ⟨σ', H', I.unwish, q⟩
  | ret u => obtain ⟨v, σ', H', I, r, q⟩ := h; exact ⟨v, σ', H', I.unwish, r, q⟩
theorem PSs.nox {st : List Stmt} {t : TS} (h : PSs X.nox st t) : PSs X st t := fun pins s σ H D I hw =>
  wpAny_mono (h pins s σ H D (I.wish _) hw) (fun _ _ q => q.unwish) fun _ _ z => False.elim z
end

/-! ### blocks and small statements -/
section
variable {X : Cx} {st : Stmt} {rest : List Stmt} {t u : TS} {e : Expr} {te : TE} {pos : Pos}
noncomputable def tNext : TS := fun D σ H => D.nx σ H
noncomputable def tSeq (t u : TS) : TS := fun D σ H => t { D with nx := u D } σ H
theorem pss_nil : PSs X [] tNext := fun _ _ σ H _ I h => wpAny_execs_nil ⟨σ, H, I, h⟩
theorem pss_cons (h1 : PS X st t) (h2 : PSs X rest u) : PSs X (st :: rest) (tSeq t u) := by
  intro pins s σ H D I h
  refine wpAny_execs_cons (thn (h1 pins s σ H { D with nx := u D } I h) fun f s1 q => ?_)
  cases f with
  | next =>
    obtain ⟨σ', H', I', q⟩ := q
    exact h2 pins s1 σ' H' D I' q
  | ret v => exact q
  | brk => exact q
  | cont => exact q
theorem pss_one (h1 : PS X st t) : PSs X [st] t := by
  intro pins s σ H D I h
  refine wpAny_execs_cons (thn (h1 pins s σ H D I h) fun f s1 q => ?_)
  cases f with
  | next => exact wpAny_execs_nil q
  | ret v => exact q
  | brk => exact q
  | cont => exact q
theorem Inv.quiet {pins : List (Addr × Obj)} {σ : St} {H : Hp} {s : Shared} (I : Inv X pins σ H s) : interactive X.env = false := by simp [interactive, I.ok.kind]
noncomputable def tDrop (te : TE) : TS := fun D σ H => te σ H fun _ H1 => D.nx σ H1
theorem ps_expr (he : PE X e te) (hs : swapsWith e none pos.line X.env = pure false := by rfl) : PS X (.Expr e pos) (tDrop te) := by
  intro pins s σ H D I h
  exact wpAny_Expr_any (thn (he pins s σ H _ I h) fun v s1 ⟨x, H1, I1, r1, q1⟩ => ⟨σ, H1, I1, q1⟩) I.quiet hs
noncomputable def tRet (te : TE) : TS := fun D σ H => te σ H D.rt
theorem ps_ret (he : PE X e te) : PS X (.Return (some e) pos) (tRet te) := by
  intro pins s σ H D I h
  exact wpAny_Return_some (thn (he pins s σ H _ I h) fun v s1 ⟨x, H1, I1, r1, q1⟩ => ⟨x, σ, H1, I1, r1, q1⟩)
noncomputable def tIfS (c : TT) (t u : TS) : TS := fun D σ H => c σ H fun b H1 => if b = true then t D σ H1 else u D σ H1
theorem ps_if {c : Expr} {a b : List Stmt} {tc : TT} (hc : PT X c tc) (ha : PSs X a t) (hb : PSs X b u) : PS X (.If c a b pos) (tIfS tc t u) := by
  intro pins s σ H D I h
  refine wpAny_If (thn (hc pins s σ H _ I h) fun d s1 ⟨H1, I1, q1⟩ => ?_)
  cases d with
  | true => exact ha pins s1 σ H1 D I1 q1
  | false => exact hb pins s1 σ H1 D I1 q1
end

/-! ### targets -/
noncomputable abbrev TG := V → St → Hp → (St → Hp → Prop) → Prop
noncomputable abbrev TGs := List V → St → Hp → (St → Hp → Prop) → Prop
noncomputable def PG (X : Cx) (target : Expr) (t : TG) : Prop :=
  ∀ (pins : List (Addr × Obj)) (s : Shared) (σ : St) (H : Hp) (v : V) (u : Value) (Q : St → Hp → Prop), Inv X pins σ H s → RelV v u → t v σ H Q →
    wpAny (model X.prog X.w) X.A (assign target X.env u) (fun _ s' => ∃ σ' H', Inv X pins σ' H' s' ∧ Q σ' H') X.xe s
noncomputable def PGs (X : Cx) (ts : List Expr) (t : TGs) : Prop :=
  ∀ (pins : List (Addr × Obj)) (s : Shared) (σ : St) (H : Hp) (vs : List V) (us : List Value) (Q : St → Hp → Prop), Inv X pins σ H s → Vals vs us → t vs σ H Q →
    wpAny (model X.prog X.w) X.A (assignInOrder ((assignEach ts X.env).map (·.2)) us) (fun _ s' => ∃ σ' H', Inv X pins σ' H' s' ∧ Q σ' H') X.xe s
section
variable {X : Cx} {pos : Pos}
noncomputable def gName (i : Nat) : TG := fun v σ H Q => Q (σ.set i (some v)) H
theorem pg_name {i : Nat} {x : Str} (hN : X.N.Nodup) (hi : X.N[i]? = some x) (hx : Loc X.env.scope x) (hf : X.fn x = true ∨ X.env.scope.names.lookup x = some .local := by first | exact .inl rfl | exact .inr rfl | assumption) : PG X (.Name x pos) (gName i) := by
  intro pins s σ H v u Q I r h
  exact wpAny_assign_Name (store_ok I hN hi hx r (fun s' I' => ⟨_, H, I', h⟩) hf)
noncomputable def gNil : TGs := fun vs σ H Q => vs = [] ∧ Q σ H
noncomputable def gCons (t : TG) (u : TGs) : TGs := fun vs σ H Q => ∃ v r, vs = v :: r ∧ t v σ H fun σ' H' => u r σ' H' Q
theorem pgs_nil : PGs X [] gNil := by
  intro pins s σ H vs us Q I r h
  obtain ⟨e, h⟩ := h
  subst e
  cases r
  exact assignInOrder_nil ⟨σ, H, I, h⟩
theorem pgs_cons {e : Expr} {es : List Expr} {t : TG} {u : TGs} (h1 : PG X e t) (h2 : PGs X es u)
    (hs : (assignEach (e :: es) X.env).map (·.2) = assign e X.env :: (assignEach es X.env).map (·.2) := by rfl) : PGs X (e :: es) (gCons t u) := by
  intro pins s σ H vs us Q I r h
  obtain ⟨v, vr, e1, h⟩ := h
  subst e1
  cases r with
  | cons r rr =>
    rw [hs]
    refine assignInOrder_cons (thn (h1 pins s σ H _ _ _ I r h) fun _ s1 ⟨σ1, H1, I1, q1⟩ => ?_)
    exact h2 pins s1 σ1 H1 _ _ Q I1 rr q1
noncomputable def gTup (K : PySem.W.Frag) (n : Nat) (t : TGs) : TG := fun v σ H Q => ∃ a xs, v = .ref a ∧ SqT K H a xs ∧ xs.length = n ∧ t xs σ H Q
theorem pg_tup {es : List Expr} {k : Nat} {t : TGs} {n : Nat} (hc : X.calm = true) (h : PGs X es t)
    (hn : (assignEach es X.env).length = n := by rfl) (hst : (assignEach es X.env).findIdx? (·.1) = none := by rfl) : PG X (.Tuple es k pos) (gTup X.K n t) := by
  intro pins s σ H v u Q I r hw
  obtain ⟨a, xs, e1, hq, hl, hw⟩ := hw
  subst e1
  cases r
  obtain ⟨its, rv, ht, hz⟩ := I.tuple hq
  refine assign_Tuple_tuple (I.ok.hd hc) ht (by simp [hn, ← hl, rv.length]) hst fun h' hx => ?_
  have I1 : Inv X pins σ H { s with heap := h' } := I.kept (t' := s.toks) fun b o e => hx b o (Nat.ne_of_lt (Heap.lt_size e)) e
  exact h pins _ σ H xs _ Q I1 (by simpa using rv) hw
noncomputable def tAsg (te : TE) (g : TG) : TS := fun D σ H => te σ H fun x H1 => g x σ H1 D.nx
theorem ps_asg {tg e : Expr} {te : TE} {g : TG} (he : PE X e te) (hg : PG X tg g) (hs : swapsWithSole [tg] e pos.line X.env = pure false := by rfl) (hw : swappedStores [tg] e X.env = pure none := by rfl)
    (h1 : (assignEach [tg] X.env).map (·.2) = [assign tg X.env] := by rfl) : PS X (.Assign [tg] e pos) (tAsg te g) := by
  intro pins s σ H D I h
  refine wpAny_Assign_stores (thn (he pins s σ H _ I h) fun v s1 ⟨x, H1, I1, r1, q1⟩ => ?_) hs hw
  rw [h1]
  exact thn (hg pins s1 σ H1 x v _ I1 r1 q1) fun _ s2 q => q
theorem ps_set {i : Nat} {x : Str} {e : Expr} {te : TE} {pos' : Pos} (hN : X.N.Nodup) (hi : X.N[i]? = some x) (hx : Loc X.env.scope x) (he : PE X e te) (hs : swapsWith e (some (.Name x pos')) pos.line X.env = pure false := by rfl) (hf : X.fn x = true ∨ X.env.scope.names.lookup x = some .local := by first | exact .inl rfl | exact .inr rfl | assumption) :
    PS X (.Assign [.Name x pos'] e pos) (tAsg te (gName i)) := by
  intro pins s σ H D I h
  refine wpAny_Assign_Name (thn (he pins s σ H _ I h) fun v s1 ⟨y, H1, I1, r1, q1⟩ => ?_) hs
  exact store_ok I1 hN hi hx r1 (fun s2 I2 => ⟨_, H1, I2, q1⟩) hf
end

/-! ### while -/
section
variable {X : Cx} {pos : Pos}
end

/-! ### what a loop or a comprehension walks -/
structure It where
  go : Nat → Hp → Prop
  yld : Nat → Hp → V → Hp → Prop
  stop : Nat → Hp → Prop
noncomputable def FpOk (X : Cx) (pins : List (Addr × Obj)) (H : Hp) (b : Addr) : Prop :=
  H b = none ∧ b ≠ X.env.locals ∧ b ∉ X.fs ∧ (b ∈ X.ex ∨ X.s₀.heap.objs.size ≤ b) ∧ (∀ x c, X.env.cells.lookup x = some c → c ≠ b) ∧ ∀ p ∈ X.pn ++ pins, p.1 ≠ b
theorem Inv.fpOk {X : Cx} {pins : List (Addr × Obj)} {σ : St} {H H' : Hp} {s : Shared} {b : Addr} (I : Inv X pins σ H s) (hb : s.heap.objs.size ≤ b) (hn : H' b = none) : FpOk X pins H' b := by
  refine ⟨hn, Nat.ne_of_gt (Nat.lt_of_lt_of_le I.lt hb), I.nofs hb, .inr (Nat.le_trans I.sz hb), fun x c e z => ?_, fun p hp z => ?_⟩
  · obtain ⟨v, q⟩ := I.cell x c e
    exact absurd (Nat.lt_of_lt_of_le q.lt (by rw [z]; exact hb)) (Nat.lt_irrefl _)
  · exact absurd (Nat.lt_of_lt_of_le (Heap.lt_size (I.pin p hp).1) (by rw [z]; exact hb)) (Nat.lt_irrefl _)
structure Turn (P : Program) (w : World) (K : PySem.W.Frag) (tg : Expr) (J : It) (fp : List Addr) (it : Addr) (tn : Nat → Heap → Prop) : Prop where
  mem : it ∈ fp
  obj : ∀ i h, tn i h → ∀ b ∈ fp, ∃ o, h.get? b = some o ∧ ∀ v, o.data ≠ .cell v
  keep : ∀ i h h', tn i h → (∀ b ∈ fp, ∀ o, h.get? b = some o → h'.get? b = some o) → tn i h'
  item : ∀ (X : Cx), X.prog = P → X.w = w → X.K = K → X.calm = true → ∀ (i : Nat) (pins : List (Addr × Obj)) (s : Shared) (σ : St) (H : Hp) (E : Value → Shared → Prop), Inv X pins σ H s → (∀ b ∈ fp, FpOk X pins H b) → tn i s.heap → J.go i H →
    wpAny (model P w) X.A (pyNext (.ref it)) (fun r s1 => ∃ u, r = some u ∧
      wpAny (model P w) X.A (letOwnedTupleGo tg (.ref it) u) (fun _ s2 => ∃ x H', Inv X pins σ H' s2 ∧ RelV x u ∧ J.yld i H x H' ∧ tn (i + 1) s2.heap ∧ ∀ b ∈ fp, H' b = none) E s1) E s
  done : ∀ (X : Cx), X.prog = P → X.w = w → X.K = K → X.calm = true → ∀ (i : Nat) (pins : List (Addr × Obj)) (s : Shared) (σ : St) (H : Hp) (E : Value → Shared → Prop), Inv X pins σ H s → (∀ b ∈ fp, FpOk X pins H b) → tn i s.heap → J.stop i H →
    wpAny (model P w) X.A (pyNext (.ref it)) (fun r s1 => r = none ∧ Inv X pins σ H s1) E s
  self : ∀ (A : Around) (i : Nat) (s : Shared) (Q : Value → Shared → Prop) (E : Value → Shared → Prop), tn i s.heap → Q (.ref it) s → wpAny (model P w) A (pyIter (.ref it)) Q E s
noncomputable abbrev TI := St → Hp → (It → Hp → Prop) → Prop
noncomputable def PIE (X : Cx) (pins : List (Addr × Obj)) (σ : St) (tg : Expr) (R : It → Hp → Prop) (itv : Value) (s2 : Shared) : Prop :=
  ∃ (it : Addr) (fp : List Addr) (tn : Nat → Heap → Prop) (J : It) (H' : Hp), itv = .ref it ∧ Inv X pins σ H' s2 ∧ Turn X.prog X.w X.K tg J fp it tn ∧ tn 0 s2.heap ∧ (∀ b ∈ fp, FpOk X pins H' b) ∧ R J H'
noncomputable def PI (X : Cx) (tg iter : Expr) (wi : TI) : Prop :=
  ∀ (pins : List (Addr × Obj)) (s : Shared) (σ : St) (H : Hp) (R : It → Hp → Prop), Inv X pins σ H s → wi σ H R →
    wpAny (model X.prog X.w) X.A (eval iter X.env) (fun v s1 => wpAny (model X.prog X.w) X.A (pyIter v) (PIE X pins σ tg R) X.xe s1) X.xe s

theorem go_of {M : Model} {A : Around} {E : Value → Shared → Prop} {s : Shared} {tg : Expr} {it : Addr} {u : Value} {o : Obj} {n : String} {vs : Array Value} {Q : Unit → Shared → Prop} (ho : s.heap.get? it = some o) (hc : o.cls = .type n) (hd : o.data = .fields vs)
    (hn : ["enumerate", "zip", "dict_itemiterator", "dict_reverseitemiterator", "odict_iterator", "itertools.zip_longest", "itertools.pairwise"].contains n = false) (hQ : Q () s) : wpAny M A (letOwnedTupleGo tg (.ref it) u) Q E s := by
  unfold letOwnedTupleGo
  cases tg <;> first
    | exact wpAny_pure hQ
    | (cases u <;> first
        | exact wpAny_pure hQ
        | (refine wpAny_bind (wpAny_load ho ?_)
           rw [hc, hd]
           show wpAny M A (if (["enumerate", "zip", "dict_itemiterator", "dict_reverseitemiterator", "odict_iterator", "itertools.zip_longest", "itertools.pairwise"].contains n && vs[0]? == some (rawInt _)) = true then _ else _) Q E s
           rw [if_neg (by intro h; rw [hn, Bool.false_and] at h; cases h)]
           exact wpAny_pure hQ))

noncomputable def Itl (K : PySem.W.Frag) (a : Addr) : It :=
  ⟨fun i H => ∃ xs x, SqL K H a xs ∧ xs[i]? = some x, fun i H x H' => H' = H ∧ ∀ xs, SqL K H a xs → xs[i]? = some x, fun i H => ∃ xs, SqL K H a xs ∧ xs.length ≤ i⟩
noncomputable def Itt (K : PySem.W.Frag) (a : Addr) : It :=
  ⟨fun i H => ∃ xs x, SqT K H a xs ∧ xs[i]? = some x, fun i H x H' => H' = H ∧ ∀ xs, SqT K H a xs → xs[i]? = some x, fun i H => ∃ xs, SqT K H a xs ∧ xs.length ≤ i⟩
noncomputable def Itr (lo : Int) (n : Nat) : It := ⟨fun i _ => i < n, fun i H x H' => H' = H ∧ x = .int (lo + i), fun i _ => n ≤ i⟩
theorem turn_list {P : Program} {w : World} {K : PySem.W.Frag} {tg : Expr} (a it : Addr) : Turn P w K tg (Itl K a) [it] it (fun i h => h.IsListIter it a i) where
  mem := by simp
  obj := fun i h st b hb => by
    have e : b = it := by simpa using hb
    subst e
    obtain ⟨o, e, c, d⟩ := st
    exact ⟨o, e, fun v z => by rw [d] at z; cases z⟩
  keep := fun i h h' st k => st.at fun o e => k it (by simp) o e
  item := by
    intro X hP hw hK hc i pins s σ H E I hf st hg
    subst hP hw hK
    obtain ⟨xs, x, hq, hx⟩ := hg
    obtain ⟨its, rv, p, hz⟩ := I.list hq
    obtain ⟨u, hu, ru⟩ := rv.get hx
    obtain ⟨f0, f1, f2, f3, f4, f5⟩ := hf it (by simp)
    refine wpAny_pyNext_list_item st p.isList (x := u) (by simpa using hu) fun h' st' sb => ?_
    have I1 : Inv X pins σ H { s with heap := h' } := I.turned (t' := s.toks) (fun b o hb e => (sb.2 b hb).trans e) f0 f1 f3 f4 f5
    obtain ⟨o, e, c, d⟩ := id st'
    exact ⟨u, rfl, go_of (s := { s with heap := h' }) e c d (by decide) ⟨x, H, I1, ru, ⟨rfl, fun ys hy => by rw [I.list_inj hy hq]; exact hx⟩, st', fun b hb => (hf b hb).1⟩⟩
  done := by
    intro X hP hw hK hc i pins s σ H E I hf st hg
    subst hP hw hK
    obtain ⟨xs, hq, hx⟩ := hg
    obtain ⟨its, rv, p, hz⟩ := I.list hq
    obtain ⟨f0, f1, f2, f3, f4, f5⟩ := hf it (by simp)
    have hl := rv.length
    exact wpAny_pyNext_list_end (I.ok.hd hc) st p.isList (by simp; omega) fun h' eb => ⟨rfl, I.turned (t' := s.toks) (fun b o hb e => eb b o hb e) f0 f1 f3 f4 f5⟩
  self := fun _ _ _ _ _ st h => wpAny_pyIter_listiter st h
theorem turn_tuple {P : Program} {w : World} {K : PySem.W.Frag} {tg : Expr} (a it : Addr) : Turn P w K tg (Itt K a) [it] it (fun i h => h.IsTupleIter it a i) where
  mem := by simp
  obj := fun i h st b hb => by
    have e : b = it := by simpa using hb
    subst e
    obtain ⟨o, e, c, d⟩ := st
    exact ⟨o, e, fun v z => by rw [d] at z; cases z⟩
  keep := fun i h h' st k => st.at fun o e => k it (by simp) o e
  item := by
    intro X hP hw hK hc i pins s σ H E I hf st hg
    subst hP hw hK
    obtain ⟨xs, x, hq, hx⟩ := hg
    obtain ⟨its, rv, p, hz⟩ := I.tuple hq
    obtain ⟨u, hu, ru⟩ := rv.get hx
    obtain ⟨f0, f1, f2, f3, f4, f5⟩ := hf it (by simp)
    refine wpAny_pyNext_tuple_item st (show s.heap.IsTuple a its.toArray from p) (x := u) (by simpa using hu) fun h' st' sb => ?_
    have I1 : Inv X pins σ H { s with heap := h' } := I.turned (t' := s.toks) (fun b o hb e => (sb.2 b hb).trans e) f0 f1 f3 f4 f5
    obtain ⟨o, e, c, d⟩ := id st'
    exact ⟨u, rfl, go_of (s := { s with heap := h' }) e c d (by decide) ⟨x, H, I1, ru, ⟨rfl, fun ys hy => by rw [I.tuple_inj hy hq]; exact hx⟩, st', fun b hb => (hf b hb).1⟩⟩
  done := by
    intro X hP hw hK hc i pins s σ H E I hf st hg
    subst hP hw hK
    obtain ⟨xs, hq, hx⟩ := hg
    obtain ⟨its, rv, p, hz⟩ := I.tuple hq
    obtain ⟨f0, f1, f2, f3, f4, f5⟩ := hf it (by simp)
    have hl := rv.length
    exact wpAny_pyNext_tuple_end (I.ok.hd hc) st (show s.heap.IsTuple a its.toArray from p) (by simp; omega) fun h' eb => ⟨rfl, I.turned (t' := s.toks) (fun b o hb e => eb b o hb e) f0 f1 f3 f4 f5⟩
  self := fun _ _ _ _ _ st h => wpAny_pyIter_tupleiter st h
theorem turn_range {P : Program} {w : World} {K : PySem.W.Frag} {tg : Expr} (it : Addr) (lo : Int) (n : Nat) : Turn P w K tg (Itr lo n) [it] it (fun i h => IsRangeIter h it (lo + (i : Nat) * 1) ((n : Int) - (i : Nat)) 1) where
  mem := by simp
  obj := fun i h st b hb => by
    have e : b = it := by simpa using hb
    subst e
    exact ⟨_, st, fun v z => by
      have z' : Data.fields _ = Data.cell v := z
      cases z'⟩
  keep := fun i h h' st k => k it (by simp) _ st
  item := by
    intro X hP hw hK hc i pins s σ H E I hf st hg
    subst hP hw hK
    obtain ⟨f0, f1, f2, f3, f4, f5⟩ := hf it (by simp)
    have W := Walks.range (prog := X.prog) (w := X.w) (I.ok.hd hc) it lo 1 n
    refine W.item i s _ _ hg st fun v h' tk hv st' kk => ?_
    obtain ⟨t, rfl⟩ := hv
    have I1 : Inv X pins σ H { s with heap := h', toks := tk } := I.turned (fun b o hb e => kk b o (by simpa using hb) e) f0 f1 f3 f4 f5
    refine ⟨_, rfl, go_of (s := { s with heap := h', toks := tk }) (n := "range_iterator") st' rfl rfl (by decide) ⟨.int (lo + i), H, I1, ⟨t, ?_⟩, ⟨rfl, rfl⟩, st', fun b hb => (hf b hb).1⟩⟩
    rw [Int.mul_one]
  done := by
    intro X hP hw hK hc i pins s σ H E I hf st hg
    subst hP hw hK
    obtain ⟨f0, f1, f2, f3, f4, f5⟩ := hf it (by simp)
    exact wpAny_pyNext_range_end (I.ok.hd hc) st (by have : n ≤ i := hg; omega) fun h' eb => ⟨rfl, I.turned (t' := s.toks) (fun b o hb e => eb b o hb e) f0 f1 f3 f4 f5⟩
  self := fun _ _ _ _ _ st h => wpAny_pyIter_rangeiter st h
end L2

namespace L2
open PySem PySem.Spec PyProof.Rows
section
variable {X : Cx} {tg : Expr}
theorem range_it {pins : List (Addr × Obj)} {σ : St} {H : Hp} {s : Shared} {R : It → Hp → Prop} {E : Value → Shared → Prop} {lo hi : Int} {t u v : Tok} {tk : Nat} (I : Inv X pins σ H s) (h1 : -(2 ^ 62) ≤ lo) (h2 : lo < 2 ^ 62) (h3 : -(2 ^ 62) ≤ hi) (h4 : hi < 2 ^ 62)
    (q : R (Itr lo (hi - lo).toNat) H) : wpAny (model X.prog X.w) X.A (pyIter (.ref s.heap.objs.size)) (PIE X pins σ tg R) E { s with heap := s.heap.push { cls := .type "range", data := .fields #[.int lo t, .int hi u, .int 1 v] }, toks := tk } := by
  refine wpAny_pyIter_range (IsRange.new ..) (small_one h1 h2 h3 h4) ?_
  have I1 : Inv X pins σ H { s with heap := s.heap.push { cls := .type "range", data := .fields #[.int lo t, .int hi u, .int 1 v] }, toks := tk } := I.kept fun b o e => Heap.get?_push_of_some _ e
  refine ⟨(s.heap.push { cls := .type "range", data := .fields #[.int lo t, .int hi u, .int 1 v] }).objs.size, [(s.heap.push { cls := .type "range", data := .fields #[.int lo t, .int hi u, .int 1 v] }).objs.size], _, _, H, rfl,
    I1.kept (t' := tk) fun b o e => Heap.get?_push_of_some _ e, turn_range _ lo (hi - lo).toNat, ?_, fun b hb => ?_, q⟩
  · have e1 : lo + ((0 : Nat) : Int) * 1 = lo := by simp
    have e2 : (((hi - lo).toNat : Nat) : Int) - ((0 : Nat) : Int) = Builtin.Range.rangeSize lo hi 1 := by rw [rangeSize_one]; split <;> omega
    show IsRangeIter _ _ (lo + ((0 : Nat) : Int) * 1) ((((hi - lo).toNat : Nat) : Int) - ((0 : Nat) : Int)) 1
    rw [e1, e2]
    exact Heap.get?_push_size _ rfl
  · have e : b = (s.heap.push { cls := .type "range", data := .fields #[.int lo t, .int hi u, .int 1 v] }).objs.size := by simpa using hb
    subst e
    exact I1.fpOk (Nat.le_refl _) (I1.hok.fresh (Nat.le_refl _))
noncomputable def iRng1 (ta : TA) : TI := fun σ H R => ta σ H fun vs H1 => ∃ j : Int, vs = [.int j] ∧ -(2 ^ 62) ≤ j ∧ j < 2 ^ 62 ∧ R (Itr 0 j.toNat) H1
theorem pi_range1 {a : Expr} {ta : TA} {p pos : Pos} (hg : Gl X "range") (hm : X.mg "range" = none) (ha : PA X [a] ta) (hs : starEach [a] X.env = [(false, eval a X.env)] := by rfl) : PI X tg (.Call (.Name "range" p) [a] [] pos) (iRng1 ta) := by
  intro pins s σ H R I h
  refine Call_ (ld_blt I hg hm boot_range (PyProof.Rows.callWith_type1 (thn (ha pos pins s σ H _ I h) fun us s1 ⟨vs, H1, I1, r1, q1⟩ => ?_) hs rfl))
  obtain ⟨j, e, q1, q2, q⟩ := q1
  subst e
  cases r1 with
  | cons r rr =>
    cases rr
    obtain ⟨t, rfl⟩ := r
    exact call_range_1 (range_it I1 (by omega) (by omega) q1 q2 (by simpa using q))

/-! ### for -/
noncomputable def tFor (wi : TI) (g : TG) (tb : TS) : TS := fun D σ H => wi σ H fun J H1 => ∃ W : Nat → Nat → St → Hp → Prop, (∃ m, W 0 m σ H1) ∧ ∀ i m σ H, W i m σ H →
  (J.stop i H ∧ D.nx σ H) ∨ (J.go i H ∧ ∃ N : St → Hp → Prop, (∀ σ' H', N σ' H' → ∃ m', m' < m ∧ W (i + 1) m' σ' H') ∧ ∀ x H', J.yld i H x H' → g x σ H' fun σ2 H2 => tb { D with nx := N, ct := N, bk := D.nx } σ2 H2)
noncomputable def pinsAt (fp : List Addr) (h : Heap) : List (Addr × Obj) := fp.filterMap fun b => (h.get? b).map fun o => (b, o)
theorem mem_pinsAt {fp : List Addr} {h : Heap} {b : Addr} {o : Obj} (hb : b ∈ fp) (e : h.get? b = some o) : (b, o) ∈ pinsAt fp h := List.mem_filterMap.mpr ⟨b, hb, by rw [e]; rfl⟩
theorem of_pinsAt {fp : List Addr} {h : Heap} {p : Addr × Obj} (hp : p ∈ pinsAt fp h) : p.1 ∈ fp ∧ h.get? p.1 = some p.2 := by
  obtain ⟨b, hb, e⟩ := List.mem_filterMap.mp hp
  cases q : h.get? b with
  | none => rw [q] at e; cases e
  | some o =>
    rw [q] at e
    have e' : (b, o) = p := Option.some.inj e
    subst e'
    exact ⟨hb, q⟩
theorem Inv.pinned {pins : List (Addr × Obj)} {σ : St} {H : Hp} {s : Shared} {fp : List Addr} (I : Inv X pins σ H s) (hf : ∀ b ∈ fp, FpOk X pins H b) (ho : ∀ b ∈ fp, ∃ o, s.heap.get? b = some o ∧ ∀ v, o.data ≠ .cell v) : Inv X (pins ++ pinsAt fp s.heap) σ H s :=
  I.pins_of fun p hp => (List.mem_append.mp hp).elim (fun z => I.pin p (List.mem_append_right _ z)) fun z => by
    obtain ⟨hb, e⟩ := of_pinsAt z
    obtain ⟨f0, f1, f2, _⟩ := hf p.1 hb
    obtain ⟨o, e', d⟩ := ho p.1 hb
    rw [e] at e'; cases e'
    exact ⟨e, f0, f1, f2, d⟩
theorem Inv.unpinned {pins pl : List (Addr × Obj)} {σ : St} {H : Hp} {s : Shared} (I : Inv X (pins ++ pl) σ H s) : Inv X pins σ H s := I.pins_of fun p hp => I.pin p (List.mem_append_right _ (List.mem_append_left _ hp))
theorem ps_for {iter : Expr} {body : List Stmt} {wi : TI} {g : TG} {tb : TS} {pos : Pos} (hp : PassesOwn (model X.prog X.w) X.A X.env X.xe) (hc : X.calm = true) (hi : PI X tg iter wi) (hg : PG X tg g) (hb : PSs X body tb)
    (hs : ∀ x, foldedSetIterable iter X.env x = pure x := by intro _; rfl) : PS X (.For tg iter body [] pos) (tFor wi g tb) := by
  intro pins s σ H D I h
  refine wpAny_For (thn (hi pins s σ H _ I h) fun v s1 h1 => thn h1 fun itv s2 h2 => ?_) hs
  obtain ⟨it, fp, tn, J, H2, e, I2, T, st2, f2, W, ⟨m0, w0⟩, turn⟩ := h2
  subst e
  -- what stays true of the iterator's objects through the loop
  have stat : ∀ {H' : Hp}, (∀ b ∈ fp, H' b = none) → ∀ b ∈ fp, FpOk X pins H' b := fun hn b hb => ⟨hn b hb, (f2 b hb).2⟩
  refine codeAny_forLoop_any (fun n s' => ∃ i σ' H', Inv X pins σ' H' s' ∧ tn i s'.heap ∧ (∀ b ∈ fp, H' b = none) ∧ W i n σ' H') ?_ m0 ⟨0, σ, H2, I2, st2, fun b hb => (f2 b hb).1, w0⟩
  rintro n s3 ⟨i, σ3, H3, I3, st3, fr3, w3⟩
  rcases turn i n σ3 H3 w3 with ⟨stop, qn⟩ | ⟨go, N, hN, step⟩
  · refine wpAny_passesOwn hp (thn (T.done X rfl rfl rfl hc i pins s3 σ3 H3 X.xe I3 (stat fr3) st3 stop) fun r s4 ⟨hr, I4⟩ => ?_)
    subst hr
    exact wpAny_execs_nil ⟨σ3, H3, I4, qn⟩
  · refine wpAny_passesOwn hp (thn (T.item X rfl rfl rfl hc i pins s3 σ3 H3 X.xe I3 (stat fr3) st3 go) fun r s4 ⟨u, hr, h4⟩ => ?_)
    subst hr
    refine wpAny_passesOwn hp (thn h4 fun _ s5 ⟨x, H5, I5, r5, y5, st5, fr5⟩ => ?_)
    have I5' := I5.pinned (stat fr5) (T.obj _ _ st5)
    refine wpAny_passesOwn hp (thn (hg _ s5 σ3 H5 x u _ I5' r5 (step x H5 y5)) fun _ s6 ⟨σ6, H6, I6, q6⟩ => ?_)
    refine wpAny_passesOwn hp (thn (hb _ s6 σ6 H6 _ I6 q6) fun f s7 q7 => ?_)
    have again : ∀ {σ7 : St} {H7 : Hp}, Inv X (pins ++ pinsAt fp s5.heap) σ7 H7 s7 → N σ7 H7 → ∃ m, m < n ∧ ∃ i σ' H', Inv X pins σ' H' s7 ∧ tn i s7.heap ∧ (∀ b ∈ fp, H' b = none) ∧ W i m σ' H' := fun {σ7 H7} I7 n7 => by
      obtain ⟨m', hm, w7⟩ := hN σ7 H7 n7
      refine ⟨m', hm, i + 1, σ7, H7, I7.unpinned, T.keep _ _ _ st5 fun b hb o e => (I7.pin (b, o) (List.mem_append_right _ (List.mem_append_right _ (mem_pinsAt hb e)))).1, fun b hb => ?_, w7⟩
      obtain ⟨o, e, d⟩ := T.obj _ _ st5 b hb
      exact (I7.pin (b, o) (List.mem_append_right _ (List.mem_append_right _ (mem_pinsAt hb e)))).2.1
    cases f with
    | next => obtain ⟨σ7, H7, I7, n7⟩ := q7; exact again I7 n7
    | cont => obtain ⟨σ7, H7, I7, n7⟩ := q7; exact again I7 n7
    | brk => obtain ⟨σ7, H7, I7, q7⟩ := q7; exact ⟨σ7, H7, I7.unpinned, q7⟩
    | ret v => obtain ⟨x7, σ7, H7, I7, r7, q7⟩ := q7; exact ⟨x7, σ7, H7, I7.unpinned, r7, q7⟩
end

/-! ### the forms one uses -/
end L2

namespace L2
open PySem PySem.Spec PyProof.Rows

noncomputable abbrev R2 := V → V → Hp → VK → Prop
noncomputable def OpR (X : Cx) (f : Value → Value → Sem Value) (r : R2) : Prop :=
  ∀ (pins : List (Addr × Obj)) (s : Shared) (σ : St) (H : Hp) (x y : V) (v u : Value) (Q : VK), Inv X pins σ H s → RelV x v → RelV y u → r x y H Q →
    wpAny (model X.prog X.w) X.A (f v u) (EP X pins σ Q) X.xe s
noncomputable def UnR (X : Cx) (f : Value → Sem Value) (r : V → Hp → VK → Prop) : Prop :=
  ∀ (pins : List (Addr × Obj)) (s : Shared) (σ : St) (H : Hp) (x : V) (v : Value) (Q : VK), Inv X pins σ H s → RelV x v → r x H Q →
    wpAny (model X.prog X.w) X.A (f v) (EP X pins σ Q) X.xe s
noncomputable def CallR (X : Cx) (f : Value) (r : List V → Hp → VK → Prop) : Prop :=
  ∀ (pins : List (Addr × Obj)) (s : Shared) (σ : St) (H : Hp) (xs : List V) (us : List Value) (Q : VK), Inv X pins σ H s → Vals xs us → r xs H Q →
    wpAny (model X.prog X.w) X.A (call f us) (EP X pins σ Q) X.xe s
noncomputable def tOp (r : R2) (ta tb : TE) : TE := fun σ H Q => ta σ H fun x H1 => tb σ H1 fun y H2 => r x y H2 Q
noncomputable def tUn (r : V → Hp → VK → Prop) (ta : TE) : TE := fun σ H Q => ta σ H fun x H1 => r x H1 Q
noncomputable def rI (C : Int → Int → Prop) (g : Int → Int → V) : R2 := fun x y H Q => ∃ i j, x = .int i ∧ y = .int j ∧ C i j ∧ Q (g i j) H
noncomputable def rI0 (g : Int → Int → V) : R2 := fun x y H Q => ∃ i j, x = .int i ∧ y = .int j ∧ Q (g i j) H
noncomputable def rU (g : Int → V) : V → Hp → VK → Prop := fun x H Q => ∃ i, x = .int i ∧ Q (g i) H

section
variable {X : Cx} {a b c : Expr} {ta tb tc : TE} {pos : Pos}

theorem binT (ha : PE X a ta) (hb : PE X b tb) {pins : List (Addr × Obj)} {s : Shared} {σ : St} {H : Hp} {R : V → V → Hp → Prop} (I : Inv X pins σ H s)
    (h : ta σ H fun x H1 => tb σ H1 fun y H2 => R x y H2) {Q : Value → Shared → Prop} {f : Value → Value → Sem Value}
    (hf : ∀ v u s2 x y H2, Inv X pins σ H2 s2 → RelV x v → RelV y u → R x y H2 → wpAny (model X.prog X.w) X.A (f v u) Q X.xe s2) :
    wpAny (model X.prog X.w) X.A (eval a X.env) (fun v s₁ => wpAny (model X.prog X.w) X.A (eval b X.env) (fun u s₂ => wpAny (model X.prog X.w) X.A (f v u) Q X.xe s₂) X.xe s₁) X.xe s := by
  refine thn (ha pins s σ H _ I h) fun v s1 ⟨x, H1, I1, r1, q1⟩ => ?_
  refine thn (hb pins s1 σ H1 _ I1 q1) fun u s2 ⟨y, H2, I2, r2, q2⟩ => ?_
  exact hf v u s2 x y H2 I2 r1 r2 q2

theorem pe_op {op : Operator} {r : R2} (ho : OpR X (binaryOp op) r) (ha : PE X a ta) (hb : PE X b tb) : PE X (.BinOp a op b pos) (tOp r ta tb) := by
  intro pins s σ H Q I h
  exact wpAny_BinOp (binT ha hb I h fun v u s2 x y H2 I2 rx ry q => ho pins s2 σ H2 x y v u Q I2 rx ry q)
theorem pe_un {op : UnaryOp} {r : V → Hp → VK → Prop} (ho : UnR X (unaryOp op) r) (ha : PE X a ta) : PE X (.UnaryOp op a pos) (tUn r ta) := by
  intro pins s σ H Q I h
  exact UnaryOp_ (thn (ha pins s σ H _ I h) fun v s1 ⟨x, H1, I1, r1, q1⟩ => ho pins s1 σ H1 x v Q I1 r1 q1)

/-! ### ints -/
theorem opI {f : Value → Value → Sem Value} {C : Int → Int → Prop} {g : Int → Int → Int}
    (rule : ∀ (i j : Int) (t u : Tok) (s : Shared) (Q : Value → Shared → Prop) (E : Value → Shared → Prop), C i j → Q (.int (g i j) s.toks) { s with toks := s.toks + 1 } → wpAny (model X.prog X.w) X.A (f (.int i t) (.int j u)) Q E s) :
    OpR X f (rI C fun i j => .int (g i j)) := by
  intro pins s σ H x y v u Q I rx ry h
  obtain ⟨i, j, rfl, rfl, hc, q⟩ := h
  obtain ⟨t, rfl⟩ := rx
  obtain ⟨t', rfl⟩ := ry
  exact rule i j t t' s _ _ hc ⟨.int (g i j), H, I.tok _, ⟨_, rfl⟩, q⟩
theorem opI0 {f : Value → Value → Sem Value} {g : Int → Int → Int}
    (rule : ∀ (i j : Int) (t u : Tok) (s : Shared) (Q : Value → Shared → Prop) (E : Value → Shared → Prop), Q (.int (g i j) s.toks) { s with toks := s.toks + 1 } → wpAny (model X.prog X.w) X.A (f (.int i t) (.int j u)) Q E s) :
    OpR X f (rI0 fun i j => .int (g i j)) := by
  intro pins s σ H x y v u Q I rx ry h
  obtain ⟨i, j, rfl, rfl, q⟩ := h
  obtain ⟨t, rfl⟩ := rx
  obtain ⟨t', rfl⟩ := ry
  exact rule i j t t' s _ _ ⟨.int (g i j), H, I.tok _, ⟨_, rfl⟩, q⟩
theorem opB0 {f : Value → Value → Sem Value} {g : Int → Int → Bool}
    (rule : ∀ (i j : Int) (t u : Tok) (s : Shared) (Q : Value → Shared → Prop) (E : Value → Shared → Prop), Q (.bool (g i j)) s → wpAny (model X.prog X.w) X.A (f (.int i t) (.int j u)) Q E s) :
    OpR X f (rI0 fun i j => .bl (g i j)) := by
  intro pins s σ H x y v u Q I rx ry h
  obtain ⟨i, j, rfl, rfl, q⟩ := h
  obtain ⟨t, rfl⟩ := rx
  obtain ⟨t', rfl⟩ := ry
  exact rule i j t t' s _ _ ⟨.bl (g i j), H, I, rfl, q⟩

noncomputable def CDiv (i j : Int) : Prop := 0 < j ∧ j < 1073741824
noncomputable def CMul (i j : Int) : Prop := (-(2 ^ 64) < i ∧ i < 2 ^ 64) ∨ (-(2 ^ 64) < j ∧ j < 2 ^ 64)
theorem CMul.ok {i j : Int} (h : CMul i j) : IntMulOk i j := by
  rcases h with ⟨h1, h2⟩ | ⟨h1, h2⟩
  · exact .of_left (intBits_le_64 h1 h2)
  · exact .of_right (intBits_le_64 h1 h2)

theorem op_add : OpR X (binaryOp .Add) (rI0 fun i j => .int (i + j)) := opI0 fun _ _ _ _ _ _ _ q => add_int q
theorem op_mul : OpR X (binaryOp .Mult) (rI CMul fun i j => .int (i * j)) := opI fun _ _ _ _ _ _ _ hc q => mul_int q hc.ok
theorem op_fdiv : OpR X (binaryOp .FloorDiv) (rI CDiv fun i j => .int (i / j)) := opI fun i j _ _ _ _ _ hc q => by
  have h1 : (0 : Int) < j := hc.1
  have h2 : j < 1073741824 := hc.2
  exact floordiv_int (by omega) (by rw [Int.fdiv_eq_ediv_of_nonneg i (by omega)]; exact q) (.inl (PyProof.noPylong_small (by omega)))
theorem op_mod : OpR X (binaryOp .Mod) (rI (fun _ j => 0 < j) fun i j => .int (i % j)) := opI fun i j _ _ _ _ _ hc q => by
  have h1 : (0 : Int) < j := hc
  exact mod_int' (by omega) (by rw [Int.fmod_eq_emod_of_nonneg i (by omega)]; exact q)


theorem unI {f : Value → Sem Value} {g : Int → Int}
    (rule : ∀ (i : Int) (t : Tok) (s : Shared) (Q : Value → Shared → Prop) (E : Value → Shared → Prop), Q (.int (g i) s.toks) { s with toks := s.toks + 1 } → wpAny (model X.prog X.w) X.A (f (.int i t)) Q E s) :
    UnR X f (rU fun i => .int (g i)) := by
  intro pins s σ H x v Q I rx h
  obtain ⟨i, rfl, q⟩ := h
  obtain ⟨t, rfl⟩ := rx
  exact rule i t s _ _ ⟨.int (g i), H, I.tok _, ⟨_, rfl⟩, q⟩
theorem un_neg : UnR X (unaryOp .USub) (rU fun i => .int (-i)) := unI fun _ _ _ _ _ q => neg_int q

/-! ### bools among ints: n += (a < b) -/
end

/-! ### comparisons -/
noncomputable def scal : V → V → Bool
  | .non, .non => true | .non, .int _ => true | .int _, .non => true | .non, .bl _ => true | .bl _, .non => true | .non, .str _ => true | .str _, .non => true
  | .int _, .int _ => true | .bl _, .bl _ => true | .str _, .str _ => true | .byt _, .byt _ => true
  | .int _, .str _ => true | .str _, .int _ => true | .bl _, .str _ => true | .str _, .bl _ => true
  | _, _ => false
noncomputable def rEq : R2 := fun x y H Q => scal x y = true ∧ Q (.bl (decide (x = y))) H
noncomputable def rNe : R2 := fun x y H Q => scal x y = true ∧ Q (.bl (!decide (x = y))) H

theorem dec_int {i j : Int} : decide (V.int i = V.int j) = (i == j) := by
  rw [Bool.eq_iff_iff]
  simp
theorem dec_bl {i j : Bool} : decide (V.bl i = V.bl j) = (i == j) := by
  rw [Bool.eq_iff_iff]
  simp
theorem dec_str {i j : Str} : decide (V.str i = V.str j) = (i == j) := by
  rw [Bool.eq_iff_iff]
  simp
theorem dec_byt {i j : Array UInt8} : decide (V.byt i = V.byt j) = (i.toList == j.toList) := by
  rw [Bool.eq_iff_iff]
  cases i
  cases j
  simp

section
variable {X : Cx} {a b c : Expr} {ta tb tc : TE} {pos : Pos}
theorem fin_bl {pins : List (Addr × Obj)} {σ : St} {H : Hp} {s : Shared} {Q : VK} {k k' : Bool} (I : Inv X pins σ H s) (q : Q (.bl k) H) (e : k = k') : EP X pins σ Q (.bool k') s := by
  subst e
  exact ⟨.bl k, H, I, rfl, q⟩
theorem op_eq : OpR X (compareOp .Eq) rEq := by
  intro pins s σ H x y v u Q I rx ry h
  obtain ⟨hs, q⟩ := h
  cases x with
  | non =>
    cases rx
    cases y with
    | non => cases ry; exact PySem.EqNone.eq_none_none (fin_bl I q (by simp))
    | bl j => cases ry; exact PySem.EqNone.eq_none_bool (fin_bl I q (by simp))
    | int j => obtain ⟨t', rfl⟩ := ry; exact PySem.EqNone.eq_none_int (fin_bl I q (by simp))
    | str j => obtain ⟨t', rfl⟩ := ry; exact PySem.EqNone.eq_none_str (fin_bl I q (by simp))
    | _ => exact absurd (show false = true from hs) Bool.false_ne_true
  | bl i =>
    cases rx
    cases y with
    | non => cases ry; exact PySem.EqNone.eq_bool_none (fin_bl I q (by simp))
    | bl j => cases ry; exact eq_bool (fin_bl I q dec_bl)
    | str j => obtain ⟨t', rfl⟩ := ry; exact PySem.EqMixed.eq_bool_str (fin_bl I q (by simp))
    | _ => exact absurd (show false = true from hs) Bool.false_ne_true
  | int i =>
    obtain ⟨t, rfl⟩ := rx
    cases y with
    | non => cases ry; exact PySem.EqNone.eq_int_none (fin_bl I q (by simp))
    | int j => obtain ⟨t', rfl⟩ := ry; exact eq_int (fin_bl I q dec_int)
    | str j => obtain ⟨t', rfl⟩ := ry; exact PySem.EqMixed.eq_int_str (fin_bl I q (by simp))
    | _ => exact absurd (show false = true from hs) Bool.false_ne_true
  | str i =>
    obtain ⟨t, rfl⟩ := rx
    cases y with
    | non => cases ry; exact PySem.EqNone.eq_str_none (fin_bl I q (by simp))
    | bl j => cases ry; exact PySem.EqMixed.eq_str_bool (fin_bl I q (by simp))
    | int j => obtain ⟨t', rfl⟩ := ry; exact PySem.EqMixed.eq_str_int (fin_bl I q (by simp))
    | str j => obtain ⟨t', rfl⟩ := ry; exact eq_str (fin_bl I q dec_str)
    | _ => exact absurd (show false = true from hs) Bool.false_ne_true
  | byt i =>
    obtain ⟨t, rfl⟩ := rx
    cases y with
    | byt j => obtain ⟨t', rfl⟩ := ry; exact PySem.W.eq_bytes (fin_bl I q dec_byt)
    | _ => exact absurd (show false = true from hs) Bool.false_ne_true
  | _ => cases y <;> exact absurd (show false = true from hs) Bool.false_ne_true
theorem op_ne : OpR X (compareOp .NotEq) rNe := by
  intro pins s σ H x y v u Q I rx ry h
  obtain ⟨hs, q⟩ := h
  cases x with
  | non =>
    cases rx
    cases y with
    | non => cases ry; exact PySem.EqNone.ne_none_none (fin_bl I q (by simp))
    | bl j => cases ry; exact PySem.EqNone.ne_none_bool (fin_bl I q (by simp))
    | int j => obtain ⟨t', rfl⟩ := ry; exact PySem.EqNone.ne_none_int (fin_bl I q (by simp))
    | str j => obtain ⟨t', rfl⟩ := ry; exact PySem.EqNone.ne_none_str (fin_bl I q (by simp))
    | _ => exact absurd (show false = true from hs) Bool.false_ne_true
  | bl i =>
    cases rx
    cases y with
    | non => cases ry; exact PySem.EqNone.ne_bool_none (fin_bl I q (by simp))
    | bl j => cases ry; exact ne_bool (fin_bl I q (congrArg not dec_bl))
    | str j => obtain ⟨t', rfl⟩ := ry; exact PySem.EqMixed.ne_bool_str (fin_bl I q (by simp))
    | _ => exact absurd (show false = true from hs) Bool.false_ne_true
  | int i =>
    obtain ⟨t, rfl⟩ := rx
    cases y with
    | non => cases ry; exact PySem.EqNone.ne_int_none (fin_bl I q (by simp))
    | int j => obtain ⟨t', rfl⟩ := ry; exact ne_int (fin_bl I q (congrArg not dec_int))
    | str j => obtain ⟨t', rfl⟩ := ry; exact PySem.EqMixed.ne_int_str (fin_bl I q (by simp))
    | _ => exact absurd (show false = true from hs) Bool.false_ne_true
  | str i =>
    obtain ⟨t, rfl⟩ := rx
    cases y with
    | non => cases ry; exact PySem.EqNone.ne_str_none (fin_bl I q (by simp))
    | bl j => cases ry; exact PySem.EqMixed.ne_str_bool (fin_bl I q (by simp))
    | int j => obtain ⟨t', rfl⟩ := ry; exact PySem.EqMixed.ne_str_int (fin_bl I q (by simp))
    | str j => obtain ⟨t', rfl⟩ := ry; exact ne_str (fin_bl I q (congrArg not dec_str))
    | _ => exact absurd (show false = true from hs) Bool.false_ne_true
  | byt i =>
    obtain ⟨t, rfl⟩ := rx
    cases y with
    | byt j => obtain ⟨t', rfl⟩ := ry; exact PySem.W.ne_bytes (fin_bl I q (congrArg not dec_byt))
    | _ => exact absurd (show false = true from hs) Bool.false_ne_true
  | _ => cases y <;> exact absurd (show false = true from hs) Bool.false_ne_true

theorem op_lt : OpR X (compareOp .Lt) (rI0 fun i j => .bl (decide (i < j))) := opB0 fun _ _ _ _ _ _ _ q => lt_int q
theorem op_le : OpR X (compareOp .LtE) (rI0 fun i j => .bl (decide (i ≤ j))) := opB0 fun _ _ _ _ _ _ _ q => le_int q
theorem op_gt : OpR X (compareOp .Gt) (rI0 fun i j => .bl (decide (j < i))) := opB0 fun _ _ _ _ _ _ _ q => gt_int q
theorem op_in_str : OpR X (compareOp .In) (fun x y H Q => ∃ i j, x = .str i ∧ y = .str j ∧ Q (.bl (!(Builtin.Str.occurrences j i 0 j.length 1).isEmpty)) H) := by
  intro pins s σ H x y v u Q I rx ry h
  obtain ⟨i, j, rfl, rfl, q⟩ := h
  obtain ⟨t, rfl⟩ := rx
  obtain ⟨t', rfl⟩ := ry
  exact in_str (fin_bl I q rfl)


theorem OpR.or {f : Value → Value → Sem Value} {r r' : R2} (h : OpR X f r) (h' : OpR X f r') : OpR X f (fun x y H Q => r x y H Q ∨ r' x y H Q) := by
  intro pins s σ H x y v u Q I rx ry q
  rcases q with q | q
  · exact h pins s σ H x y v u Q I rx ry q
  · exact h' pins s σ H x y v u Q I rx ry q

theorem nomark (b : Expr) {op : CmpOp} (h : op ≠ .In := by decide) (h2 : op ≠ .NotIn := by decide) : behindInMarks op b = false := by
  have e1 : (op == CmpOp.In) = false := by cases op <;> first | rfl | exact absurd rfl h
  have e2 : (op == CmpOp.NotIn) = false := by cases op <;> first | rfl | exact absurd rfl h2
  cases b <;> simp [behindInMarks, e1, e2]
theorem pe_cmpR {op : CmpOp} {r : R2} (ho : OpR X (compareOp op) r) (ha : PE X a ta) (hb : PE X b tb) (hm : behindInMarks op b = false) : PE X (.Compare a [op] [b] pos) (tOp r ta tb) := by
  intro pins s σ H Q I h
  exact wpAny_Compare1 (binT ha hb I h fun v u s2 x y H2 I2 rx ry q => ho pins s2 σ H2 x y v u Q I2 rx ry q) hm
noncomputable def tTest (t : TE) : TT := fun σ H Q => t σ H fun x H' => ∃ k, x = .bl k ∧ Q k H'
theorem pt_cmpR {op : CmpOp} {r : R2} (ho : OpR X (compareOp op) r) (ha : PE X a ta) (hb : PE X b tb) (hm : behindInMarks op b = false) : PT X (.Compare a [op] [b] pos) (tTest (tOp r ta tb)) := by
  intro pins s σ H Q I h
  refine wpAny_isTrue_Compare1 (thn (ha pins s σ H _ I h) fun v s1 ⟨x, H1, I1, r1, q1⟩ => thn (hb pins s1 σ H1 _ I1 q1) fun u s2 ⟨y, H2, I2, r2, q2⟩ =>
    thn (ho pins s2 σ H2 x y v u _ I2 r1 r2 q2) fun c s3 ⟨z, H3, I3, r3, k, e, q3⟩ => ?_) hm
  subst e
  cases r3
  exact wpAny_truthy_bool ⟨H3, I3, q3⟩
noncomputable def tChain (r r' : R2) (ta tb tc : TE) : TE := fun σ H Q => ta σ H fun x H1 => tb σ H1 fun y H2 => r x y H2 fun z H3 => ∃ k, z = .bl k ∧
  (if k = true then tc σ H3 fun w' H4 => r' y w' H4 Q else Q (.bl false) H3)
theorem pe_chain {op op' : CmpOp} {r r' : R2} (ho : OpR X (compareOp op) r) (ho' : OpR X (compareOp op') r') (ha : PE X a ta) (hb : PE X b tb) (hc : PE X c tc)
    (hm : lastMarks [op, op'] [b, c] = false := by with_unfolding_all rfl) : PE X (.Compare a [op, op'] [b, c] pos) (tChain r r' ta tb tc) := by
  intro pins s σ H Q I h
  refine Compare_chain (thn (ha pins s σ H _ I h) fun v s1 ⟨x, H1, I1, r1, q1⟩ => chain_link (thn (hb pins s1 σ H1 _ I1 q1) fun u s2 ⟨y, H2, I2, r2, q2⟩ =>
    thn (ho pins s2 σ H2 x y v u _ I2 r1 r2 q2) fun d s3 ⟨z, H3, I3, r3, k, e, q3⟩ => ?_)) hm
  subst e
  cases r3
  refine wpAny_truthy_bool ?_
  cases k with
  | false => exact ite_ff ⟨.bl false, H3, I3, rfl, q3⟩
  | true => exact ite_tt (chain_last (thn (hc pins s3 σ H3 _ I3 q3) fun w' s4 ⟨z', H4, I4, r4, q4⟩ => ho' pins s4 σ H4 y z' u w' Q I4 r2 r4 q4))
theorem pt_chain {op op' : CmpOp} {r r' : R2} (ho : OpR X (compareOp op) r) (ho' : OpR X (compareOp op') r') (ha : PE X a ta) (hb : PE X b tb) (hc : PE X c tc)
    (hm : lastMarks [op, op'] [b, c] = false := by with_unfolding_all rfl) : PT X (.Compare a [op, op'] [b, c] pos) (tTest (tChain r r' ta tb tc)) := by
  intro pins s σ H Q I h
  refine isTrue_chain (thn (ha pins s σ H _ I h) fun v s1 ⟨x, H1, I1, r1, q1⟩ => test_link (thn (hb pins s1 σ H1 _ I1 q1) fun u s2 ⟨y, H2, I2, r2, q2⟩ =>
    thn (ho pins s2 σ H2 x y v u _ I2 r1 r2 q2) fun d s3 ⟨z, H3, I3, r3, k, e, q3⟩ => ?_)) hm
  subst e
  cases r3
  refine wpAny_truthy_bool ?_
  cases k with
  | false =>
    obtain ⟨k', e', q'⟩ := q3
    cases e'
    exact ite_ff ⟨H3, I3, q'⟩
  | true =>
    refine ite_tt (test_last (thn (hc pins s3 σ H3 _ I3 q3) fun w' s4 ⟨z', H4, I4, r4, q4⟩ => thn (ho' pins s4 σ H4 y z' u w' _ I4 r2 r4 q4) fun d' s5 ⟨z2, H5, I5, r5, k2, e2, q5⟩ => ?_))
    subst e2
    cases r5
    exact wpAny_truthy_bool ⟨H5, I5, q5⟩

/-! ### truth -/
theorem line63 : (sizeLine : Nat) < 2 ^ 63 := by rw [sizeLine_eq]; decide

/-! ### strs and bytes -/
theorem op_add_str : OpR X (binaryOp .Add) (fun x y H Q => ∃ i j, x = .str i ∧ y = .str j ∧ i.length + j.length ≤ sizeLine ∧ Q (.str (i ++ j)) H) := by
  intro pins s σ H x y v u Q I rx ry h
  obtain ⟨i, j, rfl, rfl, hz, q⟩ := h
  obtain ⟨t, rfl⟩ := rx
  obtain ⟨t', rfl⟩ := ry
  exact add_str (fun t' tk => ⟨.str (i ++ j), H, I.tok _, ⟨_, rfl⟩, q⟩) hz

/-! ### scalar builtins, by CallR -/
theorem vals1 {x : V} {us : List Value} (r : Vals [x] us) : ∃ u, us = [u] ∧ RelV x u := by
  cases r with
  | cons r1 r2 => cases r2; exact ⟨_, rfl, r1⟩
theorem vals2 {x y : V} {us : List Value} (r : Vals [x, y] us) : ∃ u w', us = [u, w'] ∧ RelV x u ∧ RelV y w' := by
  cases r with
  | cons r1 r2 =>
    cases r2 with
    | cons r3 r4 => cases r4; exact ⟨_, _, rfl, r1, r3⟩
theorem call_int1 : CallR X (.type "int") (fun xs H Q => (∃ i, xs = [.int i] ∧ Q (.int i) H) ∨ ∃ k, xs = [.bl k] ∧ Q (.int (if k then 1 else 0)) H) := by
  intro pins s σ H xs us Q I r h
  rcases h with ⟨i, rfl, q⟩ | ⟨k, rfl, q⟩
  · obtain ⟨u, rfl, t, rfl⟩ := vals1 r
    exact call_int_int ⟨.int i, H, I, ⟨_, rfl⟩, q⟩
  · obtain ⟨u, rfl, r1⟩ := vals1 r
    cases r1
    exact call_int_bool ⟨.int (if k then 1 else 0), H, I.tok _, ⟨_, rfl⟩, q⟩
end
end L2

namespace L2
open PySem PySem.Spec PyProof.Rows

/-! ### an instance, its attributes a map -/
section
variable {prog : Program} {w : World} {A : Around} {E : Value → Shared → Prop} {s : Shared} {K : PySem.W.Frag} {x dx C f : Addr} {mA : Str → Option Value} {name : Str} {v : Value}





end

/-! ### the attributes as a list of pairs -/
noncomputable def putF (f : Str) (v : V) : List (Str × V) → List (Str × V)
  | [] => [(f, v)]
  | (g, x) :: r => if g = f then (g, v) :: r else (g, x) :: putF f v r


section
variable {P : Program} {w : World} {H H' : Hp} {h h' : Heap} {a C dx : Addr} {fs fs' : List (Str × V)}
end

/-! ### what of the text a class must have -/
section
variable {X : Cx} {pins : List (Addr × Obj)} {σ : St} {H : Hp} {s : Shared} {a C dx : Addr} {fs : List (Str × V)} {f : Str} {v : V} {A : Around} {E : Value → Shared → Prop}






end

/-! ### readings and rules -/
section
variable {X : Cx} {o e value : Expr} {f : Str} {pos pos' tpos : Pos} {ta tv : TE}
end

/-! ### isinstance -/
section
variable {X : Cx} {pins : List (Addr × Obj)} {σ : St} {H : Hp} {s : Shared} {A : Around} {E : Value → Shared → Prop} {Q : Value → Shared → Prop} {c : Value} {b : Bool}
end
end L2

namespace L2
open PySem PySem.Spec PyProof.Rows

/-! ### room -/
structure Room (k : Nat) (A : Around) : Prop where
  hd : A.handled = none
  dp : A.depth + 3 * k + 5 < recursionLimit
  un : A.units + 16 * k + 200 < cLine
theorem Room.mono {j k : Nat} {A : Around} (r : Room k A) (h : j ≤ k) : Room j A := ⟨r.hd, by have := r.dp; omega, by have := r.un; omega⟩
theorem Room.deeper {k : Nat} {A : Around} (r : Room (k + 1) A) (env : Env) : Room k (A.deeper env) :=
  ⟨r.hd, by have := r.dp; show A.depth + 1 + 3 * k + 5 < _; omega, by have := r.un; show A.units + 3 + 16 * k + 200 < _; omega⟩
theorem Room.depth {k : Nat} {A : Around} (r : Room k A) : A.depth < recursionLimit := by have := r.dp; omega
theorem Room.units {k : Nat} {A : Around} (r : Room k A) : A.units + 64 < cLine := by have := r.un; omega

/-! ### argument lists and displays -/
noncomputable def tNil : TA := fun _ H Q => Q [] H
noncomputable def tCons (ta : TE) (tr : TA) : TA := fun σ H Q => ta σ H fun x H1 => tr σ H1 fun xs H2 => Q (x :: xs) H2
section
variable {X : Cx} {e : Expr} {es : List Expr} {te : TE} {t : TA} {pos : Pos}
theorem pa_nil : PA X [] tNil := fun _ _ _ _ H Q I h => Calls.spliced_nil ⟨[], H, I, .nil, h⟩
theorem pa_cons (ha : PE X e te) (hr : PA X es t) (hs : starEach (e :: es) X.env = (false, eval e X.env) :: starEach es X.env := by rfl) : PA X (e :: es) (tCons te t) := by
  intro pos pins s σ H Q I h
  rw [hs]
  show wpAny _ _ (spliced ((false, eval e X.env) :: backTo pos (starEach es X.env))) _ _ s
  refine Calls.spliced_cons (thn (ha pins s σ H _ I h) fun u s1 ⟨x, H1, I1, r1, q1⟩ => ?_)
  exact thn (hr pos pins s1 σ H1 _ I1 q1) fun us s2 ⟨xs, H2, I2, r2, q2⟩ => ⟨x :: xs, H2, I2, .cons r1 r2, q2⟩

noncomputable def tTup (t : TA) : TE := fun σ H Q => t σ H fun xs H1 => xs.length ≤ sizeLine ∧ ∀ p, H1 p = none → Q (.ref p) (upd H1 p (.tup xs))
noncomputable def tLst (t : TA) : TE := fun σ H Q => t σ H fun xs H1 => xs.length ≤ sizeLine ∧ ∀ p, H1 p = none → Q (.ref p) (upd H1 p (.lst xs))
theorem pe_tup {x1} (h : PA X es t) : PE X (.Tuple es x1 pos) (tTup t) := by
  intro pins s σ H Q I hq
  refine wpAny_Tuple_spliced (thn (h pos pins s σ H _ I hq) fun us s1 ⟨xs, H1, I1, r, z, q⟩ => ⟨by rw [← r.length]; exact z, ?_⟩)
  have hf : H1 s1.heap.objs.size = none := I1.hok.fresh (Nat.le_refl _)
  refine ⟨.ref s1.heap.objs.size, upd H1 s1.heap.objs.size (.tup xs), I1.laid (t' := s1.toks) (fun b u e => Heap.get?_push_of_some _ e) (Nat.le_refl _) ?_, rfl, q _ hf⟩
  exact ⟨z, us, r, ⟨_, Heap.get?_push_size _ rfl, rfl, _, rfl⟩⟩
theorem pe_lst (h : PA X es t) : PE X (.List es pos) (tLst t) := by
  intro pins s σ H Q I hq
  refine wpAny_List_spliced (thn (h pos pins s σ H _ I hq) fun us s1 ⟨xs, H1, I1, r, z, q⟩ => ⟨by rw [← r.length]; exact z, ?_⟩)
  have hf : H1 s1.heap.objs.size = none := I1.hok.fresh (Nat.le_refl _)
  refine ⟨.ref s1.heap.objs.size, upd H1 s1.heap.objs.size (.lst xs), I1.laid (t' := s1.toks) (fun b u e => Heap.get?_push_of_some _ e) (Nat.le_refl _) ?_, rfl, q _ hf⟩
  exact ⟨z, us, 0, r, Heap.get?_push_size _ rfl⟩
end

/-! ### what a def promises -/
noncomputable abbrev Sp := List V → Hp → VK → XK → Prop
noncomputable abbrev CXT := List Env → Hp → Shared → XK → Value → Shared → Prop

structure Env0 (P : Program) (w : World) (K : PySem.W.Frag) (mg : Str → Option Value) (base : Heap) (A : Around) (outer : List Env) (s : Shared) (H : Hp) : Prop where
  frames : A.frames = some outer
  mod : Mod K mg base
  bs : ∀ b o, base.get? b = some o → s.heap.get? b = some o ∧ H b = none
  bsz : base.objs.size ≤ s.heap.objs.size
  funs : s.heap.FunFrames base outer
  frf : ∀ b ∈ frs outer, H b = none
  hok : HOk P w H s.heap
  bare : AllBare s.gens
noncomputable def CE (outer : List Env) (P : Program) (w : World) (H : Hp) (s : Shared) (Q : VK) (u : Value) (s' : Shared) : Prop :=
  ∃ v H', s'.os = s.os ∧ AllBare s'.gens ∧ Un (frs outer) [] H H' s.heap s'.heap ∧ HOk P w H' s'.heap ∧ RelV v u ∧ Q v H'
noncomputable def CR (CX : CXT) (outer : List Env) (P : Program) (w : World) (H : Hp) (s : Shared) (Q : VK) (E : XK) (r : Result) (s' : Shared) : Prop :=
  match r with
  | .ok (.ret u) => CE outer P w H s Q u s'
  | .ok _ => False
  | .error e => CX outer H s E e s'
structure FnOk (P : Program) (w : World) (K : PySem.W.Frag) (mg : Str → Option Value) (base : Heap) (CX : CXT) (k : Nat) (f : Addr) (fd : FuncData) (ps : List Str) (sp : Sp) : Prop where
  len : ∀ vs H Q E, sp vs H Q E → vs.length = ps.length
  run : ∀ (A : Around) (outer : List Env) (s : Shared) (H : Hp) (args : Args) (us : List Value) (vs : List V) (Q : VK) (E : XK), Room k A → Env0 P w K mg base A outer s H → BindsTo s fd args (ps.zip us) → Vals vs us → sp vs H Q E →
    codeAny (model P w) A (.call (.ref f) args) (CR CX outer P w H s Q E) s


section
variable {X : Cx} {pins : List (Addr × Obj)} {σ : St} {H : Hp} {s s' : Shared}
theorem Inv.env0 (I : Inv X pins σ H s) : Env0 X.prog X.w X.K X.mg X.base X.A X.stack s H :=
  ⟨I.ok.frames, I.ok.mod, I.bs, Nat.le_trans I.ok.bsz I.sz, I.stack, I.stkFree, I.hok, I.bare⟩
theorem Inv.after {Q : VK} {u : Value} (I : Inv X pins σ H s) (h : CE X.stack X.prog X.w H s Q u s') : EP X pins σ Q u s' := by
  obtain ⟨v, H', os, bare, un, hok, r, q⟩ := h
  obtain ⟨hh, g, d, t, os'⟩ := s'
  obtain rfl : os' = s.os := os
  exact ⟨v, H', I.call (h' := hh) (g' := g) (d' := d) (t' := t) (ch := []) un hok bare (fun b z => absurd z (by simp)), r, q⟩
end

/-! ### calls -/
noncomputable def tCall (sp : Sp) (dvs : List V) (E : XK) (t : TA) : TE := fun σ H Q => t σ H fun vs H1 => sp (vs ++ dvs) H1 Q E
noncomputable def Binds (K : PySem.W.Frag) (fd : FuncData) (ps : List Str) (ds : List Value) : Prop :=
  ∀ (s : Shared) (us : List Value), K.In s.heap → (us ++ ds).length = ps.length → BindsTo s fd ⟨us, []⟩ (ps.zip (us ++ ds))
theorem Binds.all {K : PySem.W.Frag} {fd : FuncData} {ps : List Str} (h : ∀ us : List Value, us.length = ps.length → bindArgs fd ⟨us, []⟩ = pure (ps.zip us)) : Binds K fd ps [] := fun s us _ hl => by
  rw [List.append_nil] at hl ⊢
  exact .of_eq (h us hl)

noncomputable def Passes (CX : CXT) (X : Cx) (E : XK) : Prop := ∀ (pins : List (Addr × Obj)) (σ : St) (H : Hp) (s : Shared) (e : Value) (s' : Shared), Inv X pins σ H s → CX X.stack H s E e s' → X.xe e s'

section
variable {X : Cx} {CX : CXT} {k : Nat} {f C : Addr} {fd : FuncData} {ps : List Str} {sp : Sp} {dvs : List V} {ds : List Value} {E : XK} {x m : Str} {p pos apos : Pos} {e o : Expr} {es : List Expr} {ta : TE} {t : TA}

theorem run_fn {pins : List (Addr × Obj)} {σ : St} {H : Hp} {s : Shared} {Q : VK} {us : List Value} {vs : List V} (F : FnOk X.prog X.w X.K X.mg X.base CX k f fd ps sp) (hr : Room k X.A) (hb : Binds X.K fd ps ds) (hd : Vals dvs ds) (hx : Passes CX X E)
    (I : Inv X pins σ H s) (r : Vals vs us) (h : sp (vs ++ dvs) H Q E) : wpAny (model X.prog X.w) X.A (call (.ref f) us) (EP X pins σ Q) X.xe s := by
  have r2 : Vals (vs ++ dvs) (us ++ ds) := r.append hd
  have hl : (us ++ ds).length = ps.length := by rw [← r2.length]; exact F.len _ _ _ _ h
  refine wpAny_call (codeAny_mono (F.run X.A X.stack s H ⟨us, []⟩ (us ++ ds) (vs ++ dvs) Q E hr I.env0 (hb s us I.kIn hl) r2 h) fun r s' hq => ?_)
  cases r with
  | error e => exact hx pins σ H s e s' I hq
  | ok fl =>
    cases fl with
    | ret u => exact I.after hq
    | next => exact False.elim hq
    | brk => exact False.elim hq
    | cont => exact False.elim hq

theorem pe_call (F : FnOk X.prog X.w X.K X.mg X.base CX k f fd ps sp) (hr : Room k X.A) (hg : Gl X x) (hm : X.mg x = some (.ref f)) (hk : PySem.W.keepIn X.K (.ref f) = true) (hb : Binds X.K fd ps ds) (hd : Vals dvs ds) (hx : Passes CX X E)
    (ha : PA X (e :: es) t) (hdb : (x == ("__debug__" : Str)) = false := by decide) (he : starEach (e :: es) X.env = (false, eval e X.env) :: starEach es X.env := by rfl) (hpl : (backTo pos (starEach es X.env)).any (·.1) = false := by rfl) :
    PE X (.Call (.Name x p) (e :: es) [] pos) (tCall sp dvs E t) := by
  intro pins s σ H Q I h
  refine wpAny_Call_Name_kw (ld_glob I hg hm ?_ hdb)
  refine PySem.W.callWith_K (h₀ := X.base) I.ok.mod.kin hk (thn (ha pos pins s σ H _ I h) fun us s1 ⟨vs, H1, I1, r, q⟩ => ⟨I1.kIn, ?_⟩) he hpl
  exact run_fn F hr hb hd hx I1 r q


end

/-! ### keywords -/
section
variable {X : Cx} {CX : CXT} {k : Nat} {f C : Addr} {fd : FuncData} {ps ks : List Str} {sp : Sp} {E : XK} {x m : Str} {p pos apos kpos : Pos} {e o : Expr} {es : List Expr} {kws : List Keyword} {te ta : TE} {t tk : TA} {nm : Option Str}

variable {g : List Value → List Value → List Value} {gV : List V → List V → List V}
end

/-! ### a def's body keeps its promise -/
structure FnScope (N P : List Str) (sc : Scope) : Prop where
  kind : sc.kind = .function
  co : sc.isCoroutine = false
  gen : sc.isGenerator = false
  nd : N.Nodup
  pre : N.take P.length = P
  par : ∀ x ∈ P, sc.names.lookup x = some .local ∨ sc.names.lookup x = some .cell
  nofree : ∀ y ∈ sc.names, y.2 ≠ .free

theorem bindL_out {kindOf : Str → Option NameKind} {x : Str} : ∀ {binds : List (Str × Value)} {m : Str → Option Value}, (∀ v, (x, v) ∉ binds) → bindL kindOf binds m x = m x
  | [], _, _ => rfl
  | (n, v) :: r, m, h => by
    unfold bindL
    rw [bindL_out fun w hw => h w (List.mem_cons_of_mem _ hw)]
    split
    · have : x ≠ n := by rintro rfl; exact h v List.mem_cons_self
      simp [this]
    · rfl
theorem bindC_out {kindOf : Str → Option NameKind} {x : Str} : ∀ {binds : List (Str × Value)} {m : Str → Option Value}, (∀ v, (x, v) ∉ binds) → bindC kindOf binds m x = m x
  | [], _, _ => rfl
  | (n, v) :: r, m, h => by
    unfold bindC
    rw [bindC_out fun w hw => h w (List.mem_cons_of_mem _ hw)]
    split
    · rfl
    · have : x ≠ n := by rintro rfl; exact h v List.mem_cons_self
      simp [this]
theorem bindL_get {kindOf : Str → Option NameKind} {x : Str} {v : Value} : ∀ {P : List Str} {vs : List Value} {i : Nat} {m : Str → Option Value}, P.Nodup → P[i]? = some x → vs[i]? = some v → kindOf x = some .local →
    bindL kindOf (P.zip vs) m x = some v
  | [], _, _, _, _, h, _, _ => by simp at h
  | _ :: _, [], _, _, _, _, h, _ => by simp at h
  | p :: P, w :: vs, 0, m, nd, h1, h2, hk => by
    simp at h1 h2; subst h1; subst h2
    show bindL kindOf ((p, w) :: P.zip vs) m p = _
    unfold bindL
    rw [bindL_out fun v hv => (List.nodup_cons.mp nd).1 (List.of_mem_zip hv).1, if_pos hk]
    simp
  | p :: P, w :: vs, i + 1, m, nd, h1, h2, hk => by
    show bindL kindOf ((p, w) :: P.zip vs) m x = _
    unfold bindL
    exact bindL_get (i := i) (List.nodup_cons.mp nd).2 (by simpa using h1) (by simpa using h2) hk
theorem bindC_get {kindOf : Str → Option NameKind} {x : Str} {v : Value} : ∀ {P : List Str} {vs : List Value} {i : Nat} {m : Str → Option Value}, P.Nodup → P[i]? = some x → vs[i]? = some v → kindOf x ≠ some .local →
    bindC kindOf (P.zip vs) m x = some v
  | [], _, _, _, _, h, _, _ => by simp at h
  | _ :: _, [], _, _, _, _, h, _ => by simp at h
  | p :: P, w :: vs, 0, m, nd, h1, h2, hk => by
    simp at h1 h2; subst h1; subst h2
    show bindC kindOf ((p, w) :: P.zip vs) m p = _
    unfold bindC
    rw [bindC_out fun v hv => (List.nodup_cons.mp nd).1 (List.of_mem_zip hv).1, if_neg hk]
    simp
  | p :: P, w :: vs, i + 1, m, nd, h1, h2, hk => by
    show bindC kindOf ((p, w) :: P.zip vs) m x = _
    unfold bindC
    exact bindC_get (i := i) (List.nodup_cons.mp nd).2 (by simpa using h1) (by simpa using h2) hk

noncomputable def start (N : List Str) (vs : List V) : St := vs.map some ++ List.replicate (N.length - vs.length) none

noncomputable def cxOf (CX : CXT) (P : Program) (w : World) (K : PySem.W.Frag) (mg : Str → Option Value) (base : Heap) (N : List Str) (qual : Str) (scope : Scope) (f : Addr) (cd : Value) (A : Around) (outer : List Env) (s : Shared) (H : Hp) (E : XK) : Cx where
  prog := P
  w := w
  K := K
  mg := mg
  base := base
  A := A.deeper (envOfC qual scope s.heap.objs.size f cd)
  N := N
  s₀ := s
  H₀ := H
  env := envOfC qual scope s.heap.objs.size f cd
  outer := outer
  stack := envOfC qual scope s.heap.objs.size f cd :: outer
  ex := []
  calm := true
  fn := fun _ => true
  pn := []
  xe := fun e s' => wpAny (model P w) (A.deeper (envOfC qual scope s.heap.objs.size f cd)) (leaving (envOfC qual scope s.heap.objs.size f cd) e) (fun _ s'' => CX outer H s E e s'') (fun e' s'' => CX outer H s E e' s'') s'

theorem cell_has {sc : Scope} {n : Nat} {x : Str} (h : sc.names.lookup x = some .cell) : ∃ c, (cellsFrom n sc.names []).lookup x = some c := by
  have q := PySem.W.cellsFrom_some sc.names n [] (.inl h)
  exact Option.isSome_iff_exists.mp q

theorem inv_start {CX : CXT} {P : Program} {w : World} {K : PySem.W.Frag} {mg : Str → Option Value} {base : Heap} {N ps : List Str} {qual : Str} {scope : Scope} {f : Addr} {cd : Value} {A : Around} {outer : List Env} {s s1 : Shared} {H : Hp} {E : XK} {us : List Value} {vs : List V}
    (S : FnScope N ps scope) (hd : A.handled = none) (e0 : Env0 P w K mg base A outer s H) (hl : vs.length = ps.length) (r : Vals vs us)
    (x : InCallC s s.heap.objs.size (bindL (envOfC qual scope s.heap.objs.size f cd).kindOf (ps.zip us) fun _ => none) (cellsFrom (s.heap.objs.size + 1) scope.names []) (bindC (envOfC qual scope s.heap.objs.size f cd).kindOf (ps.zip us) fun _ => none) s1) :
    Inv (cxOf CX P w K mg base N qual scope f cd A outer s H E) [] (start N vs) H s1 := by
  have hpl : ps.length ≤ N.length := by have := congrArg List.length S.pre; rw [List.length_take] at this; omega
  obtain ⟨h1, tk, rfl, hk⟩ := x.done
  have noA : ∀ b : Addr, b ∉ (cxOf CX P w K mg base N qual scope f cd A outer s H E).ex := fun b z => absurd (show b ∈ ([] : List Addr) from z) (by simp)
  refine ⟨⟨e0.mod, S.kind, rfl, rfl, Nat.le_refl _, fun y z c h1 h2 => ?_, fun y hy => ?_, fun y c _ h => ?_, fun _ => hd, Around.frames_deeper e0.frames, .inr ⟨rfl, rfl⟩, fun b z => absurd z (noA b), e0.bs, e0.bsz, fun b _ _ => noA b, fun b z => absurd z (noA b), e0.funs, e0.frf⟩,
    rfl, e0.bare, Un.kept hk, ⟨_, x.toInCall.ns, fun i y v h1 h2 h3 => ?_⟩, fun y c h => ⟨_, x.cell y c h⟩, e0.hok.fresh (Nat.le_refl _), fun y c h => ?_, fun p hp => absurd (show p ∈ ([] : List (Addr × Obj)) from hp) (by simp), e0.hok.kept hk, ?_⟩
  · exact name_of_addr x.apart (PySem.mem_of_lookup h1) (PySem.mem_of_lookup h2)
  · have hy : scope.names.lookup y = some .cell ∨ scope.names.lookup y = some .free := hy
    rcases hy with hy | hy
    · exact cell_has hy
    · exact absurd rfl (S.nofree _ (PySem.mem_of_lookup hy))
  · exact Nat.le_of_lt (x.above y c (PySem.mem_of_lookup h))
  · have hi : i < vs.length := by
      unfold start at h2
      by_cases hi : i < vs.length
      · exact hi
      · rw [List.getElem?_append_right (by simpa using hi)] at h2
        rw [List.getElem?_replicate] at h2
        split at h2 <;> cases h2
    have ha : vs[i]? = some v := by
      unfold start at h2
      rw [List.getElem?_append_left (by simpa using hi), List.getElem?_map] at h2
      cases e : vs[i]? with
      | none => rw [e] at h2; cases h2
      | some a => rw [e] at h2; cases h2; rfl
    obtain ⟨u, hu, rv⟩ := r.get ha
    have hp : ps[i]? = some y := by
      rw [← S.pre, List.getElem?_take_of_lt (by omega)]; exact h1
    have ndP : ps.Nodup := by rw [← S.pre]; exact S.nd.sublist (List.take_sublist _ _)
    refine ⟨u, rv, ?_⟩
    rcases S.par y (List.mem_of_getElem? hp) with k | k
    · exact .inl ⟨k, bindL_get ndP hp hu k⟩
    · obtain ⟨c, e⟩ := cell_has (n := s.heap.objs.size + 1) k
      refine .inr ⟨.inl k, c, e, ?_⟩
      have q := x.cell y c e
      rw [bindC_get ndP hp hu (by show scope.names.lookup y ≠ _; rw [k]; decide)] at q
      exact q
  · exact e0.hok.fresh (Nat.le_of_lt (x.above y c (PySem.mem_of_lookup h)))
  · unfold start
    show _ = N.length
    rw [List.length_append, List.length_map, List.length_replicate]
    omega

theorem fn_of {CX : CXT} {P : Program} {w : World} {K : PySem.W.Frag} {mg : Str → Option Value} {base : Heap} {k : Nat} {f : Addr} {name qual : Str} {params : Arguments} {body : List Stmt} {scope : Scope} {dV kV doc pm cdv ct oc : Value} {an od : Option Addr}
    {osl : Array (Option Value)} {N ps : List Str} {sp : Sp} (lk : K.lookup f = some ⟨oc, od, .func (PySem.W.fnOf name qual params body scope dV kV doc pm an cdv ct), osl⟩) (hcd : PySem.W.codeIn K cdv qual = true) (S : FnScope N ps scope)
    (len : ∀ vs H Q E, sp vs H Q E → vs.length = ps.length)
    (hbody : ∀ (A : Around) (outer : List Env) (s : Shared) (H : Hp) (vs : List V) (Q : VK) (E : XK), Room k (A.deeper (envOfC qual scope s.heap.objs.size f cdv)) → sp vs H Q E →
      ∃ t, PSs (cxOf CX P w K mg base N qual scope f cdv A outer s H E) body t ∧ t { nx := fun _ H' => Q .non H', rt := Q } (start N vs) H) :
    FnOk P w K mg base CX (k + 1) f (PySem.W.fnOf name qual params body scope dV kV doc pm an cdv ct) ps sp := by
  refine ⟨len, fun A outer s H args us vs Q E hr e0 hb r hsp => ?_⟩
  have hl := len _ _ _ _ hsp
  have KX : K.In s.heap := e0.mod.kin.keeps fun b o e => (e0.bs b o e).1
  have lim : s.heap.NoLimit := e0.mod.nolimit.keeps fun b o e => (e0.bs b o e).1
  have hkind : ∀ y ∈ ps.zip us, scope.names.lookup y.1 = some .local ∨ (scope.names.lookup y.1 = some .cell ∧ ((cellsFrom (s.heap.objs.size + 1) scope.names []).lookup y.1).isSome = true) := fun ⟨n, v⟩ hy => by
    rcases S.par n (List.of_mem_zip hy).1 with q | q
    · exact .inl q
    · exact .inr ⟨q, PySem.W.cellsFrom_some _ _ _ (.inl q)⟩
  refine codeAny_call_function hr.depth (KX _ _ lk) rfl S.co S.gen rfl (PySem.W.codeRec_of KX hcd) (hb _ _ _ _ ?_)
  refine wpAny_newFunctionEnv_cells S.kind hkind fun env he s1 x => ?_
  subst he
  refine ⟨lim.keeps x.toInCall.keep, codeAny_func ?_⟩
  obtain ⟨t, ht, hq⟩ := hbody A outer s H vs Q E (hr.deeper _) hsp
  have I : Inv (cxOf CX P w K mg base N qual scope f cdv A outer s H E) [] (start N vs) H s1 := inv_start S hr.hd e0 hl r x
  refine wpAny_mono (ht [] s1 (start N vs) H _ I hq) (fun fl s' hs => ?_) fun e s' hs => hs
  have fin : ∀ {σ' : St} {H' : Hp} {v : V} {u : Value}, Inv (cxOf CX P w K mg base N qual scope f cdv A outer s H E) [] σ' H' s' → RelV v u → Q v H' → CE outer P w H s Q u s' :=
    fun {σ' H' v u} J rv q => ⟨v, H', J.os, J.bare, J.base, J.hok, rv, q⟩
  cases fl with
  | ret u =>
    obtain ⟨v, σ', H', J, rv, q⟩ := hs
    exact fin J rv q
  | next =>
    obtain ⟨σ', H', J, q⟩ := hs
    exact fin (v := V.non) (u := Value.none) J rfl q
  | brk =>
    obtain ⟨_, _, _, q⟩ := hs
    exact False.elim q
  | cont =>
    obtain ⟨_, _, _, q⟩ := hs
    exact False.elim q
end L2

namespace L2
open PySem PySem.Spec PyProof.Rows
section
variable {X : Cx} {x : Str} {p pos : Pos} {e : Expr} {es : List Expr} {t : TA} {id T : String} {r : List V → Hp → VK → Prop}

noncomputable def tCB (r : List V → Hp → VK → Prop) (t : TA) : TE := fun σ H Q => t σ H fun vs H1 => r vs H1 Q
theorem pe_callB (hc : CallR X (.builtin id) r) (hg : Gl X x) (hm : X.mg x = none) (hv : bootBuiltins x = some (.builtin id)) (ha : PA X (e :: es) t) (hn : x ≠ "__name__" := by decide) (hdb : (x == ("__debug__" : Str)) = false := by decide)
    (he : starEach (e :: es) X.env = (false, eval e X.env) :: starEach es X.env := by rfl) (hpl : (backTo pos (starEach es X.env)).any (·.1) = false := by rfl) : PE X (.Call (.Name x p) (e :: es) [] pos) (tCB r t) := by
  intro pins s σ H Q I h
  refine wpAny_Call_Name_kw (ld_blt I hg hm hv ?_ hn hdb)
  exact PyProof.Rows.callWith_builtin1 (thn (ha pos pins s σ H _ I h) fun us s1 ⟨vs, H1, I1, r1, q1⟩ => hc pins s1 σ H1 vs us Q I1 r1 q1) he hpl
theorem pe_callTy (hc : CallR X (.type T) r) (hg : Gl X x) (hm : X.mg x = none) (hv : bootBuiltins x = some (.type T)) (ha : PA X (e :: es) t) (hn : x ≠ "__name__" := by decide) (hdb : (x == ("__debug__" : Str)) = false := by decide)
    (he : starEach (e :: es) X.env = (false, eval e X.env) :: starEach es X.env := by rfl) (hpl : (backTo pos (starEach es X.env)).any (·.1) = false := by rfl) : PE X (.Call (.Name x p) (e :: es) [] pos) (tCB r t) := by
  intro pins s σ H Q I h
  refine wpAny_Call_Name_kw (ld_blt I hg hm hv ?_ hn hdb)
  exact PyProof.Rows.callWith_type1 (thn (ha pos pins s σ H _ I h) fun us s1 ⟨vs, H1, I1, r1, q1⟩ => hc pins s1 σ H1 vs us Q I1 r1 q1) he hpl
end
end L2

namespace HT
open PySem PyProof.Rows

noncomputable def lexLt : List Int → List Int → Bool
  | [], [] => false
  | [], _ :: _ => true
  | _ :: _, [] => false
  | x :: xs, y :: ys => if x = y then lexLt xs ys else decide (x < y)
theorem lexLt_cons (x y : Int) (xs ys : List Int) : lexLt (x :: xs) (y :: ys) = if x = y then lexLt xs ys else decide (x < y) := rfl
theorem lexLt_nil_nil : lexLt [] [] = false := rfl
theorem lexLt_nil_cons (y : Int) (ys : List Int) : lexLt [] (y :: ys) = true := rfl
theorem lexLt_cons_nil (x : Int) (xs : List Int) : lexLt (x :: xs) [] = false := rfl


section
open PySem.SeqAt
open PySem.AutoSeq1 (wpAny_loadPart')
open PySem.MeetsSeq PySem.MeetsSeq2 PySem.MeetsSeq3

end

section
variable {prog : Program} {w : World} {A : Around} {E : Value → Shared → Prop} {s : Shared}



/-! ### t[a:b], not the whole -/
noncomputable def sIx (n d : Nat) : Option Int → Nat
  | none => d
  | some v => if v < 0 then (v + (n : Int)).toNat else min v.toNat n
theorem sIx_none (n d : Nat) : sIx n d none = d := rfl

end
end HT

namespace L2
open PySem PySem.Spec PyProof.Rows

/-! ### the parts of a slice -/
noncomputable abbrev TO := St → Hp → (Option Int → Hp → Prop) → Prop
noncomputable def PO (X : Cx) (e : Option Expr) (t : TO) : Prop :=
  ∀ (pins : List (Addr × Obj)) (s : Shared) (σ : St) (H : Hp) (Q : Option Int → Hp → Prop), Inv X pins σ H s → t σ H Q →
    wpAny (model X.prog X.w) X.A (evalPart e X.env) (fun u s' => ∃ o H', Inv X pins σ H' s' ∧ IsPart u o ∧ Q o H') X.xe s
noncomputable def tNoPart : TO := fun _ H Q => Q none H
noncomputable def tPart (t : TE) : TO := fun σ H Q => t σ H fun x H1 => ∃ i, x = .int i ∧ Q (some i) H1


section
variable {X : Cx} {e : Expr} {te : TE} {lo hi : Option Expr} {tl th : TO} {pos p2 : Pos}

theorem po_none : PO X none tNoPart := by
  intro pins s σ H Q I h
  rw [evalPart_none]
  exact wpAny_pure ⟨none, H, I, .none, h⟩
theorem po_some (h : PE X e te) : PO X (some e) (tPart te) := by
  intro pins s σ H Q I hw
  rw [evalPart_some]
  refine thn (h pins s σ H _ I hw) fun u s1 ⟨x, H1, I1, r1, q1⟩ => ?_
  obtain ⟨i, rfl, q⟩ := q1
  obtain ⟨t, rfl⟩ := r1
  exact ⟨some i, H1, I1, .int i t, q⟩

noncomputable def SlR (X : Cx) (r : V → Option Int → Option Int → Hp → VK → Prop) : Prop :=
  ∀ (pins : List (Addr × Obj)) (s : Shared) (σ : St) (H : Hp) (x : V) (v vl vu : Value) (lo hi : Option Int) (sl : Addr) (Q : VK), Inv X pins σ H s → RelV x v → s.heap.IsSliceOf sl vl vu .none → IsPart vl lo → IsPart vu hi → r x lo hi H Q →
    ∃ T id, typeLookup (.type T) "__getitem__" = pure (some (.builtin id)) ∧ s.TypeIs v T ∧ wpAny (model X.prog X.w) X.A (getItem v (.ref sl)) (EP X pins σ Q) X.xe s
theorem SlR.or {r r' : V → Option Int → Option Int → Hp → VK → Prop} (h : SlR X r) (h' : SlR X r') : SlR X (fun x lo hi H Q => r x lo hi H Q ∨ r' x lo hi H Q) := by
  intro pins s σ H x v vl vu lo hi sl Q I rx hs pl pu q
  rcases q with q | q
  · exact h pins s σ H x v vl vu lo hi sl Q I rx hs pl pu q
  · exact h' pins s σ H x v vl vu lo hi sl Q I rx hs pl pu q
noncomputable def tSl (r : V → Option Int → Option Int → Hp → VK → Prop) (te : TE) (tl th : TO) : TE := fun σ H Q => te σ H fun x H1 => tl σ H1 fun l H2 => th σ H2 fun u H3 => r x l u H3 Q
theorem pe_slice {r : V → Option Int → Option Int → Hp → VK → Prop} (hr : SlR X r) (he : PE X e te) (hl : PO X lo tl) (hu : PO X hi th) : PE X (.Subscript e (.Slice lo hi none p2) pos) (tSl r te tl th) := by
  intro pins s σ H Q I h
  refine Subscript_ (thn (he pins s σ H _ I h) fun v s1 ⟨x, H1, I1, r1, q1⟩ => ?_)
  refine wpAny_Slice (thn (hl pins s1 σ H1 _ I1 q1) fun vl s2 ⟨l, H2, I2, pl, q2⟩ => thn (hu pins s2 σ H2 _ I2 q2) fun vu s3 ⟨u, H3, I3, pu, q3⟩ => ?_)
  rw [evalPart_none]
  refine wpAny_pure ?_
  have I4 : Inv X pins σ H3 { s3 with heap := s3.heap.push { cls := .type "slice", data := .fields #[vl, vu, .none] } } := I3.kept (t' := s3.toks) fun b ob q => Heap.get?_push_of_some _ q
  obtain ⟨T, id, hT, ht, hg⟩ := hr pins { s3 with heap := s3.heap.push { cls := .type "slice", data := .fields #[vl, vu, .none] } } σ H3 x v vl vu l u s3.heap.objs.size Q I4 r1 (Heap.IsSliceOf.new ..) pl pu q3
  show wpAny (model X.prog X.w) X.A (subscriptTail e (.Slice lo hi none p2) v (.ref s3.heap.objs.size)) (EP X pins σ Q) X.xe { s3 with heap := s3.heap.push { cls := .type "slice", data := .fields #[vl, vu, .none] } }
  exact tail_any (ops := [.ref s3.heap.objs.size, v]) ht hT hg (by with_unfolding_all rfl)

noncomputable def cutV (xs : List V) (lo hi : Option Int) : List V := (xs.drop (HT.sIx xs.length 0 lo)).take (HT.sIx xs.length xs.length hi - HT.sIx xs.length 0 lo)
theorem cutV_length (xs : List V) (lo hi : Option Int) : (cutV xs lo hi).length ≤ xs.length := by
  unfold cutV
  rw [List.length_take, List.length_drop]
  omega
/-! ### t < u, t + u -/
end
end L2

namespace L2
open PySem PySem.Spec PyProof.Rows

/-! ### places -/
noncomputable def ixN (n : Nat) (i : Int) : Option Nat := if 0 ≤ i then (if i < n then some i.toNat else none) else if -(n : Int) ≤ i then some (i + n).toNat else none
noncomputable def atI {α : Type} (xs : List α) (i : Int) : Option α := (ixN xs.length i).bind fun j => xs[j]?
theorem ixN_seq {n : Nat} {i : Int} {j : Nat} (h : ixN n i = some j) : seqIndex? i n = some j ∧ j < n ∧ -(n : Int) ≤ i ∧ i < n := by
  unfold ixN at h
  by_cases h0 : 0 ≤ i
  · rw [if_pos h0] at h
    by_cases h1 : i < n
    · rw [if_pos h1] at h
      have e : i.toNat = j := Option.some.inj h
      exact ⟨by rw [seqIndex_of h0 h1, e], by omega, by omega, h1⟩
    · rw [if_neg h1] at h; cases h
  · rw [if_neg h0] at h
    by_cases h1 : -(n : Int) ≤ i
    · rw [if_pos h1] at h
      have e : (i + n).toNat = j := Option.some.inj h
      exact ⟨by rw [seqIndex_neg (by omega) h1, e], by omega, h1, by omega⟩
    · rw [if_neg h1] at h; cases h
theorem atI_get {α : Type} {xs : List α} {i : Int} {v : α} (h : atI xs i = some v) : ∃ j, seqIndex? i xs.length = some j ∧ xs[j]? = some v ∧ j < xs.length ∧ -(xs.length : Int) ≤ i ∧ i < xs.length := by
  unfold atI at h
  cases e : ixN xs.length i with
  | none => rw [e] at h; cases h
  | some j =>
    rw [e] at h
    obtain ⟨h1, h2, h3, h4⟩ := ixN_seq e
    exact ⟨j, h1, h, h2, h3, h4⟩

/-! ### what may be subscripted -/
noncomputable def PlainIx (b : Expr) : Prop := ∀ o i, subscripted b false o i = operate [o, i] (getItem o i)
noncomputable def IxR (X : Cx) (r : R2) : Prop :=
  ∀ (value slice : Expr) (pins : List (Addr × Obj)) (s : Shared) (σ : St) (H : Hp) (x y : V) (v u : Value) (Q : VK), Inv X pins σ H s → RelV x v → RelV y u → r x y H Q →
    subscripted slice false v u = operate [v, u] (getItem v u) → wpAny (model X.prog X.w) X.A (subscriptTail value slice v u) (EP X pins σ Q) X.xe s
noncomputable def MtR (X : Cx) (id : String) (r : V → List V → Hp → VK → Prop) : Prop :=
  ∀ (pins : List (Addr × Obj)) (s : Shared) (σ : St) (H : Hp) (x : V) (xs : List V) (v : Value) (us : List Value) (Q : VK), Inv X pins σ H s → RelV x v → Vals xs us → r x xs H Q →
    wpAny (model X.prog X.w) X.A (call (.builtin id) (v :: us)) (EP X pins σ Q) X.xe s
section
variable {X : Cx} {a b : Expr} {ta tb : TE} {pos : Pos}
theorem IxR.or {r r' : R2} (h : IxR X r) (h' : IxR X r') : IxR X (fun x y H Q => r x y H Q ∨ r' x y H Q) := by
  intro value slice pins s σ H x y v u Q I rx ry q hs
  rcases q with q | q
  · exact h value slice pins s σ H x y v u Q I rx ry q hs
  · exact h' value slice pins s σ H x y v u Q I rx ry q hs
theorem pe_ix {r : R2} (hr : IxR X r) (ha : PE X a ta) (hb : PE X b tb) (hs : PlainIx b) : PE X (.Subscript a b pos) (tOp r ta tb) := by
  intro pins s σ H Q I h
  exact Subscript_ (binT ha hb I h fun v u s2 x y H2 I2 rx ry q => hr a b pins s2 σ H2 x y v u Q I2 rx ry q (hs _ _))

noncomputable def rIxL (K : PySem.W.Frag) : R2 := fun x y H Q => ∃ p xs i v, x = .ref p ∧ y = .int i ∧ SqL K H p xs ∧ atI xs i = some v ∧ Q v H
noncomputable def rIxT (K : PySem.W.Frag) : R2 := fun x y H Q => ∃ p xs i v, x = .ref p ∧ y = .int i ∧ SqT K H p xs ∧ atI xs i = some v ∧ Q v H
noncomputable def rIxS : R2 := fun x y H Q => ∃ z i c, x = .str z ∧ y = .int i ∧ z.length ≤ sizeLine ∧ atI z.cps.toList i = some c ∧ Q (.str ⟨#[c]⟩) H
theorem ix_list : IxR X (rIxL X.K) := by
  intro value slice pins s σ H x y v u Q I rx ry h hs
  obtain ⟨p, xs, i, z, rfl, rfl, hq, he, q⟩ := h
  cases rx
  obtain ⟨t, rfl⟩ := ry
  obtain ⟨its, r, pl, hz⟩ := I.list hq
  obtain ⟨j, h1, h2, h3, h4, h5⟩ := atI_get he
  obtain ⟨w, ew, rw'⟩ := r.get h2
  have hl := r.length
  have hn := line63
  have fin : EP X pins σ Q w s := ⟨z, H, I, rw', q⟩
  by_cases h0 : 0 ≤ i
  · have hj : i.toNat = j := by
      rw [seqIndex_of h0 h5] at h1
      exact Option.some.inj h1
    exact item_listR pl.isList h0 (by omega) (by rw [hj]; simpa using ew) fin hs
  · have hj : (i + (its.toArray.size : Int)).toNat = j := by
      rw [seqIndex_neg (by omega) h4] at h1
      rw [List.size_toArray, ← hl]
      exact Option.some.inj h1
    exact subscriptTail_builtinR (x := w) pl.isList.typeIs slot_list_getitem.lookup
      (wpAny_getItem_list_neg (Q := fun r s' => r = w ∧ EP X pins σ Q r s') pl.isList (by omega) (by rw [List.size_toArray] <;> omega) (by omega) (by rw [hj]; simpa using ew) ⟨rfl, fin⟩) hs
theorem ix_tup : IxR X (rIxT X.K) := by
  intro value slice pins s σ H x y v u Q I rx ry h hs
  obtain ⟨p, xs, i, z, rfl, rfl, hq, he, q⟩ := h
  cases rx
  obtain ⟨t, rfl⟩ := ry
  obtain ⟨its, r, pl, hz⟩ := I.tuple hq
  obtain ⟨j, h1, h2, h3, h4, h5⟩ := atI_get he
  obtain ⟨w, ew, rw'⟩ := r.get h2
  have hl := r.length
  have hn := line63
  have fin : EP X pins σ Q w s := ⟨z, H, I, rw', q⟩
  exact subscriptTail_builtinR (x := w) pl.typeIs slot_tuple_getitem.lookup
    (getItem_tuple (j := j) (Q := fun r s' => r = w ∧ EP X pins σ Q r s') pl (by omega) (by omega) (by rw [List.size_toArray, ← hl]; exact h1) (by simpa using ew) ⟨rfl, fin⟩) hs
theorem ix_str : IxR X rIxS := by
  intro value slice pins s σ H x y v u Q I rx ry h hs
  obtain ⟨z, i, c, rfl, rfl, hz, he, q⟩ := h
  obtain ⟨t, rfl⟩ := rx
  obtain ⟨t', rfl⟩ := ry
  obtain ⟨j, h1, h2, h3, h4, h5⟩ := atI_get he
  have hl : z.cps.toList.length = z.length := by simp [Str.length]
  rw [hl] at h1 h4 h5
  have hn := line63
  exact tail_any (typeIs_str s z t) slot_str_getitem.lookup (getItem_str (c := c) (by
    have e1 : decide (i < -(2 ^ 63 : Int)) = false := decide_eq_false (by omega)
    have e2 : decide (i ≥ 2 ^ 63) = false := decide_eq_false (by omega)
    rw [e1, e2, Bool.or_false]) (by rw [h1]; simpa using h2) ⟨.str ⟨#[c]⟩, H, I.tok _, ⟨_, rfl⟩, q⟩) hs
noncomputable def rIx (K : PySem.W.Frag) : R2 := fun x y H Q => rIxL K x y H Q ∨ rIxT K x y H Q ∨ rIxS x y H Q
theorem ix_seq : IxR X (rIx X.K) := ix_list.or (ix_tup.or ix_str)

/-! ### xs[i] = v, any sign -/
/-! ### slices -/
theorem slice_bounds (lo hi : Option Int) (n : Nat) : (sliceBounds lo hi none n).1 = ((HT.sIx n 0 lo : Nat) : Int) ∧ (sliceBounds lo hi none n).2.1 = ((HT.sIx n n hi : Nat) : Int) ∧ (sliceBounds lo hi none n).2.2 = 1 := by
  refine ⟨?_, ?_, rfl⟩
  · cases lo with
    | none => simp [sliceBounds, HT.sIx]
    | some i =>
      simp only [sliceBounds, HT.sIx, Option.getD_none, show (1 : Int) > 0 by decide, if_true]
      by_cases h : i < 0
      · simp only [h, if_true] <;> omega
      · simp only [h, if_false] <;> omega
  · cases hi with
    | none => simp [sliceBounds, HT.sIx]
    | some i =>
      simp only [sliceBounds, HT.sIx, Option.getD_none, show (1 : Int) > 0 by decide, if_true]
      by_cases h : i < 0
      · simp only [h, if_true] <;> omega
      · simp only [h, if_false] <;> omega
theorem slicePick_cut (its : List Value) (lo hi : Option Int) : slicePick its.toArray lo hi none = ((its.drop (HT.sIx its.length 0 lo)).take (HT.sIx its.length its.length hi - HT.sIx its.length 0 lo)).toArray := by
  obtain ⟨h1, h2, h3⟩ := slice_bounds lo hi its.toArray.size
  unfold slicePick
  rw [h1, h2, h3]
  simp only [sliceRange_one, pick_run, List.size_toArray] <;> rfl
noncomputable def rSlL (K : PySem.W.Frag) : V → Option Int → Option Int → Hp → VK → Prop := fun x lo hi H Q => ∃ a xs, x = .ref a ∧ SqL K H a xs ∧ ∀ p, H p = none → Q (.ref p) (upd H p (.lst (cutV xs lo hi)))
theorem sl_list : SlR X (rSlL X.K) := by
  intro pins s σ H x v vl vu lo hi sl Q I rx hs pl pu h
  obtain ⟨a, xs, rfl, hx, q⟩ := h
  cases rx
  obtain ⟨its, r, ht, hz⟩ := I.list hx
  have hlen := r.length
  refine ⟨"list", _, slot_list_getitem.lookup, ht.isList.typeIs, ?_⟩
  refine wpAny_getItem_list_slice ht.isList hs pl pu .none (by simp) ?_ (by rw [List.size_toArray] <;> omega)
  rw [slicePick_cut, ← hlen]
  refine ⟨.ref s.heap.objs.size, _, I.laid (t' := s.toks) (o := .lst (cutV xs lo hi)) (fun b ob q => Heap.get?_push_of_some _ q) (Nat.le_refl _) ?_, rfl, q _ (I.hok.fresh (Nat.le_refl _))⟩
  exact ⟨Nat.le_trans (cutV_length xs lo hi) hz, _, 0, (r.drop (HT.sIx xs.length 0 lo)).take (HT.sIx xs.length xs.length hi - HT.sIx xs.length 0 lo), Heap.get?_push_size _ rfl⟩

/-! ### in, not in: flat items -/
noncomputable def flatV : V → Bool
  | .non => true
  | .bl _ => true
  | .int _ => true
  | .str _ => true
  | _ => false
noncomputable def eqV : V → V → Bool
  | .non, .non => true
  | .bl a, .bl b => a == b
  | .bl a, .int b => (if a then 1 else 0) == b
  | .int a, .bl b => a == (if b then 1 else 0)
  | .int a, .int b => a == b
  | .str a, .str b => a == b
  | _, _ => false
theorem eqAt_V {A : Around} {s : Shared} {y x : V} {u v : Value} (ry : RelV y u) (rx : RelV x v) (fy : flatV y = true) (fx : flatV x = true) : SeqAt.EqAt A s u v (eqV y x) := by
  cases y with
  | non =>
    cases ry
    cases x with
    | non => cases rx; exact SeqAt.EqAt.same _
    | bl b => cases rx; exact SeqAt.EqAt.none_bool b
    | int b => obtain ⟨t, rfl⟩ := rx; exact SeqAt.EqAt.none_int b t
    | str b => obtain ⟨t, rfl⟩ := rx; exact SeqAt.EqAt.none_str b t
    | _ => exact absurd (show false = true from fx) Bool.false_ne_true
  | bl a =>
    cases ry
    cases x with
    | non => cases rx; exact SeqAt.EqAt.bool_none a
    | bl b => cases rx; exact SeqAt.EqAt.bool_bool a b
    | int b => obtain ⟨t, rfl⟩ := rx; exact SeqAt.EqAt.bool_int a b t
    | str b => obtain ⟨t, rfl⟩ := rx; exact SeqAt.EqAt.bool_str a b t
    | _ => exact absurd (show false = true from fx) Bool.false_ne_true
  | int a =>
    obtain ⟨t', rfl⟩ := ry
    cases x with
    | non => cases rx; exact SeqAt.EqAt.int_none a t'
    | bl b => cases rx; exact SeqAt.EqAt.int_bool a t' b
    | int b => obtain ⟨t, rfl⟩ := rx; exact SeqAt.EqAt.int_int a t' b t
    | str b => obtain ⟨t, rfl⟩ := rx; exact SeqAt.EqAt.int_str a t' b t
    | _ => exact absurd (show false = true from fx) Bool.false_ne_true
  | str a =>
    obtain ⟨t', rfl⟩ := ry
    cases x with
    | non => cases rx; exact SeqAt.EqAt.str_none a t'
    | bl b => cases rx; exact SeqAt.EqAt.str_bool a t' b
    | int b => obtain ⟨t, rfl⟩ := rx; exact SeqAt.EqAt.str_int a t' b t
    | str b => obtain ⟨t, rfl⟩ := rx; exact SeqAt.EqAt.str_str a t' b t
    | _ => exact absurd (show false = true from fx) Bool.false_ne_true
  | _ => exact absurd (show false = true from fy) Bool.false_ne_true
noncomputable def eqU (x : V) (u : Value) : Bool := match u with
  | .none => eqV .non x
  | .bool b => eqV (.bl b) x
  | .int i _ => eqV (.int i) x
  | .str z _ => eqV (.str z) x
  | _ => false
theorem eqU_of {x y : V} {u : Value} (r : RelV y u) (f : flatV y = true) : eqU x u = eqV y x := by
  cases y with
  | non => cases r; rfl
  | bl b => cases r; rfl
  | int i => obtain ⟨t, rfl⟩ := r; rfl
  | str z => obtain ⟨t, rfl⟩ := r; rfl
  | _ => exact absurd (show false = true from f) Bool.false_ne_true
theorem any_eqU {x : V} : ∀ {xs : List V} {us : List Value}, Vals xs us → xs.all flatV = true → us.any (eqU x) = xs.any fun y => eqV y x
  | _, _, .nil, _ => rfl
  | y :: xs, u :: us, .cons r t, f => by
    rw [List.all_cons, Bool.and_eq_true] at f
    rw [List.any_cons, List.any_cons, eqU_of r f.1, any_eqU t f.2]
theorem mem_eqAt {A : Around} {s : Shared} {x : V} {v : Value} (rx : RelV x v) (fx : flatV x = true) : ∀ {xs : List V} {us : List Value}, Vals xs us → xs.all flatV = true → ∀ u ∈ us, SeqAt.EqAt A s u v (eqU x u)
  | _, _, .nil, _ => fun u hu => by cases hu
  | y :: xs, u :: us, .cons r t, f => fun u' hu => by
    rw [List.all_cons, Bool.and_eq_true] at f
    rcases List.mem_cons.mp hu with rfl | hu
    · rw [eqU_of r f.1]; exact eqAt_V r rx f.1 fx
    · exact mem_eqAt rx fx t f.2 u' hu
noncomputable def inV (x : V) (xs : List V) : Bool := xs.any fun y => eqV y x
noncomputable def rIn (K : PySem.W.Frag) (neg : Bool) : R2 := fun x y H Q => ∃ p xs, y = .ref p ∧ (SqL K H p xs ∨ SqT K H p xs) ∧ flatV x = true ∧ xs.all flatV = true ∧ Q (.bl (if neg then !inV x xs else inV x xs)) H
theorem op_in_seq : OpR X (compareOp .In) (rIn X.K false) := by
  intro pins s σ H x y v u Q I rx ry h
  obtain ⟨p, xs, rfl, hq, fx, fs, q⟩ := h
  cases ry
  rcases hq with hq | hq
  · obtain ⟨its, r, pl, hz⟩ := I.list hq
    refine SeqAt.in_listAt (eqU x) pl.isList (fun w hw => mem_eqAt rx fx r fs w (by simpa using hw)) ⟨.bl _, H, I, rfl, ?_⟩
    rw [show its.toArray.any (eqU x) = its.any (eqU x) by simp, any_eqU r fs]
    exact q
  · obtain ⟨its, r, pl, hz⟩ := I.tuple hq
    refine SeqAt.in_tupleAt (eqU x) pl (fun w hw => mem_eqAt rx fx r fs w (by simpa using hw)) ⟨.bl _, H, I, rfl, ?_⟩
    rw [show its.toArray.any (eqU x) = its.any (eqU x) by simp, any_eqU r fs]
    exact q
theorem op_notIn_seq : OpR X (compareOp .NotIn) (rIn X.K true) := by
  intro pins s σ H x y v u Q I rx ry h
  obtain ⟨p, xs, rfl, hq, fx, fs, q⟩ := h
  cases ry
  rcases hq with hq | hq
  · obtain ⟨its, r, pl, hz⟩ := I.list hq
    refine SeqAt.notIn_listAt (eqU x) pl.isList (fun w hw => mem_eqAt rx fx r fs w (by simpa using hw)) ⟨.bl _, H, I, rfl, ?_⟩
    rw [show its.toArray.any (eqU x) = its.any (eqU x) by simp, any_eqU r fs]
    exact q
  · obtain ⟨its, r, pl, hz⟩ := I.tuple hq
    refine SeqAt.notIn_tupleAt (eqU x) pl (fun w hw => mem_eqAt rx fx r fs w (by simpa using hw)) ⟨.bl _, H, I, rfl, ?_⟩
    rw [show its.toArray.any (eqU x) = its.any (eqU x) by simp, any_eqU r fs]
    exact q
theorem op_notIn_str : OpR X (compareOp .NotIn) (fun x y H Q => ∃ i j, x = .str i ∧ y = .str j ∧ Q (.bl (!(!(Builtin.Str.occurrences j i 0 j.length 1).isEmpty))) H) := by
  intro pins s σ H x y v u Q I rx ry h
  obtain ⟨i, j, rfl, rfl, q⟩ := h
  obtain ⟨t, rfl⟩ := rx
  obtain ⟨t', rfl⟩ := ry
  exact notIn_str ⟨.bl _, H, I, rfl, q⟩

/-! ### len, list(x), tuple(x) of any list or tuple that is read -/
theorem call_len_seq : CallR X (.builtin "len") (fun xs H Q => ∃ p ys, xs = [.ref p] ∧ (SqL X.K H p ys ∨ SqT X.K H p ys) ∧ Q (.int ys.length) H) := by
  intro pins s σ H xs us Q I r h
  obtain ⟨p, ys, rfl, hq, q⟩ := h
  obtain ⟨u, rfl, rx⟩ := vals1 r
  cases rx
  have hn := line63
  rcases hq with hq | hq
  · obtain ⟨its, r', pl, hz⟩ := I.list hq
    have hlen := r'.length
    exact Calls.call_len_list pl.isList (by simp only [List.size_toArray] <;> omega) ⟨.int ys.length, H, I.tok _, ⟨s.toks + 1, by rw [List.size_toArray, hlen]⟩, q⟩
  · obtain ⟨its, r', pl, hz⟩ := I.tuple hq
    have hlen := r'.length
    exact len_tuple pl (by simp only [List.size_toArray] <;> omega) ⟨.int ys.length, H, I.tok _, ⟨s.toks + 1, by rw [List.size_toArray, hlen]⟩, q⟩
theorem call_len_str : CallR X (.builtin "len") (fun xs H Q => ∃ z, xs = [.str z] ∧ z.length ≤ sizeLine ∧ Q (.int z.length) H) := by
  intro pins s σ H xs us Q I r h
  obtain ⟨z, rfl, hz, q⟩ := h
  obtain ⟨u, rfl, t, rfl⟩ := vals1 r
  have hn := line63
  exact len_str (by omega) ⟨.int z.length, H, I.tok _, ⟨_, rfl⟩, q⟩
theorem CallR.or {f : Value} {r r' : List V → Hp → VK → Prop} (h : CallR X f r) (h' : CallR X f r') : CallR X f (fun xs H Q => r xs H Q ∨ r' xs H Q) := by
  intro pins s σ H xs us Q I rs q
  rcases q with q | q
  · exact h pins s σ H xs us Q I rs q
  · exact h' pins s σ H xs us Q I rs q
theorem call_tuple_of : CallR X (.type "tuple") (fun xs H Q => ∃ p ys, xs = [.ref p] ∧ ((SqL X.K H p ys ∧ ∀ l, H l = none → Q (.ref l) (upd H l (.tup ys))) ∨ (SqT X.K H p ys ∧ Q (.ref p) H))) := by
  intro pins s σ H xs us Q I r h
  obtain ⟨p, ys, rfl, h⟩ := h
  obtain ⟨u, rfl, rx⟩ := vals1 r
  cases rx
  rcases h with ⟨hq, q⟩ | ⟨hq, q⟩
  · obtain ⟨its, r', pl, hz⟩ := I.list hq
    have hlen := r'.length
    refine call_tuple_list pl.isList (fun h' kp => ?_) (by simp only [List.size_toArray] <;> omega)
    have I1 : Inv X pins σ H { s with heap := h' } := I.kept (t' := s.toks) kp
    have I2 : Inv X pins σ (upd H h'.objs.size (.tup ys)) { s with heap := h'.push { cls := .type "tuple", data := .seq its.toArray } } :=
      I1.laid (t' := s.toks) (fun b o e => Heap.get?_push_of_some _ e) (Nat.le_refl _) (show ObjOk X.prog X.w _ _ _ (.tup ys) from ⟨hz, its, r', IsTup.new _ _⟩)
    exact ⟨.ref h'.objs.size, _, I2, rfl, q _ (I1.hok.fresh (Nat.le_refl _))⟩
  · obtain ⟨its, r', pl, hz⟩ := I.tuple hq
    exact call_tuple_same pl ⟨.ref p, H, I, rfl, q⟩

/-! ### the call of a builtin's method: o.m(..) -/
noncomputable def tyV (K : PySem.W.Frag) (T : String) (x : V) (H : Hp) : Prop := match x with
  | .str _ => T = "str"
  | .int _ => T = "int"
  | .ref p => (T = "list" ∧ ∃ xs, SqL K H p xs) ∨ (T = "tuple" ∧ ∃ o, K.lookup p = some o ∧ o.cls = .type "tuple" ∧ o.dict = none) ∨
      (T = "dict" ∧ ((∃ kvs, HK H p kvs) ∨ ∃ kvs, HTt H p kvs)) ∨ (T = "set" ∧ ∃ S n, H p = some (.set S n))
  | _ => False
theorem tyV_is {pins : List (Addr × Obj)} {σ : St} {H : Hp} {s : Shared} {T : String} {x : V} {v : Value} (I : Inv X pins σ H s) (r : RelV x v) (ty : tyV X.K T x H) :
    s.TypeIs v T ∧ ∀ a, v = .ref a → ∃ ob, s.heap.get? a = some ob ∧ ob.dict = none := by
  cases x with
  | str z =>
    obtain ⟨t, rfl⟩ := r
    cases (show T = "str" from ty)
    exact ⟨typeIs_str s z t, fun _ e => nomatch e⟩
  | int i =>
    obtain ⟨t, rfl⟩ := r
    cases (show T = "int" from ty)
    exact ⟨typeIs_int s i t, fun _ e => nomatch e⟩
  | ref p =>
    cases r
    rcases ty with ⟨rfl, xs, hq⟩ | ⟨rfl, o, hk, hc, hd⟩ | ⟨rfl, hk⟩ | ⟨rfl, S, n, hk⟩
    · obtain ⟨its, _, pl, _⟩ := I.list hq
      refine ⟨pl.isList.typeIs, fun a e => ?_⟩
      cases e
      obtain ⟨o, n, e, c, hd, _⟩ := pl
      exact ⟨o, e, hd⟩
    · refine ⟨⟨o, I.kIn p o hk, hc⟩, fun a e => ?_⟩
      cases e
      exact ⟨o, I.kIn _ o hk, hd⟩
    · have z : ∃ o, s.heap.get? p = some o ∧ o.ExactDict := by
        rcases hk with ⟨kvs, ep, hk⟩ | ⟨kvs, ep, bs, hk⟩
        · obtain ⟨_, _, _, _, o, _, e, ex, _⟩ := I.hok p _ hk
          exact ⟨o, e, ex⟩
        · obtain ⟨_, _, _, _, o, _, e, ex, _⟩ := I.hok p _ hk
          exact ⟨o, e, ex⟩
      obtain ⟨o, e, ex⟩ := z
      refine ⟨⟨o, e, ex.1⟩, fun a e2 => ?_⟩
      cases e2
      exact ⟨o, e, ex.2.1⟩
    · obtain ⟨o, _, _, _, e, ex, _⟩ := I.hok p _ hk
      refine ⟨⟨o, e, ex.1⟩, fun a e2 => ?_⟩
      cases e2
      exact ⟨o, e, ex.2.1⟩
  | _ => exact False.elim ty
noncomputable def tBM (K : PySem.W.Frag) (T : String) (r : V → List V → Hp → VK → Prop) (to : TE) (t : TA) : TE := fun σ H Q => to σ H fun x H1 => tyV K T x H1 ∧ t σ H1 fun xs H2 => r x xs H2 Q
variable {o e : Expr} {es : List Expr} {to : TE} {t : TA} {name : Str} {apos cpos : Pos} {T id : String} {r : V → List V → Hp → VK → Prop}
theorem pe_bm (pa : PlainAttrs T) (slot : Slot T name id) (hty : typeOf (.builtin id) = pure (.type "method_descriptor")) (hm : MtR X id r) (ho : PE X o to) (ha : PA X (e :: es) t)
    (hbase : attributeBase o name X.env (eval o X.env) = eval o X.env := by rfl)
    (hfew : ((backTo cpos (starEach (e :: es) X.env)).all (fun x => !x.1) && (backToKw cpos (keywordEach [] X.env)).all (fun x => x.1.isSome)
      && decide ((e :: es).length + ([] : List Keyword).length + (if ([] : List Keyword).isEmpty then 0 else 1) < 30)) = true := by rfl)
    (hline : (apos.endLine == cpos.line) = true := by rfl) (hs : starEach (e :: es) X.env = (false, eval e X.env) :: starEach es X.env := by rfl) (hplain : (backTo cpos (starEach es X.env)).any (·.1) = false := by rfl) :
    PE X (.Call (.Attribute o name apos) (e :: es) [] cpos) (tBM X.K T r to t) := by
  intro pins s σ H Q I h
  refine wpAny_Call_method_late hbase hfew hline rfl (thn (ho pins s σ H _ I h) fun v s1 ⟨x, H1, I1, r1, ty, q1⟩ => ?_)
  obtain ⟨h1, h2⟩ := tyV_is I1 r1 ty
  refine ⟨T, id, pa, slot, hty, h1, h2, ?_⟩
  have hA := ha cpos pins s1 σ H1 _ I1 q1
  rw [hs] at hA ⊢
  refine Calls.callWith_builtin (by show (false || (backTo cpos (starEach es X.env)).any (·.1)) = false; rw [hplain] <;> rfl) (Calls.evalArgs_plain ?_)
  exact thn hA fun us s2 ⟨vs, H2, I2, r2, q2⟩ => hm pins s2 σ H2 x vs v us Q I2 r1 r2 q2
/- xs.append(e), list.index on a module's tuple .. are MtR facts of 06m -/
end
end L2

namespace L2
open PySem PySem.Spec PyProof.Rows

noncomputable def MtM (X : Cx) (id : String) (r : V → List V → Hp → VK → Prop) : Prop :=
  ∀ (pins : List (Addr × Obj)) (s : Shared) (σ : St) (H : Hp) (x : V) (xs : List V) (v : Value) (us : List Value) (Q : VK), Inv X pins σ H s → RelV x v → Vals xs us → r x xs H Q →
    wpAny (model X.prog X.w) X.A (call (.builtin id) (v :: us)) (EP X pins σ Q) X.xe s

/-! ### lists of values -/
theorem Vals.one : ∀ {x : V} {us : List Value}, Vals [x] us → ∃ u, us = [u] ∧ RelV x u
  | _, _, .cons r .nil => ⟨_, rfl, r⟩

section
variable {X : Cx} {pins : List (Addr × Obj)} {σ : St} {H : Hp} {s : Shared} {l b : Addr} {xs ys zs : List V}

/-! ### the two steps: a tracked list is rewritten, a new list is laid -/
theorem Inv.lset {its its' : List Value} {n : Nat} {f : Array Value → Array Value} {t' : Nat} (I : Inv X pins σ H s) (hH : H l = some (.lst xs))
    (e : s.heap.get? l = some { cls := .type "list", data := .seq its.toArray n }) (hf : f its.toArray = its'.toArray) (hv : Vals ys its') (hz : ys.length ≤ sizeLine) :
    Inv X pins σ (upd H l (.lst ys)) { s with heap := s.heap.update l (Obj.mapSeq f), toks := t' } := by
  have q := PySem.IsL.update e f
  rw [hf] at q
  refine I.write (x := l) (e := l) (by rw [hH]; exact trivial) (.inl rfl) (fun b' u hb hu => (Heap.get?_update_other s.heap (Obj.mapSeq f) (Ne.symm hb)).trans hu) ⟨_, q⟩ ?_
  exact ⟨hz, its', _, hv, q⟩
theorem Inv.lnew {its : List Value} {t' : Nat} (I : Inv X pins σ H s) (hv : Vals ys its) (hz : ys.length ≤ sizeLine) :
    Inv X pins σ (upd H s.heap.objs.size (.lst ys)) { s with heap := s.heap.push { cls := .type "list", data := .seq its.toArray }, toks := t' } :=
  I.laid (fun _ _ q => Heap.get?_push_of_some _ q) (Nat.le_refl _) ⟨hz, its, 0, hv, Heap.get?_push_size _ rfl⟩
theorem Inv.fresh (I : Inv X pins σ H s) : H s.heap.objs.size = none := I.hok.fresh (Nat.le_refl _)
theorem Inv.lstM (I : Inv X pins σ H s) (hH : H l = some (.lst xs)) : xs.length ≤ sizeLine ∧ ∃ (its : List Value) (n : Nat), Vals xs its ∧ xs.length = its.length ∧ s.heap.get? l = some { cls := .type "list", data := .seq its.toArray n } := by
  obtain ⟨z, its, n, r, e⟩ := I.hok l _ hH
  exact ⟨z, its, n, r, r.length, e⟩

end

section
variable {X : Cx}

/-! ### methods -/
noncomputable def rAppend : V → List V → Hp → VK → Prop := fun x vs H Q => ∃ l xs y, x = .ref l ∧ vs = [y] ∧ H l = some (.lst xs) ∧ xs.length < sizeLine ∧ Q .non (upd H l (.lst (xs ++ [y])))
theorem mt_append : MtM X "list.append" rAppend := by
  intro pins s σ H x vs v us Q I rx rv h
  obtain ⟨l, xs, y, rfl, rfl, hH, hz, q⟩ := h
  cases rx
  obtain ⟨u, rfl, ru⟩ := rv.one
  obtain ⟨z, its, n, r, hl, e⟩ := I.lstM hH
  refine call_meets F.slot_list_append ⟨_, e, rfl⟩ F.entry_list_append (F.args_list_append_2 _ _) (PySem.list_append l its.toArray n u (by rw [List.size_toArray]; omega)) ⟨e, ?_⟩
  refine ⟨.non, _, I.lset (its' := its ++ [u]) hH e (by simp) (r.append (.cons ru .nil)) ?_, rfl, q⟩
  rw [List.length_append, List.length_singleton]
  omega

/-! ### list + list, list += list, list * int -/
/-! ### del xs[i] -/
end

/-! ### xs[a:b] = ys -/
section
variable {prog : Program} {w : World} {A : Around} {E : Value → Shared → Prop} {s : Shared}
end

section
variable {X : Cx}
end
end L2

namespace L2
open PySem PySem.Spec PyProof.Rows

/-! ### lists of pairs as tables -/
section
variable {κ : Type} [DecidableEq κ]
noncomputable def valV (kvs : List (κ × V)) (k : κ) : Option V := (kvs.find? fun kv => decide (kv.1 = k)).map (·.2)
theorem valV_nil {k : κ} : valV ([] : List (κ × V)) k = none := rfl


end


/-! ### a tracked dict, its keys ints and texts or tuples of these -/

section
variable {P : Program} {w : World} {H : Hp} {h : Heap} {a : Addr}
end

section
variable {X : Cx} {pins : List (Addr × Obj)} {σ : St} {H : Hp} {s : Shared} {a : Addr} {y v : V} {u r : Value} {o : Option V} {A : Around} {E : Value → Shared → Prop}


end

section
variable {X : Cx} {pins : List (Addr × Obj)} {σ : St} {H : Hp} {s : Shared} {a : Addr} {kvs : List (Key × V)} {k : Key} {u : Value} {A : Around} {E : Value → Shared → Prop}
end


/-! ### readings and rules -/
section
variable {X : Cx} {o i e value : Expr} {pos pos' tpos : Pos} {td ty tv : TE}
end


/-! ### displays -/
section
variable {X : Cx} {pos : Pos}
end

/-! ### methods -/
section
variable {X : Cx} {pins : List (Addr × Obj)} {σ : St} {H : Hp} {s : Shared} {a : Addr} {y d : V} {u r : Value} {o : Option V} {A : Around} {E : Value → Shared → Prop}
end

section
variable {X : Cx} {o e f : Expr} {apos cpos : Pos} {td ty tx : TE}
end

/-! ### dict(d): a copy -/
section
variable {X : Cx} {pins : List (Addr × Obj)} {σ : St} {H : Hp} {s : Shared} {a : Addr} {kvs : List (Key × V)} {A : Around} {E : Value → Shared → Prop}
end


section
variable {X : Cx} {pins : List (Addr × Obj)} {σ : St} {H : Hp} {s : Shared} {a : Addr} {y : V} {u : Value} {A : Around} {E : Value → Shared → Prop}
end
end L2

namespace Att
open PySem PySem.W PySem.Calls PyProof.Rows

/-! ### the script -/
theorem ints_of_wellAll {P : Params} {h : Heap} : ∀ (ns : List Int) (vs : List Value), WellAll P h vs (ns.map WData.int) → IntsAre vs ns := by
  intro ns
  induction ns with
  | nil =>
    intro vs w
    rw [List.map_nil] at w
    cases w
    exact .nil
  | cons n ns ih =>
    intro vs w
    rw [List.map_cons] at w
    cases w with
    | cons a b =>
      cases a
      exact .cons _ _ (ih _ b)

theorem script_of {l : OpenLaw} {n : Nat} (hn : l.most = some n) {P : Params} {h : Heap} {args : List WData} {vals : List Value}
    (hpre : l.row.toRowW.claim.pre args = true) (hwl : WellAll P h vals args) :
    ∃ a vs ns, vals = [Value.ref a] ∧ args = [WData.list (ns.map WData.int)] ∧ h.get? a = some { cls := .type "list", data := .seq vs.toArray } ∧ IntsAre vs ns ∧ ns.length ≤ n := by
  have hsh : WShape.hasAll [] args [.list .int] = true := (pre_splitW hpre).1
  have hc : l.pre.holds [] { args := args } = true := (pre_splitW hpre).2
  obtain ⟨d, r, rfl, h1, h2⟩ := hasAllW_cons hsh
  obtain rfl := hasAllW_nil h2
  obtain ⟨xs, rfl, h3⟩ := hasW_list h1
  obtain ⟨ns, rfl⟩ := items_int h3
  have hlen : ns.length ≤ n := by
    unfold OpenLaw.pre at hc
    have h4 : (WTm.not (.lt (.lit (.int (n : Int))) (.len (.arg 0)))).holds [] { args := [.list (ns.map .int)] } = true := by
      have h4 := (holds_andW hc).1
      rw [hn] at h4
      exact h4
    have h5 := condW_of h4 (w_not (w_lt w_lit (w_len_list (w_arg rfl))))
    rw [List.length_map] at h5
    refine Nat.le_of_not_lt fun q => ?_
    have q' : (n : Int) < ((ns.length : Nat) : Int) := by omega
    first
      | (rw [decide_eq_true q'] at h5; exact absurd h5 (by decide))
      | (simp at h5; omega)
  cases hwl with
  | cons w1 w2 =>
    cases w2
    cases w1 with
    | list ho hall => exact ⟨_, _, ns, rfl, rfl, ho, ints_of_wellAll ns _ hall, hlen⟩

theorem post_true (l : OpenLaw) (args : List WData) : l.row.toRowW.claim.post args (.bool true) args = true :=
  postW_of (r := l.row.toRowW) (X := (true == true))
    (show WShape.has [] (.bool true) .bool = true by first | rfl | decide | simp [WShape.has, WShape.arms, WShape.armsAll])
    (show (WTm.eq .res (.lit (.bool true))).value [] { args := args, res := some (.bool true), after := args } = some (.bool (true == true)) from w_eq_bool (w_res rfl) w_lit) rfl

/-! ### the attachment: holds_open's last premise (the goal 'hc' behind k_head) from a wpAny of the law's body -/

theorem attach_call {l : OpenLaw} {n : Nat} {q : Program} {loose : List Str} {XP : (Str → Option Value) → Heap → Prop} {YP : World → Heap → Prop} {d : DefRec}
    (hn : l.most = some n) (hdf : d.params.defaults = [])
    (call : ∀ (w : World) (s₀ s₁ : Shared) (mg mb : Str → Option Value) (fa : Addr) (o : Obj) (pm cd doc : Value) (a : Addr) (vs : List Value) (ns : List Int),
      Ground q loose [] XP w s₀ mg mb s₁.heap → YP w s₁.heap →
      s₁.heap.get? fa = some o → o.data = .func (docDef d.name d.params d.body d.scope pm cd doc) → s₁.heap.CodeRec cd d.name → mg d.name = some (.ref fa) →
      s₁.heap.get? a = some { cls := .type "list", data := .seq vs.toArray } → IntsAre vs ns → ns.length ≤ n → s₁.gens = #[] →
      codeAny (model l.prog w) callerA (.call (.ref fa) ⟨[.ref a], []⟩) (fun r s' => r = .ok (.ret (.bool true)) ∧ OldK s₁.heap s'.heap ∧ s'.os = s₁.os ∧ AllBare s'.gens) s₁) :
    WalkO q loose XP YP l.row.toRowW d [] (fun f vs => PySem.call f vs) := by
  intro w s₀ s₁ mg mb G Y fa o pm cd doc dV kV ho hd hcd hD hmg hg args vals as hpre hlay hrd hwl hlo
  obtain rfl : dV = .none := Dflts.none hD hdf
  obtain rfl : kV = .none := Dflts.noKw hD
  obtain ⟨a, vs, ns, rfl, rfl, hobj, hints, hlen⟩ := script_of hn hpre hwl
  refine enter_call (codeAny_mono (call w s₀ s₁ mg mb fa o pm cd doc a vs ns G Y ho (fd_plain hd) hcd hmg hobj hints hlen hg) fun r s' hq => ?_)
  obtain ⟨rfl, h2, h3, h4⟩ := hq
  exact ⟨.inl ⟨.bool true, .bool true, [], rfl, fun _ => rfl, .bool true, post_true l _, fun _ => ⟨List.Pairwise.nil, fun _ hm => (nomatch hm)⟩⟩, h2, h3, h4⟩


/-! ### rules over ANY heap (no ledger) from facts about the written part K: the library's own take a ledger (News) for what they write -/
section
variable {prog : Program} {w : World} {A : Around} {E : Value → Shared → Prop} {s : Shared} {K : Frag}





/-! the whole heap as the ledger: makes every rule that writes through a ledger a rule over any heap -/
noncomputable def ledger (h : Heap) (L d : Addr) : List (Addr × Obj) := (List.range h.objs.size).filterMap fun a => if a = L ∨ a = d then none else (h.get? a).map fun o => (a, o)

end
end Att

namespace L2
open PySem PySem.Spec PyProof.Rows

theorem vals_ints : ∀ {vs : List Value} {ns : List Int}, IntsAre vs ns → Vals (ns.map V.int) vs
  | _, _, .nil => .nil
  | _, _, .cons n t h => .cons ⟨t, rfl⟩ (vals_ints h)

noncomputable def Only (H : Hp) : Prop := ∀ b, H b = none ∨ ∃ o xs, H b = some (.frz o (.lst xs))

theorem law_call {P : Program} {w : World} {K : PySem.W.Frag} {mg mb : Str → Option Value} {CX : CXT} {k : Nat} {fa a : Addr} {fd : FuncData} {x : Str} {sp : Sp} {s₁ : Shared} {vs : List Value} {ns : List Int}
    (KX : K.In s₁.heap) (hns : s₁.heap.Ns mainGlobals mg) (hb : s₁.heap.Ns builtinsNs mb) (hbb : ∀ x : Str, x ≠ "__name__" → mb x = bootBuiltins x) (hlim : s₁.heap.NoLimit) (hg : s₁.gens = #[])
    (ha : s₁.heap.get? a = some { cls := .type "list", data := .seq vs.toArray }) (hi : IntsAre vs ns) (hl : ns.length ≤ sizeLine) (hr : Room k callerA)
    (F : ∀ base : Heap, K.In base → base.Ns mainGlobals mg → FnOk P w K mg base CX k fa fd [x] sp) (hbind : ∀ (s : Shared) (u : Value), BindsTo s fd ⟨[u], []⟩ [(x, u)])
    (hsp : ∀ H : Hp, Only H → SqL K H a (ns.map V.int) → sp [.ref a] H (fun v _ => v = .bl true) fun _ _ _ => False)
    (hCX : ∀ H e s', CX [] H s₁ (fun _ _ _ => False) e s' → False) :
    codeAny (model P w) callerA (.call (.ref fa) ⟨[.ref a], []⟩) (fun r s' => r = .ok (.ret (.bool true)) ∧ OldK s₁.heap s'.heap ∧ s'.os = s₁.os ∧ AllBare s'.gens) s₁ := by
  have rv := vals_ints hi
  have lenV := hi.length
  -- from an abstract heap in which nothing but the script may be tracked
  have core : ∀ H : Hp, Only H → SqL K H a (ns.map V.int) → HOk P w H s₁.heap → (∀ b, H b ≠ none → b = a) → (H a ≠ none → K.lookup a = none) →
      codeAny (model P w) callerA (.call (.ref fa) ⟨[.ref a], []⟩) (fun r s' => r = .ok (.ret (.bool true)) ∧ OldK s₁.heap s'.heap ∧ s'.os = s₁.os ∧ AllBare s'.gens) s₁ := by
    intro H hO hS hok hA hK
    have base_of : ∀ {b : Addr} {o : Obj}, s₁.heap.get? b = some o → H b = none → (hidT s₁.heap H).get? b = some o := fun e n => hidT_get e n
    have noA : ∀ {b : Addr} {o : Obj} {es : Array DictEntry} {ep : Nat}, s₁.heap.get? b = some o → o.data = .dict es ep → H b = none := fun {b o es ep} e d => by
      cases q : H b with
      | none => rfl
      | some u =>
        have e' : b = a := hA b (by rw [q]; simp)
        subst e'
        rw [ha] at e; cases e
        have d' : Data.seq vs.toArray _ = Data.dict es ep := d
        cases d'
    have nsK : ∀ {b : Addr} {m : Str → Option Value}, s₁.heap.Ns b m → (hidT s₁.heap H).Ns b m := fun {b m} ⟨o, es, ep, e, d, r⟩ => ⟨o, es, ep, base_of e (noA e d), d, r⟩
    have hKb : K.In (hidT s₁.heap H) := fun b o e => base_of (KX b o e) (by
      cases q : H b with
      | none => rfl
      | some u =>
        have e' : b = a := hA b (by rw [q]; simp)
        subst e'
        rw [hK (by rw [q]; simp)] at e; cases e)
    have hM : Mod K mg (hidT s₁.heap H) := ⟨hKb, nsK hns, ⟨mb, nsK hb, hbb⟩, let ⟨mc, h1, h2⟩ := hlim; ⟨mc, nsK h1, h2⟩⟩
    have e0 : Env0 P w K mg (hidT s₁.heap H) callerA [] s₁ H := ⟨rfl, hM, fun b o e => of_hidT e, Nat.le_of_eq (hidT_size _ _), trivial, fun b hb => absurd (show b ∈ ([] : List Addr) from hb) (by simp), hok, .of_eq hg⟩
    refine codeAny_mono ((F _ hKb (nsK hns)).run callerA [] s₁ H ⟨[.ref a], []⟩ [.ref a] [.ref a] _ _ hr e0 (hbind s₁ (.ref a)) (.cons rfl .nil) (hsp H hO hS)) fun r s' h => ?_
    cases r with
    | error e => exact (hCX H e s' h).elim
    | ok fl =>
      cases fl with
      | next => exact False.elim h
      | brk => exact False.elim h
      | cont => exact False.elim h
      | ret u =>
        obtain ⟨v, H', os, bare, un, hok', r', q⟩ := h
        have q' : v = .bl true := q
        subst q'
        obtain rfl : u = Value.bool true := r'
        refine ⟨rfl, OldK.of_keep fun b o e => ?_, os, bare⟩
        cases q : H b with
        | none => exact un.keep b o e q (by intro z; exact absurd (show b ∈ ([] : List Addr) from z) (by simp)) (by simp)
        | some u =>
          rcases hO b with z | ⟨ob, xs, z⟩
          · rw [q] at z; cases z
          · have z2 := un.frzs b ob _ z
            obtain ⟨e1, _⟩ := hok b _ z
            obtain ⟨e2, _⟩ := hok' b _ z2
            rw [e] at e1; cases e1
            exact e2
  cases hk : K.lookup a with
  | some o =>
    -- the script is one of the module's own objects
    have e := KX a o hk
    rw [ha] at e
    cases e
    refine core (fun _ => none) (fun _ => .inl rfl) (.inr ⟨_, vs.toArray, _, hk, rfl, rfl, rfl, by rw [List.size_toArray, lenV]; exact hl, by simpa using rv⟩) (fun b u z => by have z' : (none : Option HO) = some u := z; cases z') (fun b z => absurd rfl z) fun z => absurd rfl z
  | none =>
    refine core (fun b => if b = a then some (.frz { cls := .type "list", data := .seq vs.toArray } (.lst (ns.map V.int))) else none) (fun b => ?_) (.inl (.inr ⟨{ cls := .type "list", data := .seq vs.toArray }, if_pos rfl⟩)) (fun b u z => ?_) (fun b z => ?_) fun _ => hk
    · by_cases hb : b = a
      · exact .inr ⟨_, _, if_pos hb⟩
      · exact .inl (if_neg hb)
    · by_cases hb : b = a
      · have z' := (if_pos hb).symm.trans z
        cases z'
        subst hb
        exact ⟨ha, by rw [List.length_map]; exact hl, vs, _, rv, ha⟩
      · have z' := (if_neg hb).symm.trans z
        cases z'
    · by_cases hb : b = a
      · exact hb
      · exact absurd (if_neg hb) z
end L2

namespace L2
open PySem PySem.Spec PyProof.Rows

noncomputable abbrev KOf {K : PySem.W.Frag} {h : Heap} (_ : K.In h) : PySem.W.Frag := K

theorem walk_of {l : PySem.W.OpenLaw} {n k : Nat} {q : Program} {loose : List Str} {XP : (Str → Option Value) → Heap → Prop} {YP : World → Heap → Prop} {d : DefRec} {K : Params → PySem.W.Frag} {CX : World → CXT} {sp : World → Sp} {x : Str}
    (hn : l.most = some n) (hn2 : n ≤ sizeLine) (hdf : d.params.defaults = []) (hr : Room k callerA)
    (hY : ∀ (w : World) (h : Heap), YP w h → (K w.params).In h)
    (F : ∀ (w : World) (mg : Str → Option Value) (fa : Addr) (h : Heap), (K w.params).In h → h.Ns mainGlobals mg → mg d.name = some (.ref fa) →
      ∃ fd : FuncData, (∀ (s : Shared) (u : Value), BindsTo s fd ⟨[u], []⟩ [(x, u)]) ∧
        ∀ base : Heap, (K w.params).In base → base.Ns mainGlobals mg → FnOk l.prog w (K w.params) mg base (CX w) k fa fd [x] (sp w))
    (hsp : ∀ (w : World) (H : Hp) (a : Addr) (ns : List Int), ns.length ≤ n → Only H → SqL (K w.params) H a (ns.map V.int) → sp w [.ref a] H (fun v _ => v = .bl true) fun _ _ _ => False)
    (hCX : ∀ (w : World) (H : Hp) (s : Shared) (e : Value) (s' : Shared), CX w [] H s (fun _ _ _ => False) e s' → False) :
    PySem.W.WalkO q loose XP YP l.row.toRowW d [] (fun f vs => PySem.call f vs) := by
  refine Att.attach_call hn hdf fun w s₀ s₁ mg mb fa o pm cd doc a vs ns G Y ho hd hcd hmg hobj hints hlen hg => ?_
  have KX := hY w _ Y
  obtain ⟨fd, hb, hF⟩ := F w mg fa _ KX G.T.g hmg
  exact law_call KX G.T.g G.T.b G.T.builtins G.T.nolimit hg hobj hints (Nat.le_trans hlen hn2) hr hF hb (fun H hO hS => hsp w H a ns hlen hO hS) fun H e s' => hCX w H s₁ e s'
theorem walk_ofK {l : PySem.W.OpenLaw} {n k : Nat} {q : Program} {loose : List Str} {XP : (Str → Option Value) → Heap → Prop} {YP : World → Heap → Prop} {d : DefRec} {K : Params → PySem.W.Frag} {CX : CXT} {sp : PySem.W.Frag → Sp} {x : Str}
    (hn : l.most = some n) (hn2 : n ≤ sizeLine) (hdf : d.params.defaults = []) (hr : Room k callerA)
    (hY : ∀ (w : World) (h : Heap), YP w h → (K w.params).In h)
    (F : ∀ (w : World) (mg : Str → Option Value) (fa : Addr) (h : Heap), (K w.params).In h → h.Ns mainGlobals mg → mg d.name = some (.ref fa) →
      ∃ fd : FuncData, (∀ (s : Shared) (u : Value), BindsTo s fd ⟨[u], []⟩ [(x, u)]) ∧
        ∀ base : Heap, (K w.params).In base → base.Ns mainGlobals mg → FnOk l.prog w (K w.params) mg base CX k fa fd [x] (sp (K w.params)))
    (hsp : ∀ (K : PySem.W.Frag) (H : Hp) (a : Addr) (ns : List Int), ns.length ≤ n → Only H → SqL K H a (ns.map V.int) → sp K [.ref a] H (fun v _ => v = .bl true) fun _ _ _ => False)
    (hCX : ∀ (H : Hp) (s : Shared) (e : Value) (s' : Shared), CX [] H s (fun _ _ _ => False) e s' → False) :
    PySem.W.WalkO q loose XP YP l.row.toRowW d [] (fun f vs => PySem.call f vs) :=
  walk_of (K := K) (CX := fun _ => CX) (sp := fun w => sp (K w.params)) hn hn2 hdf hr hY F (fun w H a ns h1 h2 h3 => hsp (K w.params) H a ns h1 h2 h3) fun _ H s e s' => hCX H s e s'
end L2

/- THE LAST THEOREM (shape; LID, My.* are yours):
   My.Adr: a structure of the addresses that your layer names (classes, functions); My.Txt K t: a structure (Prop) of the equations over K;
   My.txt_mk : {K} {implicit addresses ..} (e1 : nsIn K mainGlobals "law" = some (some (.ref f))) (e2 : K.lookup f = some ⟨oc, od, .func (fnOf "law" "law" params body scope dV kV doc pm an cdv ct), sl⟩) (e3 : codeIn K cdv "law" = true) .. : ∃ t, My.Txt K t

set_option maxRecDepth 100000 in
set_option maxHeartbeats 0 in
theorem PySem.Challenge.cw_LID_holds : PySem.Challenge.rw_LID.Holds := by
  w_on; o_law; k_head; (case hw => w_witness2)
  k_fill
  refine L2.walk_of (l := PySem.Challenge.rw_LID) (n := 63) (k := 40) (x := "script") (CX := fun w => ..) (sp := fun _ => My.sp_law) rfl (by decide) rfl ⟨rfl, by decide, by decide⟩ (fun w h Y => PySem.W.kIn_of Y) ?F ?S ?C
  case F =>
    intro w mg fa h KX G hmg
    have T : ∃ t, My.Txt (L2.KOf KX) t := by
      dsimp only [L2.KOf]                          -- K must stand as «<heap const> w.params» for k_is
      refine' My.txt_mk ?e1 ?e2 ?e3 ..
      (case e1 => PySem.W.k_is)                    -- in the order: a name -> its address -> its object -> its parts
      (case e2 => PySem.W.k_is)
      ..
    obtain ⟨t, T⟩ := T
    have e0 := hmg.symm.trans (PySem.W.mg_of KX G T.law)
    cases e0                                       -- fa is the law's own address
    exact ⟨_, fun s u => .of_eq rfl, fun base kb nb => My.law_fn T kb nb⟩     -- if «.of_eq rfl» comes too early: refine' ⟨_, ?b, fun base kb nb => My.law_fn T kb nb⟩; exact fun s u => .of_eq rfl
  case S => exact fun w H a ns hl hO hS => ..
  case C => exact ..
(the tactic k_is has no namespace: write k_is) -/

/-! SHORT WORDS over the layer: a def of the text, its body, what a loop and a test want. -/
namespace L2
open PySem PySem.Spec PyProof.Rows

/-! ### the text by places -/
noncomputable def defArgs (s : Stmt) : Arguments := match s with
  | .FunctionDef _ a _ _ _ _ _ _ _ _ => a
  | _ => { posonlyargs := [], args := [], vararg := none, kwonlyargs := [], kw_defaults := [], kwarg := none, defaults := [] }
noncomputable def defBody (s : Stmt) : List Stmt := match s with
  | .FunctionDef _ _ b _ _ _ _ _ _ _ => b
  | _ => []
noncomputable def defScope (s : Stmt) : Scope := match s with
  | .FunctionDef _ _ _ _ _ _ sc _ _ _ => sc
  | _ => { kind := .function, names := [], isGenerator := false, isCoroutine := false }

/-! ### no exception leaves a def -/
noncomputable abbrev CX0 : CXT := fun _ _ _ _ _ _ => False
noncomputable abbrev E0 : XK := fun _ _ _ => False
theorem pass0 {X : Cx} : Passes CX0 X E0 := fun _ _ _ _ _ _ _ h => h.elim

/-! ### a def (or method) of the text as it stands behind the top -/
structure Fun (K : PySem.W.Frag) (x qual : Str) (st : Stmt) (f : Addr) (fd : FuncData) : Prop where
  ex : ∃ (oc : Value) (od : Option Addr) (kV doc pm : Value) (an : Option Addr) (cdv ct : Value) (osl : Array (Option Value)),
    fd = PySem.W.fnOf x qual (defArgs st) (defBody st) (defScope st) .none kV doc pm an cdv ct ∧ K.lookup f = some ⟨oc, od, .func fd, osl⟩ ∧ PySem.W.codeIn K cdv qual = true
  kp : PySem.W.keepIn K (.ref f) = true
section
variable {P : Program} {w : World} {K : PySem.W.Frag} {mg : Str → Option Value} {base : Heap}
theorem Fun.ok {x qual : Str} {st : Stmt} {f : Addr} {fd : FuncData} {N ps : List Str} {k : Nat} {sp : Sp} (F : Fun K x qual st f fd) (S : FnScope N ps (defScope st)) (len : ∀ vs H Q E, sp vs H Q E → vs.length = ps.length)
    (hbody : ∀ (cdv : Value) (A : Around) (outer : List Env) (s : Shared) (H : Hp) (vs : List V) (Q : VK) (E : XK), Room k (A.deeper (envOfC qual (defScope st) s.heap.objs.size f cdv)) → sp vs H Q E →
      ∃ t, PSs (cxOf CX0 P w K mg base N qual (defScope st) f cdv A outer s H E).nox (defBody st) t ∧ t { nx := fun _ H' => Q .non H', rt := Q } (start N vs) H) : FnOk P w K mg base CX0 (k + 1) f fd ps sp := by
  obtain ⟨oc, od, kV, doc, pm, an, cdv, ct, osl, rfl, lk, hcd⟩ := F.ex
  refine fn_of lk hcd S len fun A outer s H vs Q E hr hsp => ?_
  obtain ⟨t, h, q⟩ := hbody cdv A outer s H vs Q E hr hsp
  exact ⟨t, h.nox, q⟩
theorem Fun.binds {x qual : Str} {st : Stmt} {f : Addr} {fd : FuncData} {ps : List Str} (F : Fun K x qual st f fd)
    (h : ∀ (kV doc pm : Value) (an : Option Addr) (cdv ct : Value) (us : List Value), us.length = ps.length → bindArgs (PySem.W.fnOf x qual (defArgs st) (defBody st) (defScope st) .none kV doc pm an cdv ct) ⟨us, []⟩ = pure (ps.zip us)) : Binds K fd ps [] := by
  obtain ⟨oc, od, kV, doc, pm, an, cdv, ct, osl, rfl, lk, hcd⟩ := F.ex
  exact .all (h kV doc pm an cdv ct)
theorem fun_mk {x qual : Str} {st : Stmt} {f : Addr} {oc : Value} {od an : Option Addr} {osl : Array (Option Value)} {kV doc pm cdv ct : Value} (l : K.lookup f = some ⟨oc, od, .func (PySem.W.fnOf x qual (defArgs st) (defBody st) (defScope st) .none kV doc pm an cdv ct), osl⟩)
    (c : PySem.W.codeIn K cdv qual = true) (k : PySem.W.keepIn K (.ref f) = true) : Fun K x qual st f (PySem.W.fnOf x qual (defArgs st) (defBody st) (defScope st) .none kV doc pm an cdv ct) := ⟨⟨oc, od, kV, doc, pm, an, cdv, ct, osl, rfl, l, c⟩, k⟩
end
theorem hu_of {A : Around} {k : Nat} (hr : Room k A) : A.units + 1 < cLine := Nat.lt_of_le_of_lt (Nat.add_le_add_left (by decide : 1 ≤ 64) _) hr.units

/-! ### expressions in short: the name that stands in the i-th slot -/
section
variable {X : Cx}
end

/-! ### tests -/

/-! ### heaps -/
noncomputable def Same (H H' : Hp) : Prop := ∀ b o, H b = some o → H' b = some o
theorem Same.refl (H : Hp) : Same H H := fun _ _ h => h
theorem Same.trans {H H1 H2 : Hp} (a : Same H H1) (b : Same H1 H2) : Same H H2 := fun c o h => b c o (a c o h)
theorem Same.free {H H' : Hp} (e : Same H H') {l : Addr} (h : H' l = Option.none) : H l = Option.none := by
  cases q : H l with
  | none => rfl
  | some o =>
    rw [e l o q] at h
    cases h

/-! ### a dict's pairs: keys that differ -/
section
variable {κ : Type} [DecidableEq κ]
end
end L2

/-! MORE RULES over the hand layer: weakening, a list comprehension -/
namespace L2
open PySem PySem.Spec PyProof.Rows

theorem PE.imp {X : Cx} {e : Expr} {t t' : TE} (h : PE X e t) (w : ∀ σ H Q, t' σ H Q → t σ H Q) : PE X e t' := fun pins s σ H Q I q => h pins s σ H Q I (w σ H Q q)
theorem PT.imp {X : Cx} {e : Expr} {t t' : TT} (h : PT X e t) (w : ∀ σ H Q, t' σ H Q → t σ H Q) : PT X e t' := fun pins s σ H Q I q => h pins s σ H Q I (w σ H Q q)
theorem PW.imp {X : Cx} {e : Expr} {t t' : TT} (h : PW X e t) (w : ∀ σ H Q, t' σ H Q → t σ H Q) : PW X e t' := fun wh pins s σ H Q I q => h wh pins s σ H Q I (w σ H Q q)
theorem PA.imp {X : Cx} {e : List Expr} {t t' : TA} (h : PA X e t) (w : ∀ σ H Q, t' σ H Q → t σ H Q) : PA X e t' := fun pos pins s σ H Q I q => h pos pins s σ H Q I (w σ H Q q)
theorem PS.imp {X : Cx} {e : Stmt} {t t' : TS} (h : PS X e t) (w : ∀ D σ H, t' D σ H → t D σ H) : PS X e t' := fun pins s σ H D I q => h pins s σ H D I (w D σ H q)
theorem PSs.imp {X : Cx} {e : List Stmt} {t t' : TS} (h : PSs X e t) (w : ∀ D σ H, t' D σ H → t D σ H) : PSs X e t' := fun pins s σ H D I q => h pins s σ H D I (w D σ H q)
theorem PG.imp {X : Cx} {e : Expr} {t t' : TG} (h : PG X e t) (w : ∀ v σ H Q, t' v σ H Q → t v σ H Q) : PG X e t' := fun pins s σ H v u Q I r q => h pins s σ H v u Q I r (w v σ H Q q)
theorem PGs.imp {X : Cx} {e : List Expr} {t t' : TGs} (h : PGs X e t) (w : ∀ v σ H Q, t' v σ H Q → t v σ H Q) : PGs X e t' := fun pins s σ H vs us Q I r q => h pins s σ H vs us Q I r (w vs σ H Q q)
theorem PI.imp {X : Cx} {tg e : Expr} {t t' : TI} (h : PI X tg e t) (w : ∀ σ H R, t' σ H R → t σ H R) : PI X tg e t' := fun pins s σ H R I q => h pins s σ H R I (w σ H R q)

/-! ### a list comprehension -/
noncomputable def clOf (cells : List (Str × Addr)) : List (Str × NameKind) → List (Str × Addr) → List (Str × Addr)
  | [], cs => cs
  | (n, k) :: r, cs => clOf cells r (if k = .free then (n, (cells.lookup n).getD 0) :: cs else cs)
theorem closure_go {env : Env} : ∀ (names : List (Str × NameKind)) (cs : List (Str × Addr)), (∀ y ∈ names, y.2 = .free → ∃ c, env.cells.lookup y.1 = some c) →
    (forIn names cs (fun x r => if (x.2 == NameKind.free) = true then do let a ← cellOf env x.1; pure (ForInStep.yield ((x.1, a) :: r)) else pure (ForInStep.yield r)) : Sem (List (Str × Addr))) = pure (clOf env.cells names cs)
  | [], cs, _ => by rw [List.forIn_nil]; rfl
  | (n, k) :: r, cs, h => by
    rw [List.forIn_cons]
    by_cases hk : k = .free
    · obtain ⟨c, hc⟩ := h (n, k) List.mem_cons_self hk
      subst hk
      have e1 : cellOf env n = pure c := by unfold cellOf; rw [hc]
      show ((if (NameKind.free == NameKind.free) = true then (cellOf env n >>= fun a => pure (ForInStep.yield ((n, a) :: cs))) else pure (ForInStep.yield cs)) >>= fun s => _) = _
      rw [if_pos (show (NameKind.free == NameKind.free) = true by decide), e1]
      show (forIn r ((n, c) :: cs) _ : Sem (List (Str × Addr))) = _
      rw [closure_go r _ fun y hy => h y (List.mem_cons_of_mem _ hy)]
      show _ = pure (clOf env.cells r (if NameKind.free = NameKind.free then (n, (env.cells.lookup n).getD 0) :: cs else cs))
      rw [if_pos rfl, hc]
      rfl
    · have hb : (k == NameKind.free) = false := by simpa using hk
      show ((if (k == NameKind.free) = true then (cellOf env n >>= fun a => pure (ForInStep.yield ((n, a) :: cs))) else pure (ForInStep.yield cs)) >>= fun s => _) = _
      rw [hb, if_neg Bool.false_ne_true]
      show (forIn r cs _ : Sem (List (Str × Addr))) = _
      rw [closure_go r _ fun y hy => h y (List.mem_cons_of_mem _ hy)]
      show _ = pure (clOf env.cells r (if k = NameKind.free then _ else cs))
      rw [if_neg hk]
theorem closureFor_of {scope : Scope} {env : Env} (h : ∀ y ∈ scope.names, y.2 = .free → ∃ c, env.cells.lookup y.1 = some c) : closureFor scope env = pure (clOf env.cells scope.names []) := by
  simp only [closureFor]
  rw [closure_go scope.names [] h]
  rfl
theorem clOf_sub {cells : List (Str × Addr)} {x : Str} {c : Addr} : ∀ {names : List (Str × NameKind)} {cs : List (Str × Addr)}, (∀ y ∈ names, y.2 = .free → ∃ c, cells.lookup y.1 = some c) →
    (cs.lookup x = some c → cells.lookup x = some c) → (clOf cells names cs).lookup x = some c → cells.lookup x = some c
  | [], _, _, h0, e => h0 e
  | (n, k) :: r, cs, h, h0, e => by
    refine clOf_sub (names := r) (fun y hy => h y (List.mem_cons_of_mem _ hy)) ?_ e
    intro e'
    by_cases hk : k = .free
    · rw [if_pos hk] at e'
      obtain ⟨c', hc⟩ := h (n, k) List.mem_cons_self hk
      rw [hc] at e'
      by_cases hx : x == n
      · simp only [List.lookup_cons, hx] at e'
        cases e'
        have : x = n := by simpa using hx
        rw [this]; exact hc
      · have hx' : (x == n) = false := by simpa using hx
        simp only [List.lookup_cons, hx'] at e'
        exact h0 e'
    · rw [if_neg hk] at e'; exact h0 e'
theorem clOf_keep {cells : List (Str × Addr)} {x : Str} : ∀ {names : List (Str × NameKind)} {cs : List (Str × Addr)}, (∃ c, cs.lookup x = some c) → ∃ c, (clOf cells names cs).lookup x = some c
  | [], _, h => h
  | (n, k) :: r, cs, ⟨c, h⟩ => by
    refine clOf_keep (names := r) ?_
    by_cases hk : k = .free
    · rw [if_pos hk]
      by_cases hx : x == n
      · exact ⟨(cells.lookup n).getD 0, by simp only [List.lookup_cons, hx]⟩
      · have hx' : (x == n) = false := by simpa using hx
        exact ⟨c, by simp only [List.lookup_cons, hx']; exact h⟩
    · rw [if_neg hk]; exact ⟨c, h⟩
theorem clOf_has {cells : List (Str × Addr)} {x : Str} : ∀ {names : List (Str × NameKind)} {cs : List (Str × Addr)}, (x, NameKind.free) ∈ names → ∃ c, (clOf cells names cs).lookup x = some c
  | [], _, h => nomatch h
  | (n, k) :: r, cs, h => by
    rcases List.mem_cons.mp h with e | e
    · cases e
      refine clOf_keep (names := r) ⟨(cells.lookup x).getD 0, ?_⟩
      rw [if_pos rfl]
      simp [List.lookup_cons]
    · exact clOf_has (names := r) e
noncomputable def rlF (env : Env) : Str × NameKind → Str × NameKind := fun (n, k) => if (k == NameKind.free && env.scope.kind == .function && env.kindOf n == some .cell) then (n, NameKind.cell) else (n, k)
theorem rlF_fst (env : Env) (p : Str × NameKind) : (rlF env p).1 = p.1 := by
  obtain ⟨n, k⟩ := p
  unfold rlF
  dsimp only
  split <;> rfl
theorem lookup_mapf {f : Str × NameKind → Str × NameKind} (h : ∀ p, (f p).1 = p.1) (x : Str) : ∀ names : List (Str × NameKind), (names.map f).lookup x = (names.lookup x).map fun k => (f (x, k)).2
  | [] => rfl
  | (n, k) :: r => by
    have ih := lookup_mapf h x r
    have e : f (n, k) = (n, (f (n, k)).2) := Prod.ext (h (n, k)) rfl
    rw [List.map_cons, e, List.lookup_cons, List.lookup_cons]
    cases hx : x == n with
    | true =>
      have : x = n := by simpa using hx
      subst this
      rfl
    | false => exact ih
theorem lookup_mem {x : Str} {k : NameKind} : ∀ {names : List (Str × NameKind)}, names.lookup x = some k → (x, k) ∈ names
  | [], h => by simp at h
  | (n, k') :: r, h => by
    rw [List.lookup_cons] at h
    cases hx : x == n with
    | true =>
      rw [hx] at h
      have : x = n := by simpa using hx
      subst this
      cases h
      exact List.mem_cons_self
    | false => rw [hx] at h; exact List.mem_cons_of_mem _ (lookup_mem h)
theorem relabel_free {env : Env} {names : List (Str × NameKind)} {x : Str} {kk : NameKind} (hn : ∀ y ∈ names, y.2 ≠ .cell) (hk : kk = .cell ∨ kk = .free) (h : (names.map (rlF env)).lookup x = some kk) : (x, NameKind.free) ∈ names := by
  rw [lookup_mapf (rlF_fst env)] at h
  obtain ⟨k, h1, h2⟩ := Option.map_eq_some_iff.mp h
  have hm := lookup_mem h1
  have hc : k ≠ .cell := hn _ hm
  by_cases hf : k = .free
  · subst hf; exact hm
  · exfalso
    have hb : (k == NameKind.free) = false := by simpa using hf
    unfold rlF at h2
    simp only [hb, Bool.false_and, Bool.false_eq_true, if_false] at h2
    rcases hk with e | e
    · exact hc (h2.trans e)
    · exact hf (h2.trans e)

inductive BSrc where
  | own | cap (j : Nat) | acc
noncomputable def bSlot (σ : St) (acc : Addr) : BSrc → Option V
  | .own => none
  | .cap j => (σ[j]?).join
  | .acc => some (.ref acc)
noncomputable def bSt (src : List BSrc) (σ : St) (acc : Addr) : St := src.map (bSlot σ acc)
noncomputable abbrev Cx.block (X : Cx) (N' : List Str) (scope : Scope) (C : Addr) (s₀ : Shared) (H₀ : Hp) (ex : List Addr) : Cx :=
  { X with N := N', env := compEnvC scope (clOf X.env.cells scope.names []) C X.env, s₀ := s₀, H₀ := H₀, outer := X.stack, stack := X.stack, ex := ex, fn := fun _ => false, pn := [], xe := fun _ _ => False }
structure CompScope (X : Cx) (N' : List Str) (scope : Scope) (src : List BSrc) : Prop where
  kind : scope.kind = .function
  nocell : ∀ y ∈ scope.names, y.2 ≠ .cell
  names : ∀ y ∈ scope.names, y.2 = .local → scope.names.lookup y.1 = some .local
  free : ∀ y ∈ scope.names, y.2 = .free → X.env.kindOf y.1 = some .cell ∨ X.env.kindOf y.1 = some .free
  len : src.length = N'.length
  cap : ∀ (k j : Nat) (x : Str), src[k]? = some (.cap j) → N'[k]? = some x → X.N[j]? = some x ∧ (X.env.kindOf x = some .cell ∨ X.env.kindOf x = some .free) ∧ scope.names.lookup x = some .free
  acc : ∀ (k : Nat) (x : Str), src[k]? = some .acc → N'[k]? = some x → scope.names.lookup x = none
theorem lookup_none_relabel {env : Env} {names : List (Str × NameKind)} {x : Str} (h : names.lookup x = none) : (names.map (rlF env)).lookup x = none := by
  rw [lookup_mapf (rlF_fst env), h]; rfl
theorem lookup_free_relabel {env : Env} {names : List (Str × NameKind)} {x : Str} (h : names.lookup x = some .free) : (names.map (rlF env)).lookup x = some .cell ∨ (names.map (rlF env)).lookup x = some .free := by
  rw [lookup_mapf (rlF_fst env), h]
  unfold rlF
  dsimp only [Option.map]
  split
  · exact .inl rfl
  · exact .inr rfl

section
variable {X : Cx} {N' : List Str} {scope : Scope} {src : List BSrc} {pins : List (Addr × Obj)} {σ : St} {H : Hp} {s : Shared} {C acc : Addr} {fp : List Addr}
theorem block_start {h1 : Heap} {tk : Nat} (S : CompScope X N' scope src) (I : Inv X pins σ H s) (hC : C = s.heap.objs.size) (hf : ∀ b ∈ fp, FpOk X pins H b) (hfo : ∀ b ∈ fp, ∃ o, s.heap.get? b = some o)
    (hns : h1.Ns C fun _ => none) (hk : ∀ b o, s.heap.get? b = some o → h1.get? b = some o) :
    Inv (X.block N' scope C s H fp) [] (bSt src σ acc) H { s with heap := h1, toks := tk } := by
  have cellf : ∀ y ∈ scope.names, y.2 = .free → ∃ c, X.env.cells.lookup y.1 = some c := fun y hy e => I.ok.has y.1 (S.free y hy e)
  have sub : ∀ x c, (clOf X.env.cells scope.names []).lookup x = some c → X.env.cells.lookup x = some c := fun x c e => clOf_sub cellf (fun h => by simp at h) e
  have gt : ∀ b, b < s.heap.objs.size → b ≠ C := fun b hb e => by rw [e, hC] at hb; exact Nat.lt_irrefl _ hb
  refine ⟨⟨I.ok.mod, S.kind, I.ok.glob, I.ok.blt, by rw [hC]; exact Nat.le_refl _, fun x y c h1 h2 => I.ok.inj x y c (sub x c h1) (sub y c h2), fun x hx => ?_, fun x c h => absurd h Bool.false_ne_true, I.ok.hd, I.ok.frames, .inl rfl, fun b hb => ?_, I.bs,
    Nat.le_trans I.ok.bsz I.sz, fun b o e hb => ?_, fun b hb hs => ?_, I.stack, I.stkFree⟩, rfl, I.bare, Un.kept hk, ⟨_, hns, fun i x v e1 e2 e3 => ?_⟩, fun x c e => ?_, ?_, fun x c e => I.freeC x c (sub x c e), fun p hp => ?_, I.hok.kept hk, ?_⟩
  · rcases hx with hx | hx
    · exact clOf_has (relabel_free S.nocell (.inl rfl) hx)
    · exact clOf_has (relabel_free S.nocell (.inr rfl) hx)
  · obtain ⟨f0, f1, f2, f3, f4, f5⟩ := hf b hb
    refine ⟨?_, fun x c e => f4 x c (sub x c e)⟩
    show b ≠ C
    obtain ⟨o, ho⟩ := hfo b hb
    exact gt b (Heap.lt_size ho)
  · obtain ⟨f0, f1, f2, f3, f4, f5⟩ := hf b hb
    rcases f3 with z | z
    · exact I.ok.noex b o e z
    · exact absurd (Nat.lt_of_lt_of_le (Heap.lt_size e) (Nat.le_trans I.ok.bsz z)) (Nat.lt_irrefl _)
  · obtain ⟨f0, f1, f2, f3, f4, f5⟩ := hf b hb
    rcases List.mem_cons.mp (I.stkSub b hs) with z | z
    · exact f1 z
    · exact f2 z
  · have hsrc : ∃ q, src[i]? = some q := by
      cases q : src[i]? with
      | some q0 => exact ⟨q0, rfl⟩
      | none =>
        have e2' : (bSt src σ acc)[i]? = some (some v) := e2
        unfold bSt at e2'
        rw [List.getElem?_map, q] at e2'; cases e2'
    obtain ⟨q, hq⟩ := hsrc
    have e2' : (bSt src σ acc)[i]? = some (some v) := e2
    unfold bSt at e2'
    rw [List.getElem?_map, hq] at e2'
    have e2'' : bSlot σ acc q = some v := Option.some.inj e2'
    cases q with
    | own => cases e2''
    | acc =>
      exfalso
      have hno := lookup_none_relabel (env := X.env) (S.acc i x hq e1)
      have hno' : (relabel scope X.env).names.lookup x = none := hno
      have e3' : Vis (relabel scope X.env) x := e3
      rcases e3' with z | z | z
      · rw [hno'] at z; cases z
      · rw [hno'] at z; cases z
      · rw [hno'] at z; cases z
    | cap j =>
      obtain ⟨hj, hkind, hfr⟩ := S.cap i j x hq e1
      have hσ : σ[j]? = some (some v) := by
        have e4 : (σ[j]?).join = some v := e2''
        cases r : σ[j]? with
        | none => rw [r] at e4; cases e4
        | some o => rw [r] at e4; cases o with
          | none => cases e4
          | some w' => cases e4; rfl
      obtain ⟨m, hn, hl⟩ := I.loc
      obtain ⟨u, ru, l⟩ := hl j x v hj hσ (by rcases hkind with z | z; exact .inr (.inl z); exact .inr (.inr z))
      refine ⟨u, ru, ?_⟩
      rcases l with ⟨z, _⟩ | ⟨_, c, hc, hcell⟩
      · rcases hkind with y | y
        · rw [y] at z; cases z
        · rw [y] at z; cases z
      · have e3' : Vis (relabel scope X.env) x := e3
        have fin : ∀ kk, kk = .cell ∨ kk = .free → (relabel scope X.env).names.lookup x = some kk → Look (X.block N' scope C s H fp).env h1 (fun _ => none) x u := fun kk hkk hx => by
          obtain ⟨c', hc'⟩ := clOf_has (cells := X.env.cells) (cs := []) (relabel_free S.nocell hkk hx)
          have := sub x c' hc'
          rw [hc] at this; cases this
          obtain ⟨oc, hoc, hocd⟩ := hcell
          refine .inr ⟨?_, c, hc', oc, hk c oc hoc, hocd⟩
          rcases hkk with y | y
          · subst y; exact .inl hx
          · subst y; exact .inr hx
        rcases e3' with z | z | z
        · exfalso
          have z' : (relabel scope X.env).names.lookup x = some .local := z
          rcases lookup_free_relabel (env := X.env) hfr with y | y
          · have y' : (relabel scope X.env).names.lookup x = some .cell := y
            rw [z'] at y'; cases y'
          · have y' : (relabel scope X.env).names.lookup x = some .free := y
            rw [z'] at y'; cases y'
        · exact fin .cell (.inl rfl) z
        · exact fin .free (.inr rfl) z
  · obtain ⟨v, oc, hoc, hocd⟩ := I.cell x c (sub x c e)
    exact ⟨v, oc, hk c oc hoc, hocd⟩
  · show H C = none
    rw [hC]; exact I.hok.fresh (Nat.le_refl _)
  · have hp' : p ∈ ([] : List (Addr × Obj)) := by simpa using hp
    exact nomatch hp'
  · show (bSt src σ acc).length = N'.length
    unfold bSt
    rw [List.length_map]; exact S.len

noncomputable def tComp (src : List BSrc) (wi : TI) (g : TG) (tt : TT) (te : TE) : TE := fun σ H Q => wi σ H fun J H1 => ∀ acc, H1 acc = none →
  ∃ W : Nat → Nat → St → Hp → Prop, (∃ m, W 0 m (bSt src σ acc) (upd H1 acc (.lst []))) ∧ ∀ i m σ' H, W i m σ' H → (J.stop i H ∧ Q (.ref acc) H) ∨
    (J.go i H ∧ ∀ x H', J.yld i H x H' → g x σ' H' fun σ2 H2 => tt σ2 H2 fun b H3 => if b = true then te σ2 H3 fun y H4 => rAppend (.ref acc) [y] H4 fun _ H5 => ∃ m', m' < m ∧ W (i + 1) m' σ2 H5 else ∃ m', m' < m ∧ W (i + 1) m' σ2 H3)
noncomputable def PTs (X : Cx) (ifs : List Expr) (t : TT) : Prop :=
  ∀ (pins : List (Addr × Obj)) (s : Shared) (σ : St) (H : Hp) (Q : Bool → Hp → Prop), Inv X pins σ H s → t σ H Q →
    wpAny (model X.prog X.w) X.A (forIn ifs true fun c r => if r = true then do let ok ← isTrue c X.env (eval c X.env); pure (ForInStep.yield ok) else pure (ForInStep.yield r)) (TP X pins σ Q) X.xe s
noncomputable def tTrue : TT := fun _ H Q => Q true H
theorem pts_nil : PTs X [] tTrue := fun _ s σ H Q I h => wpAny_tests_nil ⟨H, I, h⟩

theorem comp_loop {prog : Program} {w : World} {A : Around} {s : Shared} {elt target iter : Expr} {ifs : List Expr} {scope : Scope} {pos : Pos} {it acc : Value} {env : Env} {R : Result → Shared → Prop} (I : Nat → Shared → Prop)
    (turn : ∀ n s, I n s → wpAny (model prog w) A (pyNext it) (fun r s₁ => match r with
      | none => R (.ok .next) s₁
      | some v => wpAny (model prog w) A (letOwnedTupleGo target it v) (fun _ s₀ => wpAny (model prog w) A (assign target env v) (fun _ s₂ =>
          wpAny (model prog w) A (forIn ifs true fun c r => if r = true then do let ok ← isTrue c env (eval c env); pure (ForInStep.yield ok) else pure (ForInStep.yield r)) (fun ok s₃ => if ok = true then wpAny (model prog w) A (eval elt env) (fun x s₄ =>
            wpAny (model prog w) A (call (.builtin "list.append") [acc, x]) (fun _ s₅ => ∃ m, m < n ∧ I m s₅) (fun _ _ => False) s₄) (fun _ _ => False) s₃
            else ∃ m, m < n ∧ I m s₃) (fun _ _ => False) s₂)
          (fun _ _ => False) s₀) (fun _ _ => False) s₁) (fun _ _ => False) s)
    (n : Nat) (h : I n s) : codeAny (model prog w) A (.compLoop (.ListComp elt [⟨target, iter, ifs, 0⟩] scope pos) 0 it acc env) R s := by
  refine codeAny_loop rfl I (fun n s hI => ?_) n h
  show wpAny _ A ((compTurn (.ListComp elt [⟨target, iter, ifs, 0⟩] scope pos) 0 it acc env).onRaise (fun x => do noteFrame x env; theTreesLotGoes x)) _ _ s
  refine wpAny_noted ?_
  rw [compTurn_list]
  refine wpAny_bind (wpAny_standAt (wpAny_bind (wpAny_mono (turn n s hI) (fun r s₁ h₁ => ?_) fun _ _ f => f.elim)))
  cases r with
  | none => exact wpAny_pure h₁
  | some v =>
    refine wpAny_bind (wpAny_mono h₁ (fun _ s₀ h₀' => ?_) fun _ _ f => f.elim)
    refine wpAny_bind (wpAny_mono h₀' (fun _ s₂ h₂ => ?_) fun _ _ f => f.elim)
    refine wpAny_bind (wpAny_mono h₂ (fun okb s₃ h₃ => ?_) fun _ _ f => f.elim)
    cases okb with
    | false => exact wpAny_pure ⟨rfl, h₃⟩
    | true => exact wpAny_bind (wpAny_bind (wpAny_mono h₃ (fun x s₄ h₄ => wpAny_bind (wpAny_mono h₄ (fun _ s₅ h₅ => wpAny_pure (wpAny_pure ⟨rfl, h₅⟩)) fun _ _ f => f.elim)) fun _ _ f => f.elim))

theorem comp_block {tg elt iter : Expr} {ifs : List Expr} {pos : Pos} {g : TG} {tt : TT} {te : TE} {it : Addr} {tn : Nat → Heap → Prop} {J : It} {Q : VK} {RR : Value → Addr → Result → Shared → Prop} {E : Value → Shared → Prop}
    (hc : X.calm = true) (S : CompScope X N' scope src)
    (hg : ∀ (C : Addr) (s₀ : Shared) (H₀ : Hp) (ex : List Addr), PG (X.block N' scope C s₀ H₀ ex) tg g)
    (ht : ∀ (C : Addr) (s₀ : Shared) (H₀ : Hp) (ex : List Addr), PTs (X.block N' scope C s₀ H₀ ex) ifs tt)
    (he : ∀ (C : Addr) (s₀ : Shared) (H₀ : Hp) (ex : List Addr), PE (X.block N' scope C s₀ H₀ ex) elt te)
    (I : Inv X pins σ H s) (T : Turn X.prog X.w X.K tg J fp it tn) (st : tn 0 s.heap) (hf : ∀ b ∈ fp, FpOk X pins H b)
    (q : ∀ acc, H acc = none → ∃ W : Nat → Nat → St → Hp → Prop, (∃ m, W 0 m (bSt src σ acc) (upd H acc (.lst []))) ∧ ∀ i m σ' H, W i m σ' H → (J.stop i H ∧ Q (.ref acc) H) ∨
      (J.go i H ∧ ∀ x H', J.yld i H x H' → g x σ' H' fun σ2 H2 => tt σ2 H2 fun b H3 => if b = true then te σ2 H3 fun y H4 => rAppend (.ref acc) [y] H4 fun _ H5 => ∃ m', m' < m ∧ W (i + 1) m' σ2 H5 else ∃ m', m' < m ∧ W (i + 1) m' σ2 H3))
    (hRR : ∀ (acc C : Addr) (s' : Shared) (H' : Hp) (m : Str → Option Value), Inv X pins σ H' s' → Q (.ref acc) H' → s'.heap.Ns C m → H' C = none → C ≠ X.env.locals → X.s₀.heap.objs.size ≤ C → (∀ x c, X.env.cells.lookup x = some c → c ≠ C) → (∀ p ∈ X.pn ++ pins, p.1 ≠ C) →
      RR (.ref acc) C (.ok .next) s') :
    wpAny (model X.prog X.w) X.A (newList []) (fun acc s₃ => wpAny (model X.prog X.w) X.A (newFunctionEnv scope X.env.globals (clOf X.env.cells scope.names []) [] X.env.qual none .none (some X.env)) (fun cenv s₄ =>
      codeAny (model X.prog X.w) X.A (.compStart (.ListComp elt [⟨tg, iter, ifs, 0⟩] scope pos) 0 (.ref it) acc { cenv with scope := relabel scope X.env }) (RR acc cenv.locals) s₄) E s₃) E s := by
  have hfo : ∀ b ∈ fp, ∃ o, s.heap.get? b = some o := fun b hb => let ⟨o, e, _⟩ := T.obj 0 _ st b hb; ⟨o, e⟩
  refine wpAny_newObj_type (wpAny_newFunctionEnv S.nocell (by intro y hy; simp at hy) (fun h₁ hns₁ hsb₁ => ?_) S.kind)
  dsimp only at hns₁ hsb₁ ⊢
  have hacc : H s.heap.objs.size = none := I.hok.fresh (Nat.le_refl _)
  have I3 : Inv X pins σ (upd H s.heap.objs.size (.lst [])) { s with heap := s.heap.push { cls := .type "list", dict := none, data := .seq ([] : List Value).toArray } } := I.lnew (t' := s.toks) (its := []) (ys := []) .nil (Nat.zero_le _)
  have hf3 : ∀ b ∈ fp, FpOk X pins (upd H s.heap.objs.size (.lst [])) b := fun b hb => by
    obtain ⟨f0, f⟩ := hf b hb
    obtain ⟨o, ho⟩ := hfo b hb
    exact ⟨by rw [upd_ne (Nat.ne_of_lt (Heap.lt_size ho))]; exact f0, f⟩
  have hfo3 : ∀ b ∈ fp, ∃ o, (s.heap.push { cls := .type "list", dict := none, data := .seq ([] : List Value).toArray }).get? b = some o := fun b hb => let ⟨o, e⟩ := hfo b hb; ⟨o, Heap.get?_push_of_some _ e⟩
  obtain ⟨W, ⟨m0, w0⟩, turn⟩ := q _ hacc
  generalize hH2 : s.heap.push { cls := .type "list", dict := none, data := .seq ([] : List Value).toArray } = H2 at hns₁ hsb₁ I3 hfo3 ⊢
  have keep : ∀ b o, H2.get? b = some o → h₁.get? b = some o := fun b o e => hsb₁.extBut b o (Nat.ne_of_lt (Heap.lt_size e)) (Heap.get?_push_of_some _ e)
  have J0 := block_start (N' := N') (scope := scope) (src := src) (acc := s.heap.objs.size) (tk := s.toks + ([] : List (Str × Value)).length) (C := H2.objs.size) S I3 rfl hf3 hfo3 (show h₁.Ns H2.objs.size (fun _ => none) from hns₁) keep
  have st1 : tn 0 h₁ := T.keep 0 s.heap h₁ st fun b hb o e => keep b o (by rw [← hH2]; exact Heap.get?_push_of_some _ e)
  have cne : H2.objs.size ≠ X.env.locals := Nat.ne_of_gt I3.lt
  have csz : X.s₀.heap.objs.size ≤ H2.objs.size := I3.sz
  have ccell : ∀ x c, X.env.cells.lookup x = some c → c ≠ H2.objs.size := fun x c e z => by
    obtain ⟨v, oc, hoc, _⟩ := I3.cell x c e
    exact absurd (Heap.lt_size hoc) (by rw [z]; exact Nat.lt_irrefl _)
  have cpin : ∀ p ∈ X.pn ++ pins, p.1 ≠ H2.objs.size := fun p hp z => absurd (Heap.lt_size (I3.pin p hp).1) (by rw [z]; exact Nat.lt_irrefl _)
  have loop : ∀ s₃ : Shared, s₃ = { s with heap := h₁, toks := s.toks + ([] : List (Str × Value)).length } →
      codeAny (model X.prog X.w) X.A (.compLoop (.ListComp elt [⟨tg, iter, ifs, 0⟩] scope pos) 0 (.ref it) (.ref s.heap.objs.size) (compEnvC scope (clOf X.env.cells scope.names []) H2.objs.size X.env)) (RR (.ref s.heap.objs.size) H2.objs.size) s₃ := by
    rintro s₃ rfl
    refine comp_loop (fun n s' => ∃ i σ' H', Inv (X.block N' scope H2.objs.size { s with heap := H2 } (upd H s.heap.objs.size (.lst [])) fp) [] σ' H' s' ∧ tn i s'.heap ∧ (∀ b ∈ fp, H' b = none) ∧ W i n σ' H') ?_ m0 ⟨0, _, _, J0, st1, fun b hb => (hf3 b hb).1, w0⟩
    rintro n s4 ⟨i, σ4, H4, J4, st4, fr4, w4⟩
    have fok : ∀ {H' : Hp}, (∀ b ∈ fp, H' b = none) → ∀ b ∈ fp, FpOk (X.block N' scope H2.objs.size { s with heap := H2 } (upd H s.heap.objs.size (.lst [])) fp) [] H' b := fun {H'} hn b hb => by
      obtain ⟨f0, f1, f2, f3, f4, f5⟩ := hf3 b hb
      refine ⟨hn b hb, ?_, fun z => J4.ok.exfs b hb z, .inl hb, fun x c e => (J4.ok.exf b hb).2 x c e, fun p hp => ?_⟩
      · exact (J4.ok.exf b hb).1
      · have hp' : p ∈ ([] : List (Addr × Obj)) := by simpa using hp
        exact nomatch hp'
    rcases turn i n σ4 H4 w4 with ⟨stop, qn⟩ | ⟨go, step⟩
    · refine thn (T.done (X.block N' scope H2.objs.size { s with heap := H2 } (upd H s.heap.objs.size (.lst [])) fp) rfl rfl rfl hc i [] s4 σ4 H4 _ J4 (fok fr4) st4 stop) fun r s5 ⟨hr, J5⟩ => ?_
      subst hr
      obtain ⟨m5, hn5, _⟩ := J5.loc
      have I5 : Inv X pins σ H4 s5 := I3.call' (ch := fp) J5.os J5.base J5.hok J5.bare fun b hb => by
        obtain ⟨f0, f1, f2, f3, f4, f5⟩ := hf3 b hb
        exact ⟨f3, f1, f4, f5⟩
      exact hRR _ _ s5 H4 m5 I5 qn hn5 J5.free cne csz ccell cpin
    · refine thn (T.item (X.block N' scope H2.objs.size { s with heap := H2 } (upd H s.heap.objs.size (.lst [])) fp) rfl rfl rfl hc i [] s4 σ4 H4 _ J4 (fok fr4) st4 go) fun r s5 ⟨u, hr, h5⟩ => ?_
      subst hr
      refine thn h5 fun _ s6 ⟨x, H6, J6, r6, y6, st6, fr6⟩ => ?_
      have J6' := J6.pinned (fok fr6) (T.obj _ _ st6)
      have again : ∀ {σ7 : St} {H7 : Hp} {s7 : Shared}, Inv (X.block N' scope H2.objs.size { s with heap := H2 } (upd H s.heap.objs.size (.lst [])) fp) ([] ++ pinsAt fp s6.heap) σ7 H7 s7 → (∃ m', m' < n ∧ W (i + 1) m' σ7 H7) →
          ∃ m, m < n ∧ ∃ i σ' H', Inv (X.block N' scope H2.objs.size { s with heap := H2 } (upd H s.heap.objs.size (.lst [])) fp) [] σ' H' s7 ∧ tn i s7.heap ∧ (∀ b ∈ fp, H' b = none) ∧ W i m σ' H' := fun {σ7 H7 s7} J7 ⟨m', hm, w7⟩ => by
        refine ⟨m', hm, i + 1, σ7, H7, J7.unpinned, T.keep _ _ _ st6 fun b hb o e => (J7.pin (b, o) (List.mem_append_right _ (List.mem_append_right _ (mem_pinsAt hb e)))).1, fun b hb => ?_, w7⟩
        obtain ⟨o, e, d⟩ := T.obj _ _ st6 b hb
        exact (J7.pin (b, o) (List.mem_append_right _ (List.mem_append_right _ (mem_pinsAt hb e)))).2.1
      refine thn (hg _ _ _ _ _ s6 σ4 H6 x u _ J6' r6 (step x H6 y6)) fun _ s7 ⟨σ7, H7, J7, q7⟩ => ?_
      refine thn (ht _ _ _ _ _ s7 σ7 H7 _ J7 q7) fun b s8 ⟨H8, J8, q8⟩ => ?_
      cases b with
      | false => rw [if_neg Bool.false_ne_true] at q8 ⊢; exact again J8 q8
      | true =>
        rw [if_pos rfl] at q8 ⊢
        refine thn (he _ _ _ _ _ s8 σ7 H8 _ J8 q8) fun y s9 ⟨vy, H9, J9, r9, q9⟩ => ?_
        refine thn (mt_append _ s9 σ7 H9 (.ref s.heap.objs.size) [vy] (.ref s.heap.objs.size) [y] _ J9 rfl (.cons r9 .nil) q9) fun _ s10 ⟨_, H10, J10, _, q10⟩ => again J10 q10
  exact codeAny_compStart_list (loop _ rfl) (T.self X.A 0 _ _ _ st1 (loop _ rfl))

theorem pe_comp {tg elt iter : Expr} {ifs : List Expr} {pos : Pos} {wi : TI} {g : TG} {tt : TT} {te : TE} (hc : X.calm = true) (S : CompScope X N' scope src) (hi : PI X tg iter wi)
    (hg : ∀ (C : Addr) (s₀ : Shared) (H₀ : Hp) (ex : List Addr), PG (X.block N' scope C s₀ H₀ ex) tg g)
    (ht : ∀ (C : Addr) (s₀ : Shared) (H₀ : Hp) (ex : List Addr), PTs (X.block N' scope C s₀ H₀ ex) ifs tt)
    (he : ∀ (C : Addr) (s₀ : Shared) (H₀ : Hp) (ex : List Addr), PE (X.block N' scope C s₀ H₀ ex) elt te)
    (hs : ∀ x, foldedSetIterable iter X.env x = pure x := by intro _; rfl) : PE X (.ListComp elt [⟨tg, iter, ifs, 0⟩] scope pos) (tComp src wi g tt te) := by
  intro pins s σ H Q I h
  rw [eval_ListComp]
  refine wpAny_comprehension_free (use := none) rfl hs (closureFor_of fun y hy e => I.ok.has y.1 (S.free y hy e)) S.kind S.names (thn (hi pins s σ H _ I h) fun v s1 h1 => thn h1 fun itv s2 h2 => ?_)
  obtain ⟨it, fp, tn, J, H2, e, I2, T, st2, f2, q⟩ := h2
  subst e
  refine comp_block hc S hg ht he I2 T st2 f2 q fun acc C s' H' m I' q' hn hC c1 c2 c3 c4 => ⟨m, hn, fun h' hs' => ?_⟩
  exact ⟨.ref acc, H', I'.turned (t' := s'.toks) (fun b o hb e => (hs'.2 b hb).trans e) hC c1 (.inr c2) c3 c4, rfl, q'⟩
end
end L2

/-! EXCEPTIONS: what a raised thing is, and that a frame which it leaves keeps all else -/
namespace L2
open PySem PySem.Spec PyProof.Rows
noncomputable def without (h : Heap) (xs : List Addr) : Heap := { objs := (Array.range h.objs.size).map fun a => if a ∈ xs then { cls := .none, data := .freed } else (h.objs[a]?).getD { cls := .none, data := .freed } }
structure Raised (h : Heap) (e : Addr) (cls : Value) (dx tb : Option Addr) : Prop where
  obj : ∃ oe vs, h.get? e = some oe ∧ oe.cls = cls ∧ oe.dict = dx ∧ oe.data = .fields vs ∧ vs[1]? = some (match tb with | none => .none | some T => .ref T)
  tr : ∀ T, tb = some T → T ≠ e ∧ ∃ oT ts fl, h.get? T = some oT ∧ oT.data = .fields ts ∧ ts[3]? = some fl
noncomputable def tbl' : Option Addr → List Addr
  | none => []
  | some T => [T]
structure Noted (l : List Addr) (h h' : Heap) (e : Addr) (cls : Value) (dx tb : Option Addr) (T : Addr) : Prop where
  keep : ∀ b o, b ≠ e → b ∉ tbl' tb → b ∉ l → h.get? b = some o → h'.get? b = some o
  slot : ∀ b o, b ∈ l → h.get? b = some o → ∃ sl, h'.get? b = some { o with slots := sl }
  new : h.get? T = none ∨ some T = tb
  r : Raised h' e cls dx (some T)
section
variable {M : Model} {A : Around} {E : Value → Shared → Prop} {s : Shared} {base : Heap} {env : Env} {outer : List Env} {L e : Addr} {cls : Value} {dx tb : Option Addr} {Q : Unit → Shared → Prop}
theorem dict_map (o : Obj) (f : Array Value → Array Value) : (o.mapFields f).dict = o.dict := by
  obtain ⟨c, d, dt, sl⟩ := o
  cases dt <;> rfl
theorem entry_any {oe : Obj} {vs : Array Value} {head : Value} {hadNext : Bool} (hf : A.frames = some (env :: outer)) (ff : s.heap.FunFrames base (env :: outer)) (hL : env.frame = some L)
    (h1 : s.heap.get? e = some oe) (h3 : oe.data = .fields vs) (hz : 1 < vs.size) (he : e ∉ frs (env :: outer))
    (h : ∀ h' T, (∀ b o, b ≠ e → b ∉ frs (env :: outer) → s.heap.get? b = some o → h'.get? b = some o) → (∀ b o, b ≠ e → b ∈ frs (env :: outer) → s.heap.get? b = some o → ∃ sl, h'.get? b = some { o with slots := sl }) → s.heap.get? T = none → T ≠ e →
      h'.get? e = some (oe.mapFields (·.setIfInBounds 1 (.ref T))) → (∃ oT ts fl, h'.get? T = some oT ∧ oT.data = .fields ts ∧ ts[3]? = some fl) → Q () { s with heap := h' }) :
    wpAny M A (do let a ← frameOf env; let pl ← entryPlaceOf L hadNext; let b ← EntryCells.newEntry head a .none (rawInt L) .none pl; setField (.ref e) 1 b) Q E s := by
  refine wpAny_bind (wpAny_frameOf_fun hf ff hL fun g1 sl1 => wpAny_bind (wpAny_entryPlaceOf fun pl ip => ?_))
  unfold EntryCells.newEntry newFields
  have e1 : g1.get? e = some oe := (sl1.2.1 e he).trans h1
  refine wpAny_bind (wpAny_newObj_type (wpAny_setField (Heap.get?_push_of_some _ e1) h3 hz ?_) (ip.sizeOk5 _ _ _ _ _))
  have ne : g1.objs.size ≠ e := Nat.ne_of_gt (Heap.lt_size e1)
  have kp : ∀ b o, b ≠ e → g1.get? b = some o → ((g1.push { cls := .type "traceback", dict := none, data := .fields ([head, .ref L, .none, rawInt L, .none] ++ (if pl.isEmpty then List.replicate 6 Value.none else pl)).toArray }).update e (Obj.mapFields (·.setIfInBounds 1 (Value.ref g1.objs.size)))).get? b = some o := fun b o nb q => by
    rw [Heap.get?_update_other _ _ (Ne.symm nb)]
    exact Heap.get?_push_of_some _ q
  refine h _ g1.objs.size (fun b o nb nf q => kp b o nb ((sl1.2.1 b nf).trans q)) (fun b o nb hb q => ?_) (Heap.get?_none_of_le (by rw [sl1.1]; exact Nat.le_refl _)) ne ?_ ?_
  · obtain ⟨sl, q1⟩ := sl1.2.2 b o q
    exact ⟨sl, kp b _ nb q1⟩
  · exact Heap.get?_update_self _ (Heap.get?_push_of_some _ e1) (Obj.isFreed_of_fields (Obj.data_mapFields h3 _))
  · refine ⟨_, _, rawInt L, (Heap.get?_update_other _ _ (Ne.symm ne)).trans (Heap.get?_push_size g1 rfl), rfl, ?_⟩
    simp
theorem note_any (hf : A.frames = some (env :: outer)) (ff : s.heap.FunFrames base (env :: outer)) (hL : env.frame = some L) (r : Raised s.heap e cls dx tb)
    (h : ∀ h' T, Noted (frs (env :: outer)) s.heap h' e cls dx tb T → Q () { s with heap := h' }) : wpAny M A (noteFrame (.ref e) env) Q E s := by
  obtain ⟨oe, vs, h1, h2, hd, h3, h5⟩ := r.obj
  have norec : ∀ b o ws, s.heap.get? b = some o → o.data = .fields ws → b ∉ frs (env :: outer) := fun b o ws q qd hm => by
    obtain ⟨_, o', q1, q2⟩ := ff.mem hm
    rw [q] at q1; cases q1
    exact q2 ws qd
  have he := norec e oe vs h1 h3
  have hz : 1 < vs.size := (Array.getElem?_eq_some_iff.mp h5).1
  have obj' : ∀ (h' : Heap) (T : Addr), h'.get? e = some (oe.mapFields (·.setIfInBounds 1 (.ref T))) → ∃ oe vs, h'.get? e = some oe ∧ oe.cls = cls ∧ oe.dict = dx ∧ oe.data = .fields vs ∧ vs[1]? = some (.ref T) := fun h' T q =>
    ⟨_, _, q, (Obj.cls_mapFields _ _).trans h2, (dict_map _ _).trans hd, Obj.data_mapFields h3 _, by simp [hz]⟩
  unfold noteFrame
  simp only [hL]
  refine wpAny_bind (wpAny_field h1 h3 h5 ?_)
  cases tb with
  | none =>
    rw [if_neg (by decide)]
    exact entry_any hf ff hL h1 h3 hz he fun h' T k1 k2 k3 k4 k5 k6 => h h' T ⟨fun b o n1 _ n3 q => k1 b o n1 n3 q, fun b o hb q => k2 b o (fun z => he (z ▸ hb)) hb q, .inl k3, obj' h' T k5, fun T' z => by cases z; exact ⟨k4, k6⟩⟩
  | some T0 =>
    obtain ⟨r1, oT, ts, fl, r2, r3, r4⟩ := r.tr T0 rfl
    have hT := norec T0 oT ts r2 r3
    rw [if_pos (show (Value.ref T0 != Value.none) = true from by simp)]
    refine wpAny_bind (wpAny_field r2 r3 r4 ?_)
    by_cases hfl : (fl == rawInt L) = true
    · rw [if_pos hfl]
      exact wpAny_pure (h s.heap T0 ⟨fun _ _ _ _ _ q => q, fun b o _ q => ⟨o.slots, q⟩, .inr rfl, r⟩)
    · rw [if_neg hfl]
      have oth : ∀ b, b ≠ T0 → (s.heap.update T0 (Obj.mapFields (·.setIfInBounds 3 Value.none))).get? b = s.heap.get? b := fun b hb => Heap.get?_update_other _ _ (Ne.symm hb)
      have sz3 := (Array.getElem?_eq_some_iff.mp r4).1
      have atT : (s.heap.update T0 (Obj.mapFields (·.setIfInBounds 3 Value.none))).get? T0 = some (oT.mapFields (·.setIfInBounds 3 Value.none)) := Heap.get?_update_self _ r2 (Obj.isFreed_of_fields (Obj.data_mapFields r3 _))
      refine wpAny_bind (wpAny_setField r2 r3 sz3 (entry_any (base := base) hf (ff.of_keeps fun b o q nf => ⟨o, (oth b fun z => nf ts (by rw [z, r2] at q; cases q; exact r3)).trans q, rfl⟩) hL ((oth e (Ne.symm r1)).trans h1) h3 hz he fun h' T k1 k2 k3 k4 k5 k6 => ?_))
      refine h h' T ⟨fun b o n1 n2 n3 q => k1 b o n1 n3 ((oth b fun z => n2 (by rw [z]; exact List.mem_singleton.mpr rfl)).trans q), fun b o hb q => k2 b o (fun z => he (z ▸ hb)) hb ((oth b fun z => hT (z ▸ hb)).trans q), ?_, obj' h' T k5, fun T' z => by cases z; exact ⟨k4, k6⟩⟩
      by_cases z : T = T0
      · exact .inr (by rw [z])
      · exact .inl ((oth T z).symm.trans k3)
theorem flight_any {T : Addr} {fr : Option Addr} {l : List Addr} (r : Raised s.heap e cls dx (some T)) (hn : ∀ b o ws, s.heap.get? b = some o → o.data = .fields ws → b ∉ l)
    (h : ∀ h', Noted l s.heap h' e cls dx (some T) T → Q () { s with heap := h' }) : wpAny M A (setFlight (.ref e) fr) Q E s := by
  obtain ⟨oe, vs, h1, h2, hd, h3, h5⟩ := r.obj
  obtain ⟨r1, oT, ts, fl, r2, r3, r4⟩ := r.tr T rfl
  have sz3 := (Array.getElem?_eq_some_iff.mp r4).1
  unfold setFlight
  refine wpAny_bind (wpAny_field h1 h3 h5 ?_)
  rw [if_pos (show (Value.ref T != Value.none) = true from by simp)]
  have oth : ∀ b, b ≠ T → (s.heap.update T (Obj.mapFields (·.setIfInBounds 3 (fr.elim .none fun f => rawInt f)))).get? b = s.heap.get? b := fun b hb => Heap.get?_update_other _ _ (Ne.symm hb)
  refine wpAny_setField r2 r3 sz3 (h _ ⟨fun b o n1 n2 n3 q => (oth b fun z => n2 (by rw [z]; exact List.mem_singleton.mpr rfl)).trans q, fun b o hb q => ⟨o.slots, (oth b fun z => hn T oT ts r2 r3 (z ▸ hb)).trans q⟩, .inr rfl, ⟨oe, vs, (oth e (Ne.symm r1)).trans h1, h2, hd, h3, h5⟩, fun T' z => ?_⟩)
  cases z
  exact ⟨r1, _, _, fr.elim .none fun f => rawInt f, Heap.get?_update_self _ r2 (Obj.isFreed_of_fields (Obj.data_mapFields r3 _)), Obj.data_mapFields r3 _, by simp [sz3]⟩
theorem Noted.trans {l : List Addr} {h h1 h2 : Heap} {T T' : Addr} (a : Noted l h h1 e cls dx tb T) (b : Noted l h1 h2 e cls dx (some T) T') (hT : T ∉ l) (hT0 : ∀ T0, tb = some T0 → h.get? T = none ∨ T = T0) : Noted l h h2 e cls dx tb T' := by
  have nT : ∀ b o, b ∉ tbl' tb → h.get? b = some o → b ≠ T := fun b o n q z => by
    rcases a.new with k | k
    · rw [z, k] at q; cases q
    · rw [← k] at n; exact n (by rw [z]; exact List.mem_singleton.mpr rfl)
  refine ⟨fun c o n1 n2 n3 q => b.keep c o n1 (fun z => nT c o n2 q (List.mem_singleton.mp z)) n3 (a.keep c o n1 n2 n3 q), fun c o hc q => ?_, ?_, b.r⟩
  · obtain ⟨sl, q1⟩ := a.slot c o hc q
    obtain ⟨sl', q2⟩ := b.slot c _ hc q1
    exact ⟨sl', q2⟩
  · rcases b.new with k | k
    · by_cases hm : some T' = tb
      · exact .inr hm
      · refine .inl ?_
        cases z : h.get? T' with
        | none => rfl
        | some o =>
          exfalso
          by_cases hl : T' ∈ l
          · obtain ⟨sl, q1⟩ := a.slot T' o hl z
            rw [k] at q1; cases q1
          · by_cases he : T' = e
            · obtain ⟨oe, vs, q1, _⟩ := a.r.obj
              rw [← he, k] at q1; cases q1
            · have := a.keep T' o he (fun y => hm (by cases tb with
                | none => cases y
                | some T0 => rw [List.mem_singleton.mp y])) hl z
              rw [k] at this; cases this
    · cases k
      rcases a.new with k | k
      · exact .inl k
      · exact .inr k
theorem leaving_raised (hf : A.frames = some (env :: outer)) (ff : s.heap.FunFrames base (env :: outer)) (hL : env.frame = some L) (r : Raised s.heap e cls dx tb)
    (h : ∀ h' T, Noted (frs (env :: outer)) s.heap h' e cls dx tb T → Q () { s with heap := h' }) : wpAny M A (leaving env (.ref e)) Q E s := by
  have norec : ∀ b o ws, s.heap.get? b = some o → o.data = .fields ws → b ∉ frs (env :: outer) := fun b o ws q qd hm => by
    obtain ⟨_, o', q1, q2⟩ := ff.mem hm
    rw [q] at q1; cases q1
    exact q2 ws qd
  unfold leaving
  refine wpAny_bind (note_any hf ff hL r fun h1 T1 n1 => ?_)
  have norec1 : ∀ b o ws, h1.get? b = some o → o.data = .fields ws → b ∉ frs (env :: outer) := fun b o ws q qd hm => by
    obtain ⟨_, o', q1, q2⟩ := ff.mem hm
    obtain ⟨sl, q3⟩ := n1.slot b o' hm q1
    rw [q] at q3; cases q3
    exact q2 ws qd
  refine flight_any (s := { s with heap := h1 }) n1.r norec1 fun h2 n2 => ?_
  obtain ⟨_, oT, ts, fl, r2, r3, _⟩ := n1.r.tr T1 rfl
  exact h h2 T1 (n1.trans n2 (norec1 T1 oT ts r2 r3) fun T0 z => by
    rcases n1.new with k | k
    · exact .inl k
    · rw [z] at k; cases k; exact .inr rfl)
end
end L2

namespace L2
open PySem PySem.Spec PyProof.Rows
noncomputable def CX1 (P : Program) (w : World) : CXT := fun outer H s E e s' => ∃ (a : Addr) (cls : Value) (dx : Option Addr) (T : Addr) (H' : Hp), e = .ref a ∧ s'.os = s.os ∧ AllBare s'.gens ∧ Un (frs outer) [] H H' s.heap s'.heap ∧ HOk P w H' s'.heap ∧
  Raised s'.heap a cls dx (some T) ∧ s.heap.get? a = none ∧ s.heap.get? T = none ∧ H' a = none ∧ H' T = none ∧ E cls dx H'
noncomputable def Throws (X : Cx) (EX : XK) : Prop := ∀ (pins : List (Addr × Obj)) (σ : St) (H : Hp) (s : Shared) (e : Addr) (cls : Value) (dx tb : Option Addr), Inv X pins σ H s → Raised s.heap e cls dx tb → X.s₀.heap.get? e = none → H e = none →
  (∀ T, tb = some T → X.s₀.heap.get? T = none ∧ H T = none) → EX cls dx H → X.xe (.ref e) s
theorem ObjOk.has {P : Program} {w : World} {H : Hp} {h : Heap} {a : Addr} : ∀ {o : HO}, ObjOk P w H h a o → ∃ u, h.get? a = some u := by
  intro o
  induction o with
  | lst xs => intro ⟨_, _, _, _, e⟩; exact ⟨_, e⟩
  | tup xs => intro ⟨_, _, _, _, e, _⟩; exact ⟨_, e⟩
  | dK kvs ep => intro ⟨_, _, _, _, o, _, e, _⟩; exact ⟨_, e⟩
  | dT kvs ep bs => intro ⟨_, _, _, _, o, _, e, _⟩; exact ⟨_, e⟩
  | set S n => intro ⟨o, _, _, _, e, _⟩; exact ⟨_, e⟩
  | ins C dx fs => intro ⟨_, _, _, e, _⟩; exact ⟨_, e⟩
  | own y => intro ⟨_, e⟩; exact ⟨_, e⟩
  | xd fs => intro ⟨_, ⟨_, _, _, e, _⟩, _⟩; exact ⟨_, e⟩
  | rng lo hi => intro ⟨_, _, _, e⟩; exact ⟨_, e⟩
  | frz ob u _ => intro ⟨e, _⟩; exact ⟨_, e⟩
  | tbl ps => intro e; exact ⟨_, (show h.get? a = some _ from e)⟩
  | met f y => intro e; exact ⟨_, (show h.get? a = some _ from e)⟩
  | ext φ => intro ⟨_, ⟨_, e⟩, _⟩; exact ⟨_, e⟩
theorem HOk.gone {P : Program} {w : World} {H : Hp} {h : Heap} (ok : HOk P w H h) {a : Addr} (n : h.get? a = none) : H a = none := by
  cases e : H a with
  | none => rfl
  | some o =>
    obtain ⟨u, q⟩ := (ok a o e).has
    rw [n] at q; cases q
theorem hok_but {P : Program} {w : World} {H : Hp} {h h' : Heap} (ok : HOk P w H h) (k : ∀ b o, H b ≠ none → h.get? b = some o → h'.get? b = some o) : HOk P w H h' := fun a o e =>
  (ok a o e).stay (fun b u hb q => k b u (by rcases hb with hb | hb <;> rw [hb] <;> simp [e]) q) (fun _ z => z) fun _ _ z => z
theorem frs_cons {env : Env} {l : List Env} {b : Addr} (h : b ∈ frs l) : b ∈ frs (env :: l) := by
  unfold frs at h ⊢
  obtain ⟨x, hx, e⟩ := List.mem_filterMap.mp h
  exact List.mem_filterMap.mpr ⟨x, List.mem_cons_of_mem _ hx, e⟩
theorem throws_fn {P : Program} {w : World} {K : PySem.W.Frag} {mg : Str → Option Value} {base : Heap} {N : List Str} {qual : Str} {scope : Scope} {f : Addr} {cd : Value} {A : Around} {outer : List Env} {s : Shared} {H : Hp} {E : XK} :
    Throws (cxOf (CX1 P w) P w K mg base N qual scope f cd A outer s H E) E := by
  intro pins σ H1 s1 e cls dx tb I r he heH hT q
  have hf := I.ok.frames
  have ff := I.stack
  have hfr : (cxOf (CX1 P w) P w K mg base N qual scope f cd A outer s H E).env.frame = some (cxOf (CX1 P w) P w K mg base N qual scope f cd A outer s H E).env.locals := by
    rcases I.ok.stk with z | z
    · have := congrArg List.length z
      exact absurd this (by show outer.length + 1 ≠ outer.length; omega)
    · exact z.2
  have sf := I.stkFree
  have he' : s.heap.get? e = none := he
  have up : Un (frs outer) [] H H1 s.heap s1.heap := I.base
  refine leaving_raised hf ff hfr r fun h' T ⟨k1, k2, k3, r'⟩ => ?_
  have hT' : s.heap.get? T = none ∧ H1 T = none := by
    rcases k3 with k3 | k3
    · refine ⟨?_, I.hok.gone k3⟩
      cases z : s.heap.get? T with
      | none => rfl
      | some o =>
        obtain ⟨o', q'⟩ := up.there T o z (by simp)
        rw [k3] at q'; cases q'
    · exact hT T k3.symm
  have old : ∀ b o, s.heap.get? b = some o → b ≠ e ∧ b ∉ tbl' tb := fun b o qb => by
    refine ⟨(fun z => by rw [z, he'] at qb; cases qb), fun z => ?_⟩
    cases tb with
    | none => cases z
    | some T0 =>
      have := (hT T0 rfl).1
      rw [List.mem_singleton.mp z] at qb
      have this' : s.heap.get? T0 = none := this
      rw [this'] at qb; cases qb
  have loc : ∀ b o, s.heap.get? b = some o → b ∉ frs outer → b ∉ frs ((cxOf (CX1 P w) P w K mg base N qual scope f cd A outer s H E).env :: outer) := fun b o qb hb hm => by
    unfold frs at hm
    rw [List.filterMap_cons, hfr] at hm
    rcases List.mem_cons.mp hm with z | z
    · have := I.ok.above
      have h2 := Heap.lt_size qb
      rw [z] at h2
      exact absurd h2 (Nat.not_lt.mpr this)
    · exact hb z
  refine ⟨e, cls, dx, T, H1, rfl, I.os, I.bare, ⟨fun b o qb n hb hx => ?_, fun b o qb n hb hx => ?_, fun b o qb n hx => up.free b o qb n hx, fun b o qb hx => ?_, up.tups, up.frzs, up.tbls⟩, ?_, r', he', hT'.1, heH, hT'.2, q⟩
  · obtain ⟨o1, o2⟩ := old b o qb
    exact k1 b o o1 o2 (loc b o qb hb) (up.keep b o qb n hb hx)
  · obtain ⟨sl, q1⟩ := up.slot b o qb n hb hx
    obtain ⟨sl', q2⟩ := k2 b _ (frs_cons hb) q1
    exact ⟨sl', q2⟩
  · obtain ⟨o', q1⟩ := up.there b o qb hx
    obtain ⟨o1, o2⟩ := old b o qb
    by_cases b1 : b ∈ frs ((cxOf (CX1 P w) P w K mg base N qual scope f cd A outer s H E).env :: outer)
    · obtain ⟨sl, z⟩ := k2 b o' b1 q1; exact ⟨_, z⟩
    · exact ⟨o', k1 b o' o1 o2 b1 q1⟩
  · refine hok_but I.hok fun b o hb qb => k1 b o (fun z => hb (by rw [z]; exact heH)) (fun z => ?_) (fun z => hb (sf b z)) qb
    cases tb with
    | none => cases z
    | some T0 => exact hb (by rw [List.mem_singleton.mp z]; exact (hT T0 rfl).2)
end L2

/-! raise C(e), C an own class of exceptions without an __init__ of its own -/
namespace L2
open PySem PySem.Spec PyProof.Rows
abbrev VEB : List Value := [.type "ValueError", .type "Exception", .type "BaseException", .type "object"]
theorem tail_keeps {h h' : Heap} {bmB : List Value} (k : ∀ b o, h.get? b = some o → h'.get? b = some o) : ∀ {bm : List Value}, OwnTail h bmB bm → OwnTail h' bmB bm := by
  intro bm t
  induction t with
  | base => exact .base
  | own e n m _ ih => exact .own (k _ _ e) (n.keeps k) m ih
noncomputable def tRaise (EX : XK) (C : Addr) (t : TA) : TS := fun _ σ H => t σ H fun vs H1 => vs.length ≤ sizeLine ∧ EX (.ref C) none H1
theorem ps_raise {X : Cx} {EX : XK} {x : Str} {C : Addr} {np cpos pos : Pos} {a : Expr} {t : TA} (th : Throws X EX) (hc : X.calm = true) (hex : X.ex = []) (oc : OwnCls x C VEB "ValueError.__new__" X.mg X.base) (hg : Gl X x) (ha : PA X [a] t)
    (he : starEach [a] X.env = (false, eval a X.env) :: starEach [] X.env := by rfl) (hpl : ((backTo cpos (starEach [a] X.env)).any fun x => x.1) = false := by rfl)
    (hbk : ∃ y rest, backTo cpos (starEach [a] X.env) = (false, y) :: rest := by exact ⟨_, _, rfl⟩)
    (hbm : ∀ h bm, OwnTail h VEB bm → bm.contains (.type "BaseException") = true) (hd : (x == ("__debug__" : Str)) = false := by decide) : PS X (.Raise (some (.Call (.Name x np) [a] [] cpos)) none pos) (tRaise EX C t) := by
  intro pins s σ H D I h
  obtain ⟨hb, bm, N, nm, q, bs, hdct, sn, sub, ab, col, dd, k0, k1, k2, k3, k5, mN, o1, o2, o3, o4⟩ := oc
  refine wpAny_Raise_call_subU (C := C) (Bn := "ValueError") (B := "ValueError") (nm := nm) (q := q) (N := N) (bs := bs) (bm := bm) (hdct := hdct) (sn := sn) (sub := sub) (ab := ab) (col := col) (dd := dd) (k0 := k0) (k1 := k1) (k2 := k2) (k3 := k3) (k5 := k5) (mN := mN) PySem.F.excBase_ValueError (by decide) PySem.F.excBase_ValueError (hbm _ _ o4) (I.ok.hd hc) hpl o3 ?_
  refine ld_glob I hg hb ⟨rfl, ?_⟩ hd
  obtain ⟨y, rest, hy⟩ := hbk
  rw [hy]
  refine Calls.evalArgs_plain ?_
  rw [← hy]
  refine thn (ha cpos pins s σ H _ I h) fun us s2 ⟨vs, H2, I2, r2, zl, q2⟩ => ⟨rfl, (by rw [← r2.length]; exact zl), I2.bk _ _ o1, o2.keeps I2.bk, tail_keeps I2.bk o4, fun h' e m => ?_⟩
  · obtain ⟨T, m1, m2, m3⟩ := m.there
    have I3 : Inv X pins σ H2 { s2 with heap := h' } := I2.kept (t' := s2.toks) m.keeps
    refine th pins σ H2 _ e (.ref C) none none I3 ⟨⟨_, _, m1, rfl, rfl, rfl, rfl⟩, fun T' z => nomatch z⟩ ?_ ?_ (fun T' z => nomatch z) q2
    · cases z : X.s₀.heap.get? e with
      | none => rfl
      | some o =>
        obtain ⟨o', z'⟩ := I2.base.there e o z (by rw [hex]; simp)
        rw [m.new] at z'; cases z'
    · exact HOk.gone I2.hok m.new
end L2

namespace L2
open PySem PySem.Spec PyProof.Rows
noncomputable abbrev EXT := Value → Option Addr → St → Hp → Prop
noncomputable def ThrowsT (X : Cx) (EX : EXT) : Prop := ∀ (pins : List (Addr × Obj)) (σ : St) (H : Hp) (s : Shared) (e : Addr) (cls : Value) (dx : Option Addr) (T : Addr), Inv X pins σ H s → Raised s.heap e cls dx (some T) → X.s₀.heap.get? e = none → H e = none →
  X.s₀.heap.get? T = none → H T = none → (∀ p ∈ X.pn ++ pins, p.1 ≠ e ∧ p.1 ≠ T) → (e ≠ X.env.locals ∧ T ≠ X.env.locals) → (∀ x c, X.env.cells.lookup x = some c → c ≠ e ∧ c ≠ T) → EX cls dx σ H → X.xe (.ref e) s
theorem Throws.t {X : Cx} {EX : XK} (h : Throws X EX) : ThrowsT X fun cls od _ H => EX cls od H := fun pins σ H s e cls dx T I r h1 h2 h3 h4 _ _ _ q => h pins σ H s e cls dx (some T) I r h1 h2 (fun T' z => by cases z; exact ⟨h3, h4⟩) q
theorem pass_at {X : Cx} {EX : EXT} (th : ThrowsT X EX) (hex : X.ex = []) {pins : List (Addr × Obj)} {σ : St} {H : Hp} {s s' : Shared} {e : Value} (I : Inv X pins σ H s) (h : CX1 X.prog X.w X.stack H s (fun cls od H' => EX cls od σ H') e s') : X.xe e s' := by
  obtain ⟨a, cls, dx, T, H', he, os, bare, un, hok, r, n1, n2, n3, n4, q⟩ := h
  subst he
  have I' : Inv X pins σ H' s' := I.call' (ch := []) os un hok bare (fun b hb => nomatch hb)
  have old : ∀ b, s.heap.get? b = none → X.s₀.heap.get? b = none := fun b hb => by
    cases z : X.s₀.heap.get? b with
    | none => rfl
    | some o =>
      obtain ⟨o', z'⟩ := I.base.there b o z (by rw [hex]; simp)
      rw [hb] at z'; cases z'
  have pin : ∀ b, s.heap.get? b = none → ∀ p ∈ X.pn ++ pins, p.1 ≠ b := fun b hb p hp z => by
    have := (I.pin p hp).1
    rw [z, hb] at this; cases this
  have loc : ∀ b, s.heap.get? b = none → b ≠ X.env.locals := fun b hb z => by
    obtain ⟨m, ⟨o, es, ep, ho, _⟩, _⟩ := id I.loc
    rw [z, ho] at hb; cases hb
  have cel : ∀ b, s.heap.get? b = none → ∀ x c, X.env.cells.lookup x = some c → c ≠ b := fun b hb x c hc z => by
    obtain ⟨v, o, ho, _⟩ := I.cell x c hc
    rw [z, hb] at ho; cases ho
  exact th pins σ H' s' a cls dx T I' r (old a n1) n3 (old T n2) n4 (fun p hp => ⟨pin a n1 p hp, pin T n2 p hp⟩) ⟨loc a n1, loc T n2⟩ (fun x c hc => ⟨cel a n1 x c hc, cel T n2 x c hc⟩) q
noncomputable def PassX (X : Cx) (EX : EXT) : Prop := ∀ (pins : List (Addr × Obj)) (σ : St) (H : Hp) (s : Shared) (e : Value) (s' : Shared), Inv X pins σ H s → CX1 X.prog X.w X.stack H s (fun cls od H' => EX cls od σ H') e s' → X.xe e s'
theorem ThrowsT.pass {X : Cx} {EX : EXT} (th : ThrowsT X EX) (hex : X.ex = []) : PassX X EX := fun _ _ _ _ _ _ I h => pass_at th hex I h
noncomputable def tCallX (sp : Sp) (EX : EXT) (t : TA) : TE := fun σ H Q => t σ H fun vs H1 => sp vs H1 Q fun cls od H' => EX cls od σ H'
theorem pe_callX {X : Cx} {EX : EXT} {k : Nat} {f : Addr} {fd : FuncData} {ps : List Str} {sp : Sp} {x : Str} {p pos : Pos} {e : Expr} {es : List Expr} {t : TA} (F : FnOk X.prog X.w X.K X.mg X.base (CX1 X.prog X.w) k f fd ps sp) (hr : Room k X.A) (hg : Gl X x) (hm : X.mg x = some (.ref f)) (hk : PySem.W.keepIn X.K (.ref f) = true) (hb : Binds X.K fd ps [])
    (th : PassX X EX) (ha : PA X (e :: es) t) (hdb : (x == ("__debug__" : Str)) = false := by decide) (he : starEach (e :: es) X.env = (false, eval e X.env) :: starEach es X.env := by rfl) (hpl : (backTo pos (starEach es X.env)).any (·.1) = false := by rfl) :
    PE X (.Call (.Name x p) (e :: es) [] pos) (tCallX sp EX t) := by
  intro pins s σ H Q I h
  refine wpAny_Call_Name_kw (ld_glob I hg hm ?_ hdb)
  refine PySem.W.callWith_K (h₀ := X.base) I.ok.mod.kin hk (thn (ha pos pins s σ H _ I h) fun us s1 ⟨vs, H1, I1, r, q⟩ => ⟨I1.kIn, ?_⟩) he hpl
  have hl : (us ++ []).length = ps.length := by rw [List.append_nil, ← r.length]; exact F.len _ _ _ _ q
  have bb := hb s1 us I1.kIn hl
  rw [List.append_nil] at bb
  refine wpAny_call (codeAny_mono (F.run X.A X.stack s1 H1 ⟨us, []⟩ us vs Q _ hr I1.env0 bb r q) fun r' s' hq => ?_)
  cases r' with
  | error e => exact th _ _ _ _ _ _ I1 hq
  | ok fl =>
    cases fl with
    | ret u => exact I1.after hq
    | next => exact False.elim hq
    | brk => exact False.elim hq
    | cont => exact False.elim hq
end L2

/-! try: what was raised comes back, is noted, and a handler takes it -/
namespace L2
open PySem PySem.Spec PyProof.Rows
structure Air (X : Cx) (pins : List (Addr × Obj)) (H : Hp) (s : Shared) (e : Addr) (cls : Value) (dx : Option Addr) (T : Addr) : Prop where
  r : Raised s.heap e cls dx (some T)
  e0 : X.s₀.heap.get? e = none
  eH : H e = none
  t0 : X.s₀.heap.get? T = none
  tH : H T = none
  pe : ∀ p ∈ X.pn ++ pins, p.1 ≠ e ∧ p.1 ≠ T
  le : e ≠ X.env.locals ∧ T ≠ X.env.locals
  ce : ∀ x c, X.env.cells.lookup x = some c → c ≠ e ∧ c ≠ T
section
variable {X : Cx} {pins : List (Addr × Obj)} {σ : St} {H : Hp} {s : Shared} {e T : Addr} {cls : Value} {dx : Option Addr}
theorem Inv.air {h' : Heap} {T' : Addr} (I : Inv X pins σ H s) (a : Air X pins H s e cls dx T) (hex : X.ex = []) (k1 : ∀ b o, b ≠ e → b ≠ T → b ∉ frs X.stack → s.heap.get? b = some o → h'.get? b = some o)
    (k2 : ∀ b o, b ∈ frs X.stack → s.heap.get? b = some o → ∃ sl, h'.get? b = some { o with slots := sl }) (r' : Raised h' e cls dx (some T')) (hT : s.heap.get? T' = none ∨ T' = T) :
    Inv X pins σ H { s with heap := h' } ∧ Air X pins H { s with heap := h' } e cls dx T' := by
  have old : ∀ b o, X.s₀.heap.get? b = some o → b ≠ e ∧ b ≠ T := fun b o q => ⟨(fun z => by rw [z, a.e0] at q; cases q), (fun z => by rw [z, a.t0] at q; cases q)⟩
  have nl : ∀ b o, X.s₀.heap.get? b = some o → b ≠ X.env.locals := fun b o q => Nat.ne_of_lt (Nat.lt_of_lt_of_le (Heap.lt_size q) I.ok.above)
  have nst : ∀ b, b ≠ X.env.locals → b ∉ X.fs → b ∉ frs X.stack := fun b h1 h2 z => (List.mem_cons.mp (I.stkSub b z)).elim h1 h2
  have any : ∀ b o, b ≠ e → b ≠ T → s.heap.get? b = some o → ∃ sl, h'.get? b = some { o with slots := sl } := fun b o n1 n2 q => by
    by_cases hb : b ∈ frs X.stack
    · exact k2 b o hb q
    · exact ⟨o.slots, k1 b o n1 n2 hb q⟩
  have cellK : ∀ x c, X.env.cells.lookup x = some c → ∀ v, s.heap.IsCell c v → h'.IsCell c v := fun x c ec v ⟨o, ho, hd⟩ => by
    obtain ⟨sl, q⟩ := any c o (a.ce x c ec).1 (a.ce x c ec).2 ho
    exact ⟨_, q, hd⟩
  refine ⟨⟨I.ok, I.os, I.bare, ⟨fun b o q n hb hx => ?_, fun b o q n hb hx => ?_, I.base.free, fun b o q hx => ?_, I.base.tups, I.base.frzs, I.base.tbls⟩, ?_, fun x c ec => ?_, I.free, I.freeC, fun p hp => ?_, ?_, I.len⟩, ⟨r', a.e0, a.eH, ?_, ?_, fun p hp => ⟨(a.pe p hp).1, ?_⟩, ⟨a.le.1, ?_⟩, fun x c ec => ⟨(a.ce x c ec).1, ?_⟩⟩⟩
  · exact k1 b o (old b o q).1 (old b o q).2 (nst b (nl b o q) hb) (I.base.keep b o q n hb hx)
  · obtain ⟨sl, q1⟩ := I.base.slot b o q n hb hx
    obtain ⟨sl', q2⟩ := any b _ (old b o q).1 (old b o q).2 q1
    exact ⟨sl', q2⟩
  · obtain ⟨o', q1⟩ := I.base.there b o q hx
    obtain ⟨sl', q2⟩ := any b _ (old b o q).1 (old b o q).2 q1
    exact ⟨_, q2⟩
  · obtain ⟨m, ⟨o, es, ep, ho, rr⟩, hl⟩ := I.loc
    obtain ⟨sl, q2⟩ := any _ o (Ne.symm a.le.1) (Ne.symm a.le.2) ho
    refine ⟨m, ⟨_, es, ep, q2, rr⟩, fun i x v e1 e2 e3 => ?_⟩
    obtain ⟨u, r, l⟩ := hl i x v e1 e2 e3
    refine ⟨u, r, ?_⟩
    rcases l with l | ⟨k, c, ec, z⟩
    · exact .inl l
    · exact .inr ⟨k, c, ec, cellK x c ec _ z⟩
  · obtain ⟨v, z⟩ := I.cell x c ec
    exact ⟨v, cellK x c ec v z⟩
  · obtain ⟨q, n, ne, nf, d⟩ := I.pin p hp
    exact ⟨k1 p.1 p.2 (a.pe p hp).1 (a.pe p hp).2 (nst _ ne nf) q, n, ne, nf, d⟩
  · exact hok_but I.hok fun b o hb q => k1 b o (fun z => hb (by rw [z]; exact a.eH)) (fun z => hb (by rw [z]; exact a.tH)) (fun z => hb (I.stkFree b z)) q
  · rcases hT with hT | hT
    · cases z : X.s₀.heap.get? T' with
      | none => rfl
      | some o =>
        obtain ⟨o', q⟩ := I.base.there T' o z (by rw [hex]; simp)
        rw [hT] at q; cases q
    · rw [hT]; exact a.t0
  · rcases hT with hT | hT
    · exact I.hok.gone hT
    · rw [hT]; exact a.tH
  · rcases hT with hT | hT
    · intro z
      have := (I.pin p hp).1
      rw [z, hT] at this; cases this
    · rw [hT]; exact (a.pe p hp).2
  · rcases hT with hT | hT
    · intro z
      obtain ⟨m, ⟨o, es, ep, ho, _⟩, _⟩ := I.loc
      rw [← z, hT] at ho; cases ho
    · rw [hT]; exact a.le.2
  · rcases hT with hT | hT
    · intro z
      obtain ⟨v, o, ho, _⟩ := I.cell x c ec
      rw [z, hT] at ho; cases ho
    · rw [hT]; exact (a.ce x c ec).2
theorem Inv.noted {h' : Heap} {T' : Addr} (I : Inv X pins σ H s) (a : Air X pins H s e cls dx T) (hex : X.ex = []) (n : Noted (frs X.stack) s.heap h' e cls dx (some T) T') : Inv X pins σ H { s with heap := h' } ∧ Air X pins H { s with heap := h' } e cls dx T' :=
  I.air a hex (fun b o n1 n2 n3 q => n.keep b o n1 (fun z => n2 (List.mem_singleton.mp z)) n3 q) n.slot n.r (by
    rcases n.new with k | k
    · exact .inl k
    · cases k; exact .inr rfl)
theorem flight_raised {M : Model} {A : Around} {E : Value → Shared → Prop} {Q : Shared → Prop} (I : Inv X pins σ H s) (a : Air X pins H s e cls dx T) (hex : X.ex = []) (hA : A.frames = some X.stack) (hst : X.stack = X.env :: X.outer) (hfr : X.env.frame = some X.env.locals)
    (k : ∀ h' T', Inv X pins σ H { s with heap := h' } → Air X pins H { s with heap := h' } e cls dx T' → Q { s with heap := h' }) :
    wpAny M A (noteFrame (.ref e) X.env) (fun _ s2 => wpAny M A (setFlight (.ref e) none) (fun _ s3 => Q s3) E s2) E s ∧ wpAny M A (setFlight (.ref e) none) (fun _ s3 => Q s3) E s := by
  have nor : ∀ {σ : St} {H : Hp} {s : Shared}, Inv X pins σ H s → ∀ b o ws, s.heap.get? b = some o → o.data = .fields ws → b ∉ frs X.stack := fun {σ H s} I b o ws q qd hm => by
    obtain ⟨_, o', q1, q2⟩ := I.stack.mem hm
    rw [q] at q1; cases q1
    exact q2 ws qd
  constructor
  · have ff : s.heap.FunFrames X.base (X.env :: X.outer) := by rw [← hst]; exact I.stack
    refine note_any (by rw [hA, hst]) ff hfr a.r fun h1 T1 n1 => ?_
    rw [← hst] at n1
    obtain ⟨I1, a1⟩ := I.noted a hex n1
    refine flight_any (s := { s with heap := h1 }) a1.r (nor I1) fun h2 n2 => ?_
    obtain ⟨I2, a2⟩ := I1.noted a1 hex n2
    exact k h2 T1 I2 a2
  · refine flight_any a.r (nor I) fun h2 n2 => ?_
    obtain ⟨I2, a2⟩ := I.noted a hex n2
    exact k h2 T I2 a2
end
/-! contexts: within try, within a handler's suite -/
noncomputable abbrev Cx.inTry (X : Cx) (pn : List (Addr × Obj)) (xe : Value → Shared → Prop) : Cx := { X with pn := pn, xe := xe }
noncomputable abbrev Cx.inSuite (X : Cx) (a : Addr) : Cx := { X with A := X.A.mark (some (.ref a)), calm := false, xe := fun _ _ => False }
section
variable {X : Cx} {pins : List (Addr × Obj)} {σ : St} {H : Hp} {s : Shared} {e T : Addr} {cls : Value} {dx : Option Addr} {xe : Value → Shared → Prop}
theorem Cx.Ok.tryIn {pn : List (Addr × Obj)} (k : X.Ok) : (X.inTry pn xe).Ok := ⟨k.mod, k.kind, k.glob, k.blt, k.above, k.inj, k.has, k.cab, k.hd, k.frames, k.stk, k.exf, k.bs, k.bsz, k.noex, k.exfs, k.funs, k.frf⟩
theorem Cx.Ok.suiteIn (k : X.Ok) : (X.inSuite e).Ok := ⟨k.mod, k.kind, k.glob, k.blt, k.above, k.inj, k.has, k.cab, (fun h => nomatch h), k.frames, k.stk, k.exf, k.bs, k.bsz, k.noex, k.exfs, k.funs, k.frf⟩
theorem Inv.tryIn (I : Inv X pins σ H s) : Inv (X.inTry (X.pn ++ pins) xe) [] σ H s := ⟨I.ok.tryIn, I.os, I.bare, I.base, I.loc, I.cell, I.free, I.freeC, (fun p hp => I.pin p (by simpa using hp)), I.hok, I.len⟩
theorem Inv.tryOut {pins' : List (Addr × Obj)} (k : X.Ok) (I : Inv (X.inTry (X.pn ++ pins) xe) pins' σ H s) : Inv X pins σ H s := ⟨k, I.os, I.bare, I.base, I.loc, I.cell, I.free, I.freeC, (fun p hp => I.pin p (List.mem_append_left _ hp)), I.hok, I.len⟩
theorem Inv.suiteIn (I : Inv X pins σ H s) : Inv (X.inSuite e) pins σ H s := ⟨I.ok.suiteIn, I.os, I.bare, I.base, I.loc, I.cell, I.free, I.freeC, I.pin, I.hok, I.len⟩
theorem Inv.suiteOut (k : X.Ok) (I : Inv (X.inSuite e) pins σ H s) : Inv X pins σ H s := ⟨k, I.os, I.bare, I.base, I.loc, I.cell, I.free, I.freeC, I.pin, I.hok, I.len⟩
theorem SP.out {D : Ends} {f : Flow} (k : X.Ok) (h : SP (X.inSuite e) pins D f s) : SP X pins D f s := by
  cases f with
  | next => obtain ⟨σ', H', I, q⟩ := h; exact ⟨σ', H', I.suiteOut k, q⟩
  | brk => obtain ⟨σ', H', I, q⟩ := h; exact ⟨σ', H', I.suiteOut k, q⟩
  | cont => obtain ⟨σ', H', I, q⟩ := h; exact ⟨σ', H', I.suiteOut k, q⟩
  | ret u => obtain ⟨v, σ', H', I, q⟩ := h; exact ⟨v, σ', H', I.suiteOut k, q⟩
theorem SP.outT {D : Ends} {f : Flow} (k : X.Ok) (h : SP (X.inTry (X.pn ++ pins) xe) [] D f s) : SP X pins D f s := by
  cases f with
  | next => obtain ⟨σ', H', I, q⟩ := h; exact ⟨σ', H', I.tryOut k, q⟩
  | brk => obtain ⟨σ', H', I, q⟩ := h; exact ⟨σ', H', I.tryOut k, q⟩
  | cont => obtain ⟨σ', H', I, q⟩ := h; exact ⟨σ', H', I.tryOut k, q⟩
  | ret u => obtain ⟨v, σ', H', I, q⟩ := h; exact ⟨v, σ', H', I.tryOut k, q⟩
noncomputable def excAt (a C : Addr) (dx : Option Addr) : Heap → Prop := fun h => ∃ o, h.get? a = some o ∧ o.cls = .ref C ∧ o.dict = dx ∧ PySem.W.notCls o = true
theorem Inv.track {C : Addr} (I : Inv X pins σ H s) (a : Air X pins H s e (.ref C) dx T) : Inv X pins σ (upd H e (.ext (excAt e C dx))) s := by
  obtain ⟨oe, vs, h1, h2, hdx, h3, h5⟩ := a.r.obj
  have hnc : PySem.W.notCls oe = true := by unfold PySem.W.notCls; rw [h3]
  refine ⟨I.ok, I.os, I.bare, ⟨I.base.keep, I.base.slot, fun b o q n hx => ?_, I.base.there, fun b xs q => ?_, fun b o u q => ?_, fun b ps q => ?_⟩, I.loc, I.cell, ?_, fun x c ec => ?_, fun p hp => ?_, fun b u q => ?_, I.len⟩
  · rw [upd_ne (fun z => by rw [z, a.e0] at q; cases q)]; exact I.base.free b o q n hx
  · have := I.base.tups b xs q
    rw [upd_ne (fun z => by rw [z, a.eH] at this; cases this)]; exact this
  · have := I.base.frzs b o u q
    rw [upd_ne (fun z => by rw [z, a.eH] at this; cases this)]; exact this
  · obtain ⟨m, this⟩ := I.base.tbls b ps q
    exact ⟨m, by rw [upd_ne (fun z => by rw [z, a.eH] at this; cases this)]; exact this⟩
  · rw [upd_ne (Ne.symm a.le.1)]; exact I.free
  · rw [upd_ne (a.ce x c ec).1]; exact I.freeC x c ec
  · obtain ⟨q, n, r⟩ := I.pin p hp
    exact ⟨q, by rw [upd_ne (a.pe p hp).1]; exact n, r⟩
  · by_cases hb : b = e
    · subst hb
      rw [upd_same] at q; cases q
      exact ⟨⟨oe, h1, h2, hdx, hnc⟩, ⟨oe, h1⟩, fun g1 g2 ⟨o, z1, z2⟩ k => ⟨o, k o z1, z2⟩⟩
    · rw [upd_ne hb] at q
      exact (I.hok b u q).stay (fun c v _ z => z) (fun c z => by rw [upd_ne (fun y => by rw [y, a.eH] at z; cases z)]; exact z) fun c xs z => by rw [upd_ne (fun y => by rw [y, a.eH] at z; cases z)]; exact z
theorem goes_ok {M : Model} {A : Around} {E : Value → Shared → Prop} {i : Nat} {n : Str} {pos : Pos} {Q : Unit → Shared → Prop} (I : Inv X pins σ H s) (hN : X.N.Nodup) (hi : X.N[i]? = some n) (hk : X.env.kindOf n = some .local)
    (h : ∀ s', Inv X pins (σ.set i none) H s' → Q () s') : wpAny M A (do bindName X.env n .none; unbindBehindTheSuite X.env n pos) Q E s := by
  obtain ⟨m, hn, hl⟩ := id I.loc
  have hcls : (X.env.scope.kind == .class || (X.env.scope.kind == .module && X.env.locals != X.env.globals)) = false := by rw [I.ok.kind]; rfl
  refine wpAny_nameGoes_keeps hk hn hcls fun h' u hn' hs => ?_
  obtain ⟨oL, _, _, hoL, _⟩ := id hn
  have cne := I.cne
  have nl : ∀ b o, X.s₀.heap.get? b = some o → b ≠ X.env.locals := fun b o q => Nat.ne_of_lt (Nat.lt_of_lt_of_le (Heap.lt_size q) I.ok.above)
  refine h _ ⟨I.ok, I.os, I.bare, ⟨fun b o q n hb hx => ?_, fun b o q n hb hx => ?_, I.base.free, fun b o q hx => ?_, I.base.tups, I.base.frzs, I.base.tbls⟩, ⟨_, hn', fun j y v' e1 e2 e3 => ?_⟩, fun y c ec => ?_, I.free, I.freeC, fun p hp => ?_, fun b ob q => ?_, by simpa using I.len⟩
  · exact (hs.2 b (nl b o q)).trans (I.base.keep b o q n hb hx)
  · obtain ⟨sl, e1⟩ := I.base.slot b o q n hb hx
    exact ⟨sl, (hs.2 b (nl b o q)).trans e1⟩
  · obtain ⟨o', e1⟩ := I.base.there b o q hx
    exact ⟨o', (hs.2 b (nl b o q)).trans e1⟩
  · by_cases hj : j = i
    · subst hj
      have : j < σ.length := by
        have := (List.getElem?_eq_some_iff.mp e2).1
        simpa using this
      rw [List.getElem?_set_self this] at e2; cases e2
    · rw [List.getElem?_set_ne (Ne.symm hj)] at e2
      obtain ⟨u', r', q⟩ := hl j y v' e1 e2 e3
      refine ⟨u', r', ?_⟩
      rcases q with ⟨k, z⟩ | ⟨k, c, z, z'⟩
      · refine .inl ⟨k, ?_⟩
        have : y ≠ n := fun z => hj (nodup_ix hN e1 (z ▸ hi))
        simp [this, z]
      · exact .inr ⟨k, c, z, z'.sameBut hs (cne y c z)⟩
  · obtain ⟨w', z⟩ := I.cell y c ec
    exact ⟨w', z.sameBut hs (cne y c ec)⟩
  · obtain ⟨q, n, ne, nf, d⟩ := I.pin p hp
    exact ⟨(hs.2 p.1 ne).trans q, n, ne, nf, d⟩
  · refine (I.hok b ob q).stay (fun c w' hc z => (hs.2 c ?_).trans z) (fun _ z => z) fun _ _ z => z
    rintro rfl
    rcases hc with hc | hc
    · rw [← hc, I.free] at q; cases q
    · rw [I.free] at hc; cases hc
end
end L2

namespace L2
open PySem PySem.Spec PyProof.Rows
theorem matches_K {M : Model} {A : Around} {E : Value → Shared → Prop} {s : Shared} {K : PySem.W.Frag} {e C B : Addr} {b : Bool} {Q : Bool → Shared → Prop} (X : K.In s.heap) {dx : Option Addr} (he : excAt e C dx s.heap) (hty : PySem.W.typeIn K (.ref B) = some (.type "type"))
    (hcl : PySem.W.isClsIn K B = true) (hB : PySem.W.mroIn K B (.type "BaseException") = some true) (hm : PySem.W.mroIn K C (.ref B) = some b) (h : Q b s) : wpAny M A (excMatches (.ref e) (.ref B)) Q E s := by
  obtain ⟨hp, g, d, tk, os⟩ := s
  obtain ⟨o, h1, h2, _⟩ := he
  have lt : PySem.W.Looks M hp (typeOf (.ref B)) (.type "type") := PySem.W.looks_typeIn X hty
  have li : PySem.W.Looks M hp (isType (.ref B)) true := by
    unfold PySem.W.isClsIn PySem.W.clsIn at hcl
    split at hcl
    · rename_i ho
      intro A' Q' E' s' k q
      unfold isType loadHead
      exact wpAny_bind (wpAny_loadPart (k _ _ (X _ _ ho)) (wpAny_pure q))
    · cases hcl
  have lb := PySem.W.looks_mroIn (M := M) X hB
  have lm := PySem.W.looks_mroIn (M := M) X hm
  have le : PySem.W.Looks M hp (typeOf (.ref e)) (.ref C) := h2 ▸ (PySem.W.Looks.ld h1).andThen .now
  have lx : PySem.W.Looks M hp (isExcClass (.ref B)) true := by
    unfold isExcClass
    exact li.andThen lb
  have l0 : PySem.W.Looks M hp (isInstance (.ref B) (.type "tuple")) false := by
    unfold isInstance
    exact lt.andThen (.of_pure tc_notTuple)
  unfold excMatches
  refine wpAny_bind (l0.at ?_)
  dsimp only
  rw [if_neg Bool.false_ne_true]
  refine wpAny_bind (wpAny_pure ?_)
  refine wpAny_bind ?_
  rw [List.forIn_cons]
  refine wpAny_bind (wpAny_bind (lx.at ?_))
  rw [if_neg (by decide)]
  refine wpAny_pure ?_
  dsimp only
  rw [List.forIn_nil]
  refine wpAny_pure ?_
  refine wpAny_bind (le.at ?_)
  refine wpAny_bind ?_
  rw [List.forIn_cons]
  refine wpAny_bind (wpAny_bind (lm.at ?_))
  cases b with
  | true =>
    rw [if_pos rfl]
    exact wpAny_pure (wpAny_pure (wpAny_pure h))
  | false =>
    rw [if_neg Bool.false_ne_true]
    refine wpAny_pure ?_
    dsimp only
    rw [List.forIn_nil]
    exact wpAny_pure (wpAny_pure h)
structure Hd where
  x : Str
  np : Pos
  nm : Option (Str × Nat)
  b0 : Stmt
  suite : List Stmt
  pos : Pos
  B : Addr
  t : TS
noncomputable def Hd.ast (h : Hd) : ExceptHandler := .ExceptHandler (some (.Name h.x h.np)) (h.nm.map (·.1)) (h.b0 :: h.suite) h.pos
noncomputable def Ends.but (D : Ends) (i : Nat) : Ends := { nx := fun σ H => D.nx (σ.set i none) H, bk := fun σ H => D.bk (σ.set i none) H, ct := fun σ H => D.ct (σ.set i none) H, rt := D.rt }
noncomputable def Hd.run (h : Hd) (C : Addr) (dx : Option Addr) (D : Ends) (σ : St) (H : Hp) : Prop := match h.nm with
  | none => h.t D σ H
  | some (_, i) => ∀ a, H a = none → h.t (D.but i) (σ.set i (some (.ref a))) (upd H a (.ext (excAt a C dx)))
noncomputable def pickH (K : PySem.W.Frag) (C : Addr) : List Hd → Option Hd
  | [] => none
  | h :: r => match PySem.W.mroIn K C (.ref h.B) with
    | some true => some h
    | some false => pickH K C r
    | none => none
structure Hd.Ok (X : Cx) (h : Hd) : Prop where
  gl : Gl X h.x
  mg : X.mg h.x = some (.ref h.B)
  ty : PySem.W.typeIn X.K (.ref h.B) = some (.type "type")
  cl : PySem.W.isClsIn X.K h.B = true
  bs : PySem.W.mroIn X.K h.B (.type "BaseException") = some true
  db : (h.x == ("__debug__" : Str)) = false
  nm : ∀ n i, h.nm = some (n, i) → X.N.Nodup ∧ X.N[i]? = some n ∧ Loc X.env.scope n ∧ X.env.kindOf n = some .local ∧ X.env.scope.names.lookup n = some .local
  su : ∀ a, PSs (X.inSuite a) (h.b0 :: h.suite) h.t
section
variable {X : Cx} {pins : List (Addr × Obj)} {σ : St} {H : Hp} {s : Shared} {e T C : Addr} {dx : Option Addr} {D : Ends}
theorem Air.at' (a : Air X pins H s e (.ref C) dx T) : excAt e C dx s.heap := by
  obtain ⟨oe, vs, h1, h2, h3, h4, _⟩ := a.r.obj
  exact ⟨oe, h1, h2, h3, by unfold PySem.W.notCls; rw [h4]⟩
theorem handle_ok (hex : X.ex = []) (hst : X.stack = X.env :: X.outer) (hfr : X.env.frame = some X.env.locals) {h : Hd} (I : Inv X pins σ H s) (a : Air X pins H s e (.ref C) dx T) (q : h.run C dx D σ H) :
    ∀ {hs : List Hd}, (∀ h ∈ hs, h.Ok X) → pickH X.K C hs = some h → wpAny (model X.prog X.w) X.A (handleBy (.ref e) X.env (hs.map Hd.ast)) (SP X pins D) X.xe s
  | [], _, p => nomatch p
  | g :: r, ok, p => by
    have kg := ok g List.mem_cons_self
    show wpAny _ _ (handleBy (.ref e) X.env (.ExceptHandler (some (.Name g.x g.np)) (g.nm.map (·.1)) (g.b0 :: g.suite) g.pos :: r.map Hd.ast)) _ _ s
    have Is : Inv (X.inSuite e) pins σ H s := I.suiteIn
    refine wpAny_handleBy_cons (codeAny_handlers_test (ld_glob (X := X.inSuite e) Is kg.gl kg.mg ?_ kg.db)) (by intro z; cases z)
    unfold pickH at p
    split at p
    · rename_i hm
      cases p
      refine matches_K I.kIn a.at' kg.ty kg.cl kg.bs hm ?_
      show codeAny _ _ _ _ s
      unfold Hd.run at q
      split at q
      · rename_i hn
        rw [hn]
        refine codeAny_handlers_suite ?_
        refine (flight_raised (M := model X.prog X.w) (A := X.A.mark (some (.ref e))) I a hex I.ok.frames hst hfr fun h' T' I' a' => ?_).2
        refine wpAny_mono (kg.su e pins _ σ H D I'.suiteIn q) (fun f s2 z => ?_) fun _ _ z => z.elim
        exact SP.out I.ok z
      · rename_i n i hn
        rw [hn]
        obtain ⟨n1, n2, n3, n4, n5⟩ := kg.nm n i hn
        refine codeAny_handlers_suite_as ?_
        refine (flight_raised (M := model X.prog X.w) (A := X.A.mark (some (.ref e))) I a hex I.ok.frames hst hfr fun h' T' I' a' => ?_).2
        refine store_ok (X := X.inSuite e) (v := .ref e) (i := i) (I'.track a').suiteIn n1 n2 n3 rfl (fun s2 I2 => ?_) (.inr n5)
        refine wpAny_mono (kg.su e pins _ _ _ (D.but i) I2 (q e a.eH)) (fun f s3 z => ?_) fun _ _ z => z.elim
        show wpAny _ X.A _ _ _ s3
        cases f with
        | next =>
          obtain ⟨σ', H', I3, z⟩ := z
          exact goes_ok (I3.suiteOut I.ok) n1 n2 n4 fun s4 I4 => ⟨_, H', I4, z⟩
        | brk =>
          obtain ⟨σ', H', I3, z⟩ := z
          exact goes_ok (I3.suiteOut I.ok) n1 n2 n4 fun s4 I4 => ⟨_, H', I4, z⟩
        | cont =>
          obtain ⟨σ', H', I3, z⟩ := z
          exact goes_ok (I3.suiteOut I.ok) n1 n2 n4 fun s4 I4 => ⟨_, H', I4, z⟩
        | ret u =>
          obtain ⟨v, σ', H', I3, z⟩ := z
          exact goes_ok (I3.suiteOut I.ok) n1 n2 n4 fun s4 I4 => ⟨v, _, H', I4, z⟩
    · rename_i hm
      refine matches_K I.kIn a.at' kg.ty kg.cl kg.bs hm ?_
      exact handle_ok hex hst hfr I a q (fun h hh => ok h (List.mem_cons_of_mem _ hh)) p
    · cases p
noncomputable def tTry (K : PySem.W.Frag) (tb : EXT → TS) (hs : List Hd) : TS := fun D σ H => tb (fun cls dx σ' H' => ∃ C h, cls = .ref C ∧ pickH K C hs = some h ∧ h.run C dx D σ' H') D σ H
theorem ps_try {body : List Stmt} {tb : EXT → TS} {h0 : Hd} {hs : List Hd} {pos : Pos} (hb : ∀ pn xe EX, ThrowsT (X.inTry pn xe) EX → PSs (X.inTry pn xe) body (tb EX)) (ok : ∀ h ∈ h0 :: hs, h.Ok X) (hex : X.ex = [])
    (hst : X.stack = X.env :: X.outer) (hfr : X.env.frame = some X.env.locals) : PS X (.Try body ((h0 :: hs).map Hd.ast) [] [] pos) (tTry X.K tb (h0 :: hs)) := by
  intro pins s σ H D I h
  refine wpAny_Try_except (h₀ := h0.ast) (hs := hs.map Hd.ast) ?_
  refine wpAny_mono (hb (X.pn ++ pins) _ _ ?_ [] s σ H D I.tryIn h) (fun f s1 z => ?_) fun _ _ z => z
  · intro pins' σ' H' s' e cls dx T I' r e0 eH t0 tH pe le ce ⟨C, g, ec, hp, q⟩
    subst ec
    have I2 : Inv X pins σ' H' s' := I'.tryOut I.ok
    have a : Air X pins H' s' e (.ref C) dx T := ⟨r, e0, eH, t0, tH, fun p hp => pe p (List.mem_append_left _ hp), le, ce⟩
    exact (flight_raised (M := model X.prog X.w) (A := X.A) I2 a hex I.ok.frames hst hfr fun h' T' I3 a3 => handle_ok hex hst hfr I3 a3 q ok hp).1
  · have z' := SP.outT I.ok z
    cases f with
    | next => exact PySem.wpAny_execs_nil z'
    | brk => exact z'
    | cont => exact z'
    | ret u => exact z'
end
end L2

/-! isinstance of an exception -/
namespace L2
open PySem PySem.Spec PySem.Calls PyProof.Rows Builtin.ObjectAttr Builtin.Getset_descriptor
structure ExcKit (K : PySem.W.Frag) (C : Addr) : Prop where
  cl : PySem.W.isClsIn K C = true
  ga : PySem.W.findIn K (.ref C) "__getattribute__" = some (some (.builtin "BaseException.__getattribute__"))
  gt : PySem.W.findIn K (.ref C) "__getattr__" = some none
  ca : PySem.W.findIn K (.ref C) "__class__" = some (some (.builtin "object.__class__"))
  gs : PySem.W.specialIn K (.builtin "object.__class__") "__get__" = some (some (.builtin "getset_descriptor.__get__"))
  tk : PySem.W.takesIn K (.builtin "object.__class__") = some true
  ob : PySem.W.mroIn K C (.type "object") = some true
  be : PySem.W.mroIn K C (.type "BaseException") = some true
section
variable {prog : Program} {w : World} {A : Around} {E : Value → Shared → Prop} {s : Shared} {K : PySem.W.Frag} {x C : Addr} {dx : Option Addr}
theorem exc_type {M : Model} {h : Heap} (p : excAt x C dx h) : PySem.W.Looks M h (typeOf (.ref x)) (.ref C) := by
  obtain ⟨o, h1, h2, _⟩ := p
  exact h2 ▸ (PySem.W.Looks.ld h1).andThen .now
theorem exc_find {M : Model} {h : Heap} (X : K.In h) (k : ExcKit K C) : PySem.W.Looks M h (find (.ref x) (.ref C) "__class__") (.bind (.builtin "getset_descriptor.__get__") (.builtin "object.__class__")) := by
  have l1 := PySem.W.looks_findIn (M := M) X k.ca
  have l2 : PySem.W.Looks M h (getOf (some (.builtin "object.__class__"))) (some (.builtin "getset_descriptor.__get__")) := PySem.W.looks_specialIn X k.gs
  have l3 := PySem.W.looks_takesIn (M := M) X k.tk
  have l4 : PySem.W.Looks M h (dataDescriptor? (some (.builtin "object.__class__")) (some (.builtin "getset_descriptor.__get__"))) (some (.builtin "getset_descriptor.__get__", .builtin "object.__class__")) := l3.andThen .now
  exact l1.andThen (l2.andThen (l4.andThen (PySem.W.Looks.tag .now)))
theorem exc_get {R : Result → Shared → Prop} {tp : Value} (X : K.In s.heap) (p : excAt x C dx s.heap) (k : ExcKit K C) (h : R (.ok (.ret (.ref C))) s) :
    codeAny (model prog w) A (.call (.builtin "getset_descriptor.__get__") ⟨[.builtin "object.__class__", .ref x, tp], []⟩) R s := by
  obtain ⟨hh, g, dr, t, os⟩ := s
  have l0 := exc_type (M := model prog w) p
  have l1 := PySem.W.looks_mroIn (M := model prog w) X k.ob
  refine codeAny_call_builtin PySem.W.KF.slot_gs.plain
    PySem.W.KF.entry_gs (PySem.W.KF.slot_gs.check _ _ _ _ _ _ _ _
      PySem.W.KF.type_class (PySem.W.KF.args_gs _ _ _) ?_)
  unfold Builtin.«getset_descriptor.__get__» descrGet
  rw [PySem.W.dga_obj]
  refine wpAny_bind (wpAny_pure ?_)
  unfold descrGetter descrCheckInstance descrNameAndClass isInstance
  simp only [PySem.W.KF.owner_class]
  repeat lk
  refine ⟨Code.quiet_builtin _ (by decide +kernel),
    codeAny_builtin PySem.W.KF.entry_class ?_⟩
  unfold Builtin.«object.__class__» shownTypeOf
  repeat lk
  exact h
theorem exc_entry {tk : Tok} {Q : Fin → Shared → Prop} (X : K.In s.heap) (p : excAt x C dx s.heap) (k : ExcKit K C) (h : Q (.done (.ret (.ref C))) s) :
    wpAny (model prog w) A (Builtin.«object.__getattribute__» ⟨[.ref x, .str "__class__" tk], []⟩) Q E s := by
  obtain ⟨hh, g, dr, t, os⟩ := s
  have l0 := exc_type (M := model prog w) p
  have l1 := exc_find (M := model prog w) (x := x) X k
  refine wpAny_bind (wpAny_pure (wpAny_bind (wpAny_pure (wpAny_bind (l0.at (wpAny_bind (l1.at ?_)))))))
  show wpAny _ _ (holding [.builtin "object.__class__"] (call (.builtin "getset_descriptor.__get__") [.builtin "object.__class__", .ref x, .ref C]) >>= ret) _ _ _
  exact wpAny_bind (wpAny_holding (wpAny_call (exc_get (s := ⟨hh, g, dr, t, os⟩) X p k (wpAny_pure h))))
theorem exc_check {M : Model} {nv : Value} {Q : Unit → Shared → Prop} (X : K.In s.heap) (p : excAt x C dx s.heap) (k : ExcKit K C) (h : Q () s) : wpAny M A (checkBuiltinCall "BaseException.__getattribute__" ⟨[.ref x, nv], []⟩) Q E s := by
  obtain ⟨hh, g, dr, t, os⟩ := s
  have l0 := exc_type (M := M) p
  have l1 := PySem.W.looks_mroIn (M := M) X k.be
  have li : PySem.W.Looks M hh (isInstance (.ref x) (.type "BaseException")) true := l0.andThen l1
  have e1 : builtinKind "BaseException.__getattribute__" = some .slot := by decide +kernel
  have e2 : splitId "BaseException.__getattribute__" = some ("BaseException", "__getattribute__") := by decide +kernel
  have e3 := PySem.F.args_bexc_ga (.ref x) nv
  simp only [checkBuiltinCall, e1, e2]
  refine wpAny_bind (li.at ?_)
  rw [if_neg (by decide)]
  unfold argsOk at e3
  split
  · rename_i sig hs
    rw [hs] at e3
    have e4 : Bind.checkArgs "BaseException.__getattribute__" sig { pos := [Value.ref x, nv] } = pure () := e3
    rw [e4]
    exact wpAny_pure h
  · exact wpAny_pure h
theorem exc_class {Q : Option Value → Shared → Prop} (X : K.In s.heap) (p : excAt x C dx s.heap) (k : ExcKit K C) (h : Q (some (.ref C)) { s with toks := s.toks + 1 }) : wpAny (model prog w) A (getAttr? (.ref x) "__class__") Q E s := by
  obtain ⟨hh, g, d, t, os⟩ := s
  have l0 := exc_type (M := model prog w) p
  have l1 := PySem.W.looks_findIn (M := model prog w) X k.ga
  have l2 := PySem.W.looks_findIn (M := model prog w) X k.gt
  unfold getAttr? getAttrBy? getAttrBy
  refine wpAny_bind (wpAny_mkText (wpAny_bind (wpAny_attempt (wpAny_holding (wpAny_bind (l0.at (wpAny_bind (l1.at ?_))))))))
  dsimp only
  have hb : (Value.builtin "BaseException.__getattribute__" == Value.builtin "object.__getattribute__") = false := by decide +kernel
  rw [if_neg (by rw [hb, Bool.and_false]; exact Bool.false_ne_true)]
  unfold getAttrByItsOwn hookBefore
  refine wpAny_bind ?_
  rw [if_pos (show onTheHeap (Value.ref C) = true from rfl)]
  refine l2.at ?_
  refine wpAny_bind (wpAny_attempt (wpAny_holding ?_))
  unfold callGetattribute
  rw [if_neg (by decide)]
  unfold boundAndCalled
  rw [PySem.F.excAttr_ValueError.ga.bind (.ref x)]
  refine wpAny_bind (wpAny_pure ?_)
  refine wpAny_call (codeAny_call_builtin PySem.F.excAttr_ValueError.ga.plain PySem.F.entry_bexc_ga (exc_check X p k (exc_entry (s := ⟨hh, g, d, t + 1, os⟩) X p k ?_)))
  show wpAny (model prog w) A (handedOut (.ref C)) _ _ _
  exact wpAny_pure (wpAny_pure h)
theorem kitx_exc (k : ExcKit K C) : PySem.W.KitX K (.ref x) (.ref C) (excAt x C dx) where
  ty := fun M h _ p => exc_type p
  it := fun _ _ X _ => by
    have hc := k.cl
    unfold PySem.W.isClsIn PySem.W.clsIn at hc
    split at hc
    · rename_i ho
      intro A' Q' E' s' kk q
      unfold isType loadHead
      exact wpAny_bind (wpAny_loadPart (kk _ _ (X _ _ ho)) (wpAny_pure q))
    · cases hc
  ne := fun h tp dd its n sl X htp => by
    have hc := k.cl
    refine Bool.eq_false_iff.mpr fun q => ?_
    have e : C = tp := Value.ref.inj (beq_iff_eq.mp q)
    subst e
    unfold PySem.W.isClsIn PySem.W.clsIn at hc
    split at hc
    · rename_i ho
      have z := (X _ _ ho).symm.trans htp
      cases z
    · cases hc
  ca := fun X p kk => exc_class X p k kk
end
section
variable {X : Cx}
noncomputable def rIsX (K : PySem.W.Frag) (c : V) (cv : Value) : List V → Hp → VK → Prop := fun xs H Q => ∃ a C dx b, xs = [.ref a, c] ∧ H a = some (.ext (excAt a C dx)) ∧ ExcKit K C ∧ PySem.W.kitOne K (.ref C) cv = some b ∧ Q (.bl b) H
theorem call_isX {c : V} {cv : Value} (hc : ∀ u, RelV c u → u = cv) : CallR X (.builtin "isinstance") (rIsX X.K c cv) := by
  intro pins s σ H xs us Q I r h
  obtain ⟨a, C, dx, b, rfl, ha, k, e, q⟩ := h
  obtain ⟨u, w', rfl, r1, r2⟩ := vals2 r
  cases r1
  cases hc _ r2
  have p : excAt a C dx s.heap := (I.hok a _ ha).1
  exact PySem.W.kia_one (kitx_exc k) I.kIn p e (fun z => nomatch z) fun tk => ⟨.bl b, H, I.tok _, rfl, q⟩
end
end L2

/-! a comprehension whose block may raise -/
namespace L2
open PySem PySem.Spec PyProof.Rows
theorem note_same {e : Value} {env env' : Env} (h : env'.frame = env.frame) : noteFrame e env' = noteFrame e env := by
  unfold noteFrame PySem.frameOf
  rw [h]
section
variable {X : Cx} {pins : List (Addr × Obj)} {σ : St} {H : Hp} {s s' : Shared}
theorem air_of {EX : EXT} {e : Value} (hex : X.ex = []) (I : Inv X pins σ H s) (h : CX1 X.prog X.w X.stack H s (fun cls od H' => EX cls od σ H') e s') :
    ∃ (a : Addr) (cls : Value) (dx : Option Addr) (T : Addr) (H' : Hp), e = .ref a ∧ Inv X pins σ H' s' ∧ Air X pins H' s' a cls dx T ∧ EX cls dx σ H' ∧ s'.os = s.os ∧ AllBare s'.gens ∧ Un (frs X.stack) [] H H' s.heap s'.heap ∧ HOk X.prog X.w H' s'.heap ∧ s.heap.get? a = none ∧ s.heap.get? T = none := by
  obtain ⟨a, cls, dx, T, H', he, os, bare, un, hok, r, n1, n2, n3, n4, q⟩ := h
  have I' : Inv X pins σ H' s' := I.call' (ch := []) os un hok bare (fun b hb => nomatch hb)
  have old : ∀ b, s.heap.get? b = none → X.s₀.heap.get? b = none := fun b hb => by
    cases z : X.s₀.heap.get? b with
    | none => rfl
    | some o =>
      obtain ⟨o', z'⟩ := I.base.there b o z (by rw [hex]; simp)
      rw [hb] at z'; cases z'
  have pin : ∀ b, s.heap.get? b = none → ∀ p ∈ X.pn ++ pins, p.1 ≠ b := fun b hb p hp z => by
    have := (I.pin p hp).1
    rw [z, hb] at this; cases this
  have loc : ∀ b, s.heap.get? b = none → b ≠ X.env.locals := fun b hb z => by
    obtain ⟨m, ⟨o, es, ep, ho, _⟩, _⟩ := id I.loc
    rw [z, ho] at hb; cases hb
  have cel : ∀ b, s.heap.get? b = none → ∀ x c, X.env.cells.lookup x = some c → c ≠ b := fun b hb x c hc z => by
    obtain ⟨v, o, ho, _⟩ := I.cell x c hc
    rw [z, hb] at ho; cases ho
  exact ⟨a, cls, dx, T, H', he, I', ⟨r, old a n1, n3, old T n2, n4, fun p hp => ⟨pin a n1 p hp, pin T n2 p hp⟩, ⟨loc a n1, loc T n2⟩, fun x c hc => ⟨cel a n1 x c hc, cel T n2 x c hc⟩⟩, q, os, bare, un, hok, n1, n2⟩
end
theorem comp_loopX {prog : Program} {w : World} {A : Around} {s : Shared} {elt target iter : Expr} {ifs : List Expr} {scope : Scope} {pos : Pos} {it acc : Value} {env : Env} {R : Result → Shared → Prop} (I : Nat → Shared → Prop)
    (turn : ∀ n s, I n s → wpAny (model prog w) A (pyNext it) (fun r s₁ => match r with
      | none => R (.ok .next) s₁
      | some v => wpAny (model prog w) A (letOwnedTupleGo target it v) (fun _ s₀ => wpAny (model prog w) A (assign target env v) (fun _ s₂ =>
          wpAny (model prog w) A (forIn ifs true fun c r => if r = true then do let ok ← isTrue c env (eval c env); pure (ForInStep.yield ok) else pure (ForInStep.yield r)) (fun ok s₃ => if ok = true then wpAny (model prog w) A (eval elt env) (fun x s₄ =>
            wpAny (model prog w) A (call (.builtin "list.append") [acc, x]) (fun _ s₅ => ∃ m, m < n ∧ I m s₅) (fun _ _ => False) s₄) (notedBy (model prog w) A env fun x s' => R (.error x) s') s₃
            else ∃ m, m < n ∧ I m s₃) (fun _ _ => False) s₂)
          (fun _ _ => False) s₀) (fun _ _ => False) s₁) (fun _ _ => False) s)
    (n : Nat) (h : I n s) : codeAny (model prog w) A (.compLoop (.ListComp elt [⟨target, iter, ifs, 0⟩] scope pos) 0 it acc env) R s := by
  refine codeAny_loop rfl I (fun n s hI => ?_) n h
  show wpAny _ A ((compTurn (.ListComp elt [⟨target, iter, ifs, 0⟩] scope pos) 0 it acc env).onRaise (fun x => do noteFrame x env; theTreesLotGoes x)) _ _ s
  refine wpAny_noted ?_
  rw [compTurn_list]
  refine wpAny_bind (wpAny_standAt (wpAny_bind (wpAny_mono (turn n s hI) (fun r s₁ h₁ => ?_) fun _ _ f => f.elim)))
  cases r with
  | none => exact wpAny_pure h₁
  | some v =>
    refine wpAny_bind (wpAny_mono h₁ (fun _ s₀ h₀' => ?_) fun _ _ f => f.elim)
    refine wpAny_bind (wpAny_mono h₀' (fun _ s₂ h₂ => ?_) fun _ _ f => f.elim)
    refine wpAny_bind (wpAny_mono h₂ (fun okb s₃ h₃ => ?_) fun _ _ f => f.elim)
    cases okb with
    | false => exact wpAny_pure ⟨rfl, h₃⟩
    | true => exact wpAny_bind (wpAny_bind (wpAny_mono h₃ (fun x s₄ h₄ => wpAny_bind (wpAny_mono h₄ (fun _ s₅ h₅ => wpAny_pure (wpAny_pure ⟨rfl, h₅⟩)) fun _ _ f => f.elim)) fun _ _ f => f))
noncomputable abbrev Cx.blockX (X : Cx) (N' : List Str) (scope : Scope) (C : Addr) (s₀ : Shared) (H₀ : Hp) (ex : List Addr) (xe : Value → Shared → Prop) : Cx :=
  { X with N := N', env := compEnvC scope (clOf X.env.cells scope.names []) C X.env, s₀ := s₀, H₀ := H₀, outer := X.stack, stack := X.stack, ex := ex, fn := fun _ => false, pn := [], xe := xe }
section
variable {X : Cx} {N' : List Str} {scope : Scope} {src : List BSrc} {pins : List (Addr × Obj)} {σ : St} {H : Hp} {s : Shared} {C acc : Addr} {fp : List Addr}
theorem Inv.blockX {C : Addr} {s₀ : Shared} {H₀ : Hp} {ex : List Addr} {xe : Value → Shared → Prop} {ps : List (Addr × Obj)} {τ : St} {G : Hp} {u : Shared} (I : Inv (X.block N' scope C s₀ H₀ ex) ps τ G u) : Inv (X.blockX N' scope C s₀ H₀ ex xe) ps τ G u := by
  have k := I.ok
  exact ⟨⟨k.mod, k.kind, k.glob, k.blt, k.above, k.inj, k.has, k.cab, k.hd, k.frames, k.stk, k.exf, k.bs, k.bsz, k.noex, k.exfs, k.funs, k.frf⟩, I.os, I.bare, I.base, I.loc, I.cell, I.free, I.freeC, I.pin, I.hok, I.len⟩
theorem Inv.unblockX {C : Addr} {s₀ : Shared} {H₀ : Hp} {ex : List Addr} {xe : Value → Shared → Prop} {ps : List (Addr × Obj)} {τ : St} {G : Hp} {u : Shared} (I : Inv (X.blockX N' scope C s₀ H₀ ex xe) ps τ G u) : Inv (X.block N' scope C s₀ H₀ ex) ps τ G u := by
  have k := I.ok
  exact ⟨⟨k.mod, k.kind, k.glob, k.blt, k.above, k.inj, k.has, k.cab, k.hd, k.frames, k.stk, k.exf, k.bs, k.bsz, k.noex, k.exfs, k.funs, k.frf⟩, I.os, I.bare, I.base, I.loc, I.cell, I.free, I.freeC, I.pin, I.hok, I.len⟩
theorem comp_blockX {tg elt iter : Expr} {ifs : List Expr} {pos : Pos} {g : TG} {tt : TT} {te : EXT → TE} {EX : EXT} {it : Addr} {tn : Nat → Heap → Prop} {J : It} {Q : VK} {RR : Value → Addr → Result → Shared → Prop} {E : Value → Shared → Prop}
    (hc : X.calm = true) (hex : X.ex = []) (hst : X.stack = X.env :: X.outer) (hfr : X.env.frame = some X.env.locals) (S : CompScope X N' scope src)
    (hg : ∀ (C : Addr) (s₀ : Shared) (H₀ : Hp) (ex : List Addr), PG (X.block N' scope C s₀ H₀ ex) tg g)
    (ht : ∀ (C : Addr) (s₀ : Shared) (H₀ : Hp) (ex : List Addr), PTs (X.block N' scope C s₀ H₀ ex) ifs tt)
    (he : ∀ (C : Addr) (s₀ : Shared) (H₀ : Hp) (ex : List Addr) (xe : Value → Shared → Prop) (EX : EXT), PassX (X.blockX N' scope C s₀ H₀ ex xe) EX → PE (X.blockX N' scope C s₀ H₀ ex xe) elt (te EX))
    (I : Inv X pins σ H s) (T : Turn X.prog X.w X.K tg J fp it tn) (st : tn 0 s.heap) (hf : ∀ b ∈ fp, FpOk X pins H b)
    (q : ∀ acc, H acc = none → ∃ W : Nat → Nat → St → Hp → Prop, (∃ m, W 0 m (bSt src σ acc) (upd H acc (.lst []))) ∧ ∀ i m σ' H, W i m σ' H → (J.stop i H ∧ Q (.ref acc) H) ∨
      (J.go i H ∧ ∀ x H', J.yld i H x H' → g x σ' H' fun σ2 H2 => tt σ2 H2 fun b H3 => if b = true then te (fun cls od _ H' => EX cls od σ H') σ2 H3 fun y H4 => rAppend (.ref acc) [y] H4 fun _ H5 => ∃ m', m' < m ∧ W (i + 1) m' σ2 H5 else ∃ m', m' < m ∧ W (i + 1) m' σ2 H3))
    (hRR : ∀ (acc C : Addr) (s' : Shared) (H' : Hp) (m : Str → Option Value), Inv X pins σ H' s' → Q (.ref acc) H' → s'.heap.Ns C m → H' C = none → C ≠ X.env.locals → X.s₀.heap.objs.size ≤ C → (∀ x c, X.env.cells.lookup x = some c → c ≠ C) → (∀ p ∈ X.pn ++ pins, p.1 ≠ C) →
      RR (.ref acc) C (.ok .next) s')
    (hRE : ∀ (acc C : Addr) (s' : Shared) (H' : Hp) (m : Str → Option Value) (a : Addr) (cls : Value) (dx : Option Addr) (T : Addr), Inv X pins σ H' s' → Air X pins H' s' a cls dx T → EX cls dx σ H' → s'.heap.Ns C m → H' C = none → C ≠ X.env.locals → X.s₀.heap.objs.size ≤ C → (∀ x c, X.env.cells.lookup x = some c → c ≠ C) → (∀ p ∈ X.pn ++ pins, p.1 ≠ C) → C ≠ a → C ≠ T →
      RR (.ref acc) C (.error (.ref a)) s') :
    wpAny (model X.prog X.w) X.A (newList []) (fun acc s₃ => wpAny (model X.prog X.w) X.A (newFunctionEnv scope X.env.globals (clOf X.env.cells scope.names []) [] X.env.qual none .none (some X.env)) (fun cenv s₄ =>
      codeAny (model X.prog X.w) X.A (.compStart (.ListComp elt [⟨tg, iter, ifs, 0⟩] scope pos) 0 (.ref it) acc { cenv with scope := relabel scope X.env }) (RR acc cenv.locals) s₄) E s₃) E s := by
  have hfo : ∀ b ∈ fp, ∃ o, s.heap.get? b = some o := fun b hb => let ⟨o, e, _⟩ := T.obj 0 _ st b hb; ⟨o, e⟩
  refine wpAny_newObj_type (wpAny_newFunctionEnv S.nocell (by intro y hy; simp at hy) (fun h₁ hns₁ hsb₁ => ?_) S.kind)
  dsimp only at hns₁ hsb₁ ⊢
  have hacc : H s.heap.objs.size = none := I.hok.fresh (Nat.le_refl _)
  have I3 : Inv X pins σ (upd H s.heap.objs.size (.lst [])) { s with heap := s.heap.push { cls := .type "list", dict := none, data := .seq ([] : List Value).toArray } } := I.lnew (t' := s.toks) (its := []) (ys := []) .nil (Nat.zero_le _)
  have hf3 : ∀ b ∈ fp, FpOk X pins (upd H s.heap.objs.size (.lst [])) b := fun b hb => by
    obtain ⟨f0, f⟩ := hf b hb
    obtain ⟨o, ho⟩ := hfo b hb
    exact ⟨by rw [upd_ne (Nat.ne_of_lt (Heap.lt_size ho))]; exact f0, f⟩
  have hfo3 : ∀ b ∈ fp, ∃ o, (s.heap.push { cls := .type "list", dict := none, data := .seq ([] : List Value).toArray }).get? b = some o := fun b hb => let ⟨o, e⟩ := hfo b hb; ⟨o, Heap.get?_push_of_some _ e⟩
  obtain ⟨W, ⟨m0, w0⟩, turn⟩ := q _ hacc
  generalize hH2 : s.heap.push { cls := .type "list", dict := none, data := .seq ([] : List Value).toArray } = H2 at hns₁ hsb₁ I3 hfo3 ⊢
  have keep : ∀ b o, H2.get? b = some o → h₁.get? b = some o := fun b o e => hsb₁.extBut b o (Nat.ne_of_lt (Heap.lt_size e)) (Heap.get?_push_of_some _ e)
  have J0 := block_start (N' := N') (scope := scope) (src := src) (acc := s.heap.objs.size) (tk := s.toks + ([] : List (Str × Value)).length) (C := H2.objs.size) S I3 rfl hf3 hfo3 (show h₁.Ns H2.objs.size (fun _ => none) from hns₁) keep
  have st1 : tn 0 h₁ := T.keep 0 s.heap h₁ st fun b hb o e => keep b o (by rw [← hH2]; exact Heap.get?_push_of_some _ e)
  have cne : H2.objs.size ≠ X.env.locals := Nat.ne_of_gt I3.lt
  have csz : X.s₀.heap.objs.size ≤ H2.objs.size := I3.sz
  have ccell : ∀ x c, X.env.cells.lookup x = some c → c ≠ H2.objs.size := fun x c e z => by
    obtain ⟨v, oc, hoc, _⟩ := I3.cell x c e
    exact absurd (Heap.lt_size hoc) (by rw [z]; exact Nat.lt_irrefl _)
  have cpin : ∀ p ∈ X.pn ++ pins, p.1 ≠ H2.objs.size := fun p hp z => absurd (Heap.lt_size (I3.pin p hp).1) (by rw [z]; exact Nat.lt_irrefl _)
  have loop : ∀ s₃ : Shared, s₃ = { s with heap := h₁, toks := s.toks + ([] : List (Str × Value)).length } →
      codeAny (model X.prog X.w) X.A (.compLoop (.ListComp elt [⟨tg, iter, ifs, 0⟩] scope pos) 0 (.ref it) (.ref s.heap.objs.size) (compEnvC scope (clOf X.env.cells scope.names []) H2.objs.size X.env)) (RR (.ref s.heap.objs.size) H2.objs.size) s₃ := by
    rintro s₃ rfl
    refine comp_loopX (fun n s' => ∃ i σ' H', Inv (X.block N' scope H2.objs.size { s with heap := H2 } (upd H s.heap.objs.size (.lst [])) fp) [] σ' H' s' ∧ tn i s'.heap ∧ (∀ b ∈ fp, H' b = none) ∧ W i n σ' H') ?_ m0 ⟨0, _, _, J0, st1, fun b hb => (hf3 b hb).1, w0⟩
    rintro n s4 ⟨i, σ4, H4, J4, st4, fr4, w4⟩
    have fok : ∀ {H' : Hp}, (∀ b ∈ fp, H' b = none) → ∀ b ∈ fp, FpOk (X.block N' scope H2.objs.size { s with heap := H2 } (upd H s.heap.objs.size (.lst [])) fp) [] H' b := fun {H'} hn b hb => by
      obtain ⟨f0, f1, f2, f3, f4, f5⟩ := hf3 b hb
      refine ⟨hn b hb, ?_, fun z => J4.ok.exfs b hb z, .inl hb, fun x c e => (J4.ok.exf b hb).2 x c e, fun p hp => ?_⟩
      · exact (J4.ok.exf b hb).1
      · have hp' : p ∈ ([] : List (Addr × Obj)) := by simpa using hp
        exact nomatch hp'
    rcases turn i n σ4 H4 w4 with ⟨stop, qn⟩ | ⟨go, step⟩
    · refine thn (T.done (X.block N' scope H2.objs.size { s with heap := H2 } (upd H s.heap.objs.size (.lst [])) fp) rfl rfl rfl hc i [] s4 σ4 H4 _ J4 (fok fr4) st4 stop) fun r s5 ⟨hr, J5⟩ => ?_
      subst hr
      obtain ⟨m5, hn5, _⟩ := J5.loc
      have I5 : Inv X pins σ H4 s5 := I3.call' (ch := fp) J5.os J5.base J5.hok J5.bare fun b hb => by
        obtain ⟨f0, f1, f2, f3, f4, f5⟩ := hf3 b hb
        exact ⟨f3, f1, f4, f5⟩
      exact hRR _ _ s5 H4 m5 I5 qn hn5 J5.free cne csz ccell cpin
    · refine thn (T.item (X.block N' scope H2.objs.size { s with heap := H2 } (upd H s.heap.objs.size (.lst [])) fp) rfl rfl rfl hc i [] s4 σ4 H4 _ J4 (fok fr4) st4 go) fun r s5 ⟨u, hr, h5⟩ => ?_
      subst hr
      refine thn h5 fun _ s6 ⟨x, H6, J6, r6, y6, st6, fr6⟩ => ?_
      have J6' := J6.pinned (fok fr6) (T.obj _ _ st6)
      have again : ∀ {σ7 : St} {H7 : Hp} {s7 : Shared}, Inv (X.block N' scope H2.objs.size { s with heap := H2 } (upd H s.heap.objs.size (.lst [])) fp) ([] ++ pinsAt fp s6.heap) σ7 H7 s7 → (∃ m', m' < n ∧ W (i + 1) m' σ7 H7) →
          ∃ m, m < n ∧ ∃ i σ' H', Inv (X.block N' scope H2.objs.size { s with heap := H2 } (upd H s.heap.objs.size (.lst [])) fp) [] σ' H' s7 ∧ tn i s7.heap ∧ (∀ b ∈ fp, H' b = none) ∧ W i m σ' H' := fun {σ7 H7 s7} J7 ⟨m', hm, w7⟩ => by
        refine ⟨m', hm, i + 1, σ7, H7, J7.unpinned, T.keep _ _ _ st6 fun b hb o e => (J7.pin (b, o) (List.mem_append_right _ (List.mem_append_right _ (mem_pinsAt hb e)))).1, fun b hb => ?_, w7⟩
        obtain ⟨o, e, d⟩ := T.obj _ _ st6 b hb
        exact (J7.pin (b, o) (List.mem_append_right _ (List.mem_append_right _ (mem_pinsAt hb e)))).2.1
      refine thn (hg _ _ _ _ _ s6 σ4 H6 x u _ J6' r6 (step x H6 y6)) fun _ s7 ⟨σ7, H7, J7, q7⟩ => ?_
      refine thn (ht _ _ _ _ _ s7 σ7 H7 _ J7 q7) fun b s8 ⟨H8, J8, q8⟩ => ?_
      cases b with
      | false => rw [if_neg Bool.false_ne_true] at q8 ⊢; exact again J8 q8
      | true =>
        rw [if_pos rfl] at q8 ⊢
        refine thn (he _ _ _ _ (fun e s' => notedBy (model X.prog X.w) X.A (compEnvC scope (clOf X.env.cells scope.names []) H2.objs.size X.env) (fun x s' => RR (.ref s.heap.objs.size) H2.objs.size (.error x) s') e s') (fun cls od _ H' => EX cls od σ H') ?_ _ s8 σ7 H8 _ J8.blockX q8) fun y s9 ⟨vy, H9, J9', r9, q9⟩ => ?_
        · intro ps τ G u e u' K0 hx
          have up : ∀ {ps : List (Addr × Obj)} {τ : St} {G : Hp} {u : Shared}, Inv (X.blockX N' scope H2.objs.size { s with heap := H2 } (upd H s.heap.objs.size (.lst [])) fp (fun e s' => notedBy (model X.prog X.w) X.A (compEnvC scope (clOf X.env.cells scope.names []) H2.objs.size X.env) (fun x s' => RR (.ref s.heap.objs.size) H2.objs.size (.error x) s') e s')) ps τ G u → Inv X pins σ G u := fun {ps τ G u} K => I3.call' (ch := fp) K.os K.base K.hok K.bare fun b hb => by
            obtain ⟨f0, f1, f2, f3, f4, f5⟩ := hf3 b hb
            exact ⟨f3, f1, f4, f5⟩
          obtain ⟨a, cls, dx, T', G', ee, I', ar, qx, os2, bare2, un2, hok2, na, nT⟩ := air_of (X := X) (EX := EX) hex (up K0) hx
          have Kb := K0.call' (ch := []) os2 un2 hok2 bare2 (fun b hb => nomatch hb)
          subst ee
          obtain ⟨m0, ⟨o0, _, _, q0, _⟩, _⟩ := K0.loc
          obtain ⟨mC, ⟨oC, esC, epC, qC, rC⟩, _⟩ := Kb.loc
          have q0' : u.heap.get? H2.objs.size = some o0 := q0
          have qC' : u'.heap.get? H2.objs.size = some oC := qC
          have nCa : H2.objs.size ≠ a := fun z => by rw [z, na] at q0'; cases q0'
          have nCT : H2.objs.size ≠ T' := fun z => by rw [z, nT] at q0'; cases q0'
          have nCf : H2.objs.size ∉ frs X.stack := fun z => by
            rcases List.mem_cons.mp (I3.stkSub _ z) with y | y
            · exact cne y
            · exact I3.nofs (Nat.le_refl _) y
          show wpAny (model X.prog X.w) X.A (noteFrame (.ref a) (compEnvC scope (clOf X.env.cells scope.names []) H2.objs.size X.env)) _ _ u'
          rw [note_same (env := X.env) (env' := compEnvC scope (clOf X.env.cells scope.names []) H2.objs.size X.env) rfl]
          refine note_any (base := X.base) (by rw [I3.ok.frames, hst]) (by rw [← hst]; exact I'.stack) hfr ar.r fun h1 T1 n1 => ?_
          rw [← hst] at n1
          obtain ⟨I1, a1⟩ := I'.noted ar hex n1
          have nT1 : H2.objs.size ≠ T1 := fun z => by
            rcases n1.new with y | y
            · rw [← z, qC'] at y; cases y
            · cases y; exact nCT z
          exact hRE _ _ _ G' mC a cls dx T1 I1 a1 qx ⟨oC, esC, epC, n1.keep _ oC nCa (fun z => nCT (List.mem_singleton.mp z)) nCf qC', rC⟩ Kb.free cne csz ccell cpin nCa nT1
        have J9 := J9'.unblockX
        refine thn (mt_append _ s9 σ7 H9 (.ref s.heap.objs.size) [vy] (.ref s.heap.objs.size) [y] _ J9 rfl (.cons r9 .nil) q9) fun _ s10 ⟨_, H10, J10, _, q10⟩ => again J10 q10
  exact codeAny_compStart_list (loop _ rfl) (T.self X.A 0 _ _ _ st1 (loop _ rfl))

noncomputable def tCompX (src : List BSrc) (wi : TI) (g : TG) (tt : TT) (te : EXT → TE) (EX : EXT) : TE := fun σ H Q => wi σ H fun J H1 => ∀ acc, H1 acc = none →
  ∃ W : Nat → Nat → St → Hp → Prop, (∃ m, W 0 m (bSt src σ acc) (upd H1 acc (.lst []))) ∧ ∀ i m σ' H, W i m σ' H → (J.stop i H ∧ Q (.ref acc) H) ∨
    (J.go i H ∧ ∀ x H', J.yld i H x H' → g x σ' H' fun σ2 H2 => tt σ2 H2 fun b H3 => if b = true then te (fun cls od _ H' => EX cls od σ H') σ2 H3 fun y H4 => rAppend (.ref acc) [y] H4 fun _ H5 => ∃ m', m' < m ∧ W (i + 1) m' σ2 H5 else ∃ m', m' < m ∧ W (i + 1) m' σ2 H3)
theorem pe_compX {tg elt iter : Expr} {ifs : List Expr} {pos : Pos} {wi : TI} {g : TG} {tt : TT} {te : EXT → TE} {EX : EXT} (hc : X.calm = true) (hex : X.ex = []) (hst : X.stack = X.env :: X.outer) (hfr : X.env.frame = some X.env.locals) (th : ThrowsT X EX) (S : CompScope X N' scope src) (hi : PI X tg iter wi)
    (hg : ∀ (C : Addr) (s₀ : Shared) (H₀ : Hp) (ex : List Addr), PG (X.block N' scope C s₀ H₀ ex) tg g)
    (ht : ∀ (C : Addr) (s₀ : Shared) (H₀ : Hp) (ex : List Addr), PTs (X.block N' scope C s₀ H₀ ex) ifs tt)
    (he : ∀ (C : Addr) (s₀ : Shared) (H₀ : Hp) (ex : List Addr) (xe : Value → Shared → Prop) (EX : EXT), PassX (X.blockX N' scope C s₀ H₀ ex xe) EX → PE (X.blockX N' scope C s₀ H₀ ex xe) elt (te EX))
    (hs : ∀ x, foldedSetIterable iter X.env x = pure x := by intro _; rfl) : PE X (.ListComp elt [⟨tg, iter, ifs, 0⟩] scope pos) (tCompX src wi g tt te EX) := by
  intro pins s σ H Q I h
  rw [eval_ListComp]
  refine wpAny_comprehension_free (use := none) rfl hs (closureFor_of fun y hy e => I.ok.has y.1 (S.free y hy e)) S.kind S.names (thn (hi pins s σ H _ I h) fun v s1 h1 => thn h1 fun itv s2 h2 => ?_)
  obtain ⟨it, fp, tn, J, H2, e, I2, T, st2, f2, q⟩ := h2
  subst e
  refine comp_blockX hc hex hst hfr S hg ht he I2 T st2 f2 q (fun acc C s' H' m I' q' hn hC c1 c2 c3 c4 => ⟨m, hn, fun h' hs' => ?_⟩) fun acc C s' H' m a cls dx T' I' ar qx hn hC c1 c2 c3 c4 n1 n2 => ⟨m, hn, fun h' hs' cenv hce => ?_⟩
  · exact ⟨.ref acc, H', I'.turned (t' := s'.toks) (fun b o hb e => (hs'.2 b hb).trans e) hC c1 (.inr c2) c3 c4, rfl, q'⟩
  · have I3 : Inv X pins σ H' { s' with heap := h' } := I'.turned (t' := s'.toks) (fun b o hb e => (hs'.2 b hb).trans e) hC c1 (.inr c2) c3 c4
    have r3 : Raised h' a cls dx (some T') := by
      obtain ⟨oe, vs, k1, k2⟩ := ar.r.obj
      refine ⟨⟨oe, vs, (hs'.2 a (Ne.symm n1)).trans k1, k2⟩, fun T2 z => ?_⟩
      cases z
      obtain ⟨k3, oT, ts, fl, k4, k5⟩ := ar.r.tr T' rfl
      exact ⟨k3, oT, ts, fl, (hs'.2 T' (Ne.symm n2)).trans k4, k5⟩
    have a3 : Air X pins H' { s' with heap := h' } a cls dx T' := ⟨r3, ar.e0, ar.eH, ar.t0, ar.tH, ar.pe, ar.le, ar.ce⟩
    obtain ⟨oe, vs, k1, k2, kd, k3, k5⟩ := r3.obj
    have nor : ∀ b o ws, h'.get? b = some o → o.data = .fields ws → b ∉ frs X.stack := fun b o ws q qd hm => by
      obtain ⟨_, o', q1, q2⟩ := I3.stack.mem hm
      have q1' : h'.get? b = some o' := q1
      rw [q] at q1'; cases q1'
      exact q2 ws qd
    unfold PySem.passOn
    refine wpAny_bind (wpAny_field (s := { s' with heap := h' }) k1 k3 k5 ?_)
    rw [if_neg (by simp)]
    refine wpAny_bind (flight_any (s := { s' with heap := h' }) r3 nor fun h2 n2 => ?_)
    obtain ⟨I4, a4⟩ := I3.noted a3 hex n2
    exact wpAny_throw (th pins σ H' _ a cls dx T' I4 a4.r a4.e0 a4.eH a4.t0 a4.tH a4.pe a4.le a4.ce qx)
end
end L2

/-! VALUES WITHOUT A HEAP. A datum D is a tree; F is the part of the abstract heap that is never changed again; what a slot owns may still be changed. -/
namespace DL
open PySem L2
variable {K : PySem.W.Frag}

inductive D where
  | non | bl (b : Bool) | int (i : Int) | str (x : Str)
  | tup (xs : List D) | lst (xs : List D)
  | dK (ks : List Key) (vs : List D) | dT (ks : List (List Key)) (vs : List D)
  | exc (c : Str) (ks : List Str) (vs : List D)
noncomputable def ClsIs (K : PySem.W.Frag) (c : Str) (C : Addr) : Prop := PySem.W.nsIn K mainGlobals c = some (some (.ref C))

noncomputable def KB (F : Hp) (kvs : List (List Key × V)) (bs : List Addr) : Prop := Paired (fun (p : List Key × V) (b : Addr) => F b = some (.tup (p.1.map kV))) kvs bs
mutual
inductive Rep (K : PySem.W.Frag) (F : Hp) : D → V → Prop where
  | non : Rep K F .non .non
  | bl (b : Bool) : Rep K F (.bl b) (.bl b)
  | int (i : Int) : Rep K F (.int i) (.int i)
  | str (x : Str) : Rep K F (.str x) (.str x)
  | tup {a : Addr} {xs : List D} {vs : List V} (h : F a = some (.tup vs)) (r : Reps K F xs vs) : Rep K F (.tup xs) (.ref a)
  | lst {a : Addr} {xs : List D} {vs : List V} (h : SqL K F a vs) (r : Reps K F xs vs) : Rep K F (.lst xs) (.ref a)
  | dK {a : Addr} {ks : List Key} {ds : List D} {kvs : List (Key × V)} {ep : Nat} (h : F a = some (.dK kvs ep)) (e : kvs.map (·.1) = ks) (r : Reps K F ds (kvs.map (·.2))) : Rep K F (.dK ks ds) (.ref a)
  | dT {a : Addr} {ks : List (List Key)} {ds : List D} {kvs : List (List Key × V)} {ep : Nat} {bs : List Addr} (h : F a = some (.dT kvs ep bs)) (kb : KB F kvs bs) (e : kvs.map (·.1) = ks) (r : Reps K F ds (kvs.map (·.2))) : Rep K F (.dT ks ds) (.ref a)
  | exc {a C : Addr} {c : Str} (cl : ClsIs K c C) (h : F a = some (.ext (excAt a C none))) : Rep K F (.exc c [] []) (.ref a)
  | exd {a C dx : Addr} {c : Str} {ks : List Str} {ds : List D} {fs : List (Str × V)} (cl : ClsIs K c C) (h : F a = some (.ext (excAt a C (some dx)))) (hx : F dx = some (.xd fs)) (e : fs.map (·.1) = ks) (r : Reps K F ds (fs.map (·.2))) : Rep K F (.exc c ks ds) (.ref a)
inductive Reps (K : PySem.W.Frag) (F : Hp) : List D → List V → Prop where
  | nil : Reps K F [] []
  | cons {d : D} {v : V} {ds : List D} {vs : List V} (h : Rep K F d v) (t : Reps K F ds vs) : Reps K F (d :: ds) (v :: vs)
end

theorem KB.mono {F F' : Hp} (s : Same F F') {kvs : List (List Key × V)} {bs : List Addr} (h : KB F kvs bs) : KB F' kvs bs := Paired.mapP h fun _ _ z => s _ _ z
theorem rdMono {F F' : Hp} (s : Same F F') {a : Addr} {u : HO} (h : Rd F a u) : Rd F' a u := by
  rcases h with h | ⟨o, h⟩
  · exact .inl (s _ _ h)
  · exact .inr ⟨o, s _ _ h⟩
theorem sqL_mono {F F' : Hp} (s : Same F F') {a : Addr} {xs : List V} (h : SqL K F a xs) : SqL K F' a xs := by
  rcases h with h | h
  · exact .inl (rdMono s h)
  · exact .inr h
theorem sqT_mono {F F' : Hp} (s : Same F F') {a : Addr} {xs : List V} (h : SqT K F a xs) : SqT K F' a xs := by
  rcases h with h | h
  · exact .inl (rdMono s h)
  · exact .inr h
theorem tupSq {F : Hp} {a : Addr} {vs : List V} (h : F a = some (.tup vs)) : SqT K F a vs := .inl (.inl h)
mutual
theorem Rep.mono {F F' : Hp} (s : Same F F') : ∀ {d : D} {v : V}, Rep K F d v → Rep K F' d v
  | _, _, .non => .non
  | _, _, .bl b => .bl b
  | _, _, .int i => .int i
  | _, _, .str x => .str x
  | _, _, .tup h r => .tup (s _ _ h) (Reps.mono s r)
  | _, _, .lst h r => .lst (sqL_mono s h) (Reps.mono s r)
  | _, _, .dK h e r => .dK (s _ _ h) e (Reps.mono s r)
  | _, _, .dT h kb e r => .dT (s _ _ h) (kb.mono s) e (Reps.mono s r)
  | _, _, .exc cl h => .exc cl (s _ _ h)
  | _, _, .exd cl h hx e r => .exd cl (s _ _ h) (s _ _ hx) e (Reps.mono s r)
theorem Reps.mono {F F' : Hp} (s : Same F F') : ∀ {ds : List D} {vs : List V}, Reps K F ds vs → Reps K F' ds vs
  | _, _, .nil => .nil
  | _, _, .cons h t => .cons (Rep.mono s h) (Reps.mono s t)
end
theorem Reps.length {F : Hp} : ∀ {ds : List D} {vs : List V}, Reps K F ds vs → ds.length = vs.length
  | _, _, .nil => rfl
  | _, _, .cons _ t => by rw [List.length_cons, List.length_cons, Reps.length t]
theorem Reps.append {F : Hp} : ∀ {ds es : List D} {vs us : List V}, Reps K F ds vs → Reps K F es us → Reps K F (ds ++ es) (vs ++ us)
  | _, _, _, _, .nil, q => q
  | _, _, _, _, .cons h t, q => .cons h (t.append q)
theorem Reps.snoc {F : Hp} {ds : List D} {vs : List V} {d : D} {v : V} (r : Reps K F ds vs) (h : Rep K F d v) : Reps K F (ds ++ [d]) (vs ++ [v]) := r.append (.cons h .nil)
theorem Reps.get {F : Hp} : ∀ {ds : List D} {vs : List V} {i : Nat} {d : D}, Reps K F ds vs → ds[i]? = some d → ∃ v, vs[i]? = some v ∧ Rep K F d v
  | _, _, _, _, .nil, e => by simp at e
  | _, _, 0, _, .cons h t, e => by simp at e; subst e; exact ⟨_, rfl, h⟩
  | _, _, i + 1, d, .cons h t, e => by
    obtain ⟨v, h1, h2⟩ := Reps.get (i := i) (d := d) t (by simpa using e)
    exact ⟨v, by simpa using h1, h2⟩
theorem Reps.take {F : Hp} : ∀ {ds : List D} {vs : List V} (n : Nat), Reps K F ds vs → Reps K F (ds.take n) (vs.take n)
  | _, _, 0, _ => .nil
  | _, _, _ + 1, .nil => .nil
  | _, _, n + 1, .cons h t => .cons h (t.take n)
theorem Reps.drop {F : Hp} : ∀ {ds : List D} {vs : List V} (n : Nat), Reps K F ds vs → Reps K F (ds.drop n) (vs.drop n)
  | _, _, 0, r => r
  | _, _, _ + 1, .nil => .nil
  | _, _, n + 1, .cons h t => t.drop n

inductive SV where
  | fz (d : D) | ol (xs : List D) | oK (ks : List Key) (vs : List D) | oT (ks : List (List Key)) (vs : List D) | oN (ks : List Key) (xss : List (List D))
@[simp] noncomputable def SV.toD : SV → D
  | .fz d => d
  | .ol xs => .lst xs
  | .oK ks vs => .dK ks vs
  | .oT ks vs => .dT ks vs
  | .oN ks xss => .dK ks (xss.map D.lst)
noncomputable abbrev Nodes := List (Addr × HO)
inductive Kids (K : PySem.W.Frag) (F : Hp) : List (List D) → List V → Nodes → Prop where
  | nil : Kids K F [] [] []
  | cons {xs : List D} {xss : List (List D)} {b : Addr} {vs : List V} {ws : List V} {ns : Nodes} (r : Reps K F xs vs) (t : Kids K F xss ws ns) : Kids K F (xs :: xss) (.ref b :: ws) ((b, .lst vs) :: ns)
inductive Shape (K : PySem.W.Frag) (F : Hp) : SV → V → Nodes → Prop where
  | fz {d : D} {v : V} (h : Rep K F d v) : Shape K F (.fz d) v []
  | ol {a : Addr} {xs : List D} {vs : List V} (r : Reps K F xs vs) : Shape K F (.ol xs) (.ref a) [(a, .lst vs)]
  | oK {a : Addr} {ks : List Key} {ds : List D} {kvs : List (Key × V)} {ep : Nat} (e : kvs.map (·.1) = ks) (r : Reps K F ds (kvs.map (·.2))) : Shape K F (.oK ks ds) (.ref a) [(a, .dK kvs ep)]
  | oT {a : Addr} {ks : List (List Key)} {ds : List D} {kvs : List (List Key × V)} {ep : Nat} {bs : List Addr} (kb : KB F kvs bs) (e : kvs.map (·.1) = ks) (r : Reps K F ds (kvs.map (·.2))) : Shape K F (.oT ks ds) (.ref a) [(a, .dT kvs ep bs)]
  | oN {a : Addr} {ks : List Key} {xss : List (List D)} {kvs : List (Key × V)} {ns : Nodes} {ep : Nat} (e : kvs.map (·.1) = ks) (r : Kids K F xss (kvs.map (·.2)) ns) : Shape K F (.oN ks xss) (.ref a) ((a, .dK kvs ep) :: ns)
theorem Kids.mono {F F' : Hp} (s : Same F F') : ∀ {xss : List (List D)} {ws : List V} {ns : Nodes}, Kids K F xss ws ns → Kids K F' xss ws ns
  | _, _, _, .nil => .nil
  | _, _, _, .cons r t => .cons (r.mono s) (t.mono s)
theorem Shape.mono {F F' : Hp} (s : Same F F') {sv : SV} {v : V} {ns : Nodes} (h : Shape K F sv v ns) : Shape K F' sv v ns := by
  cases h with
  | fz h => exact .fz (h.mono s)
  | ol r => exact .ol (r.mono s)
  | oK e r => exact .oK e (r.mono s)
  | oT kb e r => exact .oT (kb.mono s) e (r.mono s)
  | oN e r => exact .oN e (r.mono s)

noncomputable def addL (F : Hp) : Nodes → Hp
  | [] => F
  | p :: r => upd (addL F r) p.1 p.2
noncomputable abbrev adr (ns : Nodes) : List Addr := ns.map (·.1)
theorem addL_old {F : Hp} {b : Addr} : ∀ {ns : Nodes}, b ∉ adr ns → addL F ns b = F b
  | [], _ => rfl
  | p :: r, h => by
    have h1 : b ≠ p.1 := fun e => h (by rw [e]; exact List.mem_cons_self)
    have h2 : b ∉ adr r := fun e => h (List.mem_cons_of_mem _ e)
    show upd (addL F r) p.1 p.2 b = F b
    rw [upd_ne h1, addL_old h2]
theorem addL_new {F : Hp} {p : Addr × HO} : ∀ {ns : Nodes}, (adr ns).Nodup → p ∈ ns → addL F ns p.1 = some p.2
  | [], _, h => nomatch h
  | q :: r, nd, h => by
    obtain ⟨n1, n2⟩ := List.nodup_cons.mp nd
    show upd (addL F r) q.1 q.2 p.1 = some p.2
    rcases List.mem_cons.mp h with e | e
    · subst e; exact upd_same
    · rw [upd_ne fun z => n1 (List.mem_map.mpr ⟨p, e, z⟩)]
      exact addL_new n2 e
theorem addL_same {F : Hp} {ns : Nodes} (h : ∀ p ∈ ns, F p.1 = none) : Same F (addL F ns) := fun b o e => by
  by_cases hb : b ∈ adr ns
  · obtain ⟨p, hp, ep⟩ := List.mem_map.mp hb
    subst ep
    rw [h p hp] at e; cases e
  · rw [addL_old hb]; exact e
theorem addL_le {F H : Hp} {ns : Nodes} (nd : (adr ns).Nodup) (le : Same F H) (h : ∀ p ∈ ns, H p.1 = some p.2) : Same (addL F ns) H := fun b o e => by
  by_cases hb : b ∈ adr ns
  · obtain ⟨p, hp, ep⟩ := List.mem_map.mp hb
    subst ep
    rw [addL_new nd hp] at e
    cases e
    exact h p hp
  · rw [addL_old hb] at e; exact le b o e
theorem addL_fro {Z : Hp × Hp} {F : Hp} {ns : Nodes} (nd : (adr ns).Nodup) (fro : ∀ (b : Addr) (o : HO), F b = some o → Z.2 b = some o ∨ Z.1 b = none) (hz : ∀ p ∈ ns, Z.1 p.1 = none) : ∀ (b : Addr) (o : HO), addL F ns b = some o → Z.2 b = some o ∨ Z.1 b = none := fun b o e => by
  by_cases hb : b ∈ adr ns
  · obtain ⟨p, hp, ep⟩ := List.mem_map.mp hb
    subst ep
    exact .inr (hz p hp)
  · rw [addL_old hb] at e; exact fro b o e
theorem Kids.rep {F F' : Hp} (s : Same F F') : ∀ {xss : List (List D)} {ws : List V} {ns : Nodes}, Kids K F xss ws ns → (∀ p ∈ ns, F' p.1 = some p.2) → Reps K F' (xss.map D.lst) ws
  | _, _, _, .nil, _ => .nil
  | _, _, _, .cons r t, h => .cons (.lst (.inl (.inl (h _ List.mem_cons_self))) (r.mono s)) (t.rep s fun p hp => h p (List.mem_cons_of_mem _ hp))
theorem Shape.rep {F : Hp} {sv : SV} {v : V} {ns : Nodes} (h : Shape K F sv v ns) (nd : (adr ns).Nodup) (hn : ∀ p ∈ ns, F p.1 = none) : Rep K (addL F ns) sv.toD v := by
  have s := addL_same hn
  have a : ∀ p ∈ ns, addL F ns p.1 = some p.2 := fun p hp => addL_new nd hp
  cases h with
  | fz h => exact h
  | ol r => exact .lst (.inl (.inl (a (_, _) List.mem_cons_self))) (r.mono s)
  | oK e r => exact .dK (a (_, _) List.mem_cons_self) e (r.mono s)
  | oT kb e r => exact .dT (a (_, _) List.mem_cons_self) (kb.mono s) e (r.mono s)
  | oN e r => exact .dK (a (_, _) List.mem_cons_self) e (r.rep s fun p hp => a p (List.mem_cons_of_mem _ hp))

noncomputable abbrev DSt := List (Option SV)
structure Ent (K : PySem.W.Frag) where
  h : Hp
  f : Hp
  x : EXT
noncomputable abbrev ent (H F : Hp) : Ent K := ⟨H, F, fun _ _ _ _ => False⟩
structure Exn where
  c : Str
  ks : List Str := []
  vs : List D := []
noncomputable def ExcRep (K : PySem.W.Frag) (F : Hp) (e : Exn) (cls : Value) (od : Option Addr) : Prop := ∃ C, ClsIs K e.c C ∧ cls = .ref C ∧ match od with
  | none => e.ks = [] ∧ e.vs = []
  | some dx => ∃ fs : List (Str × V), F dx = some (.xd fs) ∧ fs.map (·.1) = e.ks ∧ Reps K F e.vs (fs.map (·.2))
structure SR (Z : Ent K) (F H : Hp) (σ : St) (δ : DSt) (own : Nat → Nodes) : Prop where
  le : Same F H
  fro : ∀ (b : Addr) (o : HO), F b = some o → Z.f b = some o ∨ Z.h b = none
  old : Same Z.h H
  len : σ.length = δ.length
  at' : ∀ (i : Nat) (sv : SV), δ[i]? = some (some sv) → ∃ v, σ[i]? = some (some v) ∧ Shape K F sv v (own i)
  nod : ∀ i : Nat, (adr (own i)).Nodup
  ok : ∀ (i : Nat) (p : Addr × HO), p ∈ own i → F p.1 = none ∧ Z.h p.1 = none ∧ H p.1 = some p.2
  sep : ∀ (i j : Nat) (p q : Addr × HO), i ≠ j → p ∈ own i → q ∈ own j → p.1 ≠ q.1
inductive RV where
  | tmp (sv : SV) | bw (i : Nat)
structure TmpOk (Z : Ent K) (F H : Hp) (own : Nat → Nodes) (sv : SV) (v : V) (ns : Nodes) : Prop where
  sh : Shape K F sv v ns
  nd : (adr ns).Nodup
  ok : ∀ p ∈ ns, F p.1 = none ∧ Z.h p.1 = none ∧ H p.1 = some p.2
  sep : ∀ (i : Nat) (p q : Addr × HO), p ∈ ns → q ∈ own i → p.1 ≠ q.1
noncomputable def RVRep (Z : Ent K) (F H : Hp) (σ : St) (own : Nat → Nodes) : RV → V → Prop
  | .tmp sv, v => ∃ ns, TmpOk Z F H own sv v ns
  | .bw i, v => σ[i]? = some (some v)

theorem TmpOk.fz {Z : Ent K} {F H : Hp} {own : Nat → Nodes} {d : D} {v : V} (h : Rep K F d v) : TmpOk Z F H own (.fz d) v [] :=
  ⟨.fz h, List.nodup_nil, fun _ h => (nomatch h), fun _ _ _ h => (nomatch h)⟩

theorem same_new {H : Hp} {p : Addr} {o : HO} (h : H p = none) : Same H (upd H p o) := fun b u e => by
  rw [upd_ne fun z => by rw [z, h] at e; cases e]; exact e
theorem SR.grow {Z : Ent K} {F H H' : Hp} {σ : St} {δ : DSt} {own : Nat → Nodes} (s : SR Z F H σ δ own) (h : Same H H') : SR Z F H' σ δ own :=
  ⟨s.le.trans h, s.fro, s.old.trans h, s.len, s.at', s.nod, fun i p hp => let ⟨a, b, c⟩ := s.ok i p hp; ⟨a, b, h _ _ c⟩, s.sep⟩
theorem SR.addF {Z : Ent K} {F H : Hp} {σ : St} {δ : DSt} {own : Nat → Nodes} {ns : Nodes} (s : SR Z F H σ δ own) (nd : (adr ns).Nodup) (hn : ∀ p ∈ ns, F p.1 = none) (hH : ∀ p ∈ ns, H p.1 = some p.2) (hz : ∀ p ∈ ns, Z.h p.1 = none)
    (hs : ∀ (i : Nat) (p q : Addr × HO), p ∈ ns → q ∈ own i → p.1 ≠ q.1) : SR Z (addL F ns) H σ δ own := by
  have sm := addL_same hn
  refine ⟨addL_le nd s.le hH, addL_fro (Z := (Z.h, Z.f)) nd s.fro hz, s.old, s.len, fun i sv e => ?_, s.nod, fun i p hp => ?_, s.sep⟩
  · obtain ⟨v, h1, h2⟩ := s.at' i sv e
    exact ⟨v, h1, h2.mono sm⟩
  · obtain ⟨a, b, c⟩ := s.ok i p hp
    refine ⟨?_, b, c⟩
    rw [addL_old fun hb => ?_]
    · exact a
    · obtain ⟨q, hq, e⟩ := List.mem_map.mp hb
      exact hs i q p hq hp e
theorem SR.settle {Z : Ent K} {F H : Hp} {σ : St} {δ : DSt} {own : Nat → Nodes} {sv : SV} {v : V} {ns : Nodes} (s : SR Z F H σ δ own) (t : TmpOk Z F H own sv v ns) :
    ∃ F1, Same F F1 ∧ SR Z F1 H σ δ own ∧ Rep K F1 sv.toD v :=
  ⟨addL F ns, addL_same fun p hp => (t.ok p hp).1, s.addF t.nd (fun p hp => (t.ok p hp).1) (fun p hp => (t.ok p hp).2.2) (fun p hp => (t.ok p hp).2.1) t.sep, t.sh.rep t.nd fun p hp => (t.ok p hp).1⟩

noncomputable def put (own : Nat → Nodes) (i : Nat) (ns : Nodes) : Nat → Nodes := fun j => if j = i then ns else own j
theorem put_same {own : Nat → Nodes} {i : Nat} {ns : Nodes} : put own i ns i = ns := if_pos rfl
theorem put_ne {own : Nat → Nodes} {i j : Nat} {ns : Nodes} (h : j ≠ i) : put own i ns j = own j := if_neg h
theorem SR.freeze {Z : Ent K} {F H : Hp} {σ : St} {δ : DSt} {own : Nat → Nodes} {i : Nat} {sv : SV} (s : SR Z F H σ δ own) (e : δ[i]? = some (some sv)) :
    ∃ F1 v, Same F F1 ∧ σ[i]? = some (some v) ∧ Rep K F1 sv.toD v ∧ SR Z F1 H σ (δ.set i (some (.fz sv.toD))) (put own i []) := by
  obtain ⟨v, h1, h2⟩ := s.at' i sv e
  have hn : ∀ p ∈ own i, F p.1 = none := fun p hp => (s.ok i p hp).1
  have sm := addL_same hn
  have hi : i < δ.length := (List.getElem?_eq_some_iff.mp e).1
  refine ⟨addL F (own i), v, sm, h1, h2.rep (s.nod i) hn, ⟨addL_le (s.nod i) s.le fun p hp => (s.ok i p hp).2.2, addL_fro (Z := (Z.h, Z.f)) (s.nod i) s.fro fun p hp => (s.ok i p hp).2.1, s.old, by rw [List.length_set]; exact s.len, fun j sw ej => ?_, fun j => ?_, fun j p hp => ?_, fun j k p q hjk hp hq => ?_⟩⟩
  · by_cases hj : j = i
    · subst hj
      rw [List.getElem?_set_self hi] at ej
      cases ej
      rw [put_same]
      exact ⟨v, h1, .fz (h2.rep (s.nod j) hn)⟩
    · rw [List.getElem?_set_ne (Ne.symm hj)] at ej
      obtain ⟨w, g1, g2⟩ := s.at' j sw ej
      rw [put_ne hj]
      exact ⟨w, g1, g2.mono sm⟩
  · by_cases hj : j = i
    · subst hj; rw [put_same]; exact List.nodup_nil
    · rw [put_ne hj]; exact s.nod j
  · by_cases hj : j = i
    · subst hj; rw [put_same] at hp; exact nomatch hp
    · rw [put_ne hj] at hp
      obtain ⟨a, b, c⟩ := s.ok j p hp
      refine ⟨?_, b, c⟩
      rw [addL_old fun hb => ?_]
      · exact a
      · obtain ⟨q, hq, z⟩ := List.mem_map.mp hb
        exact s.sep i j q p (Ne.symm hj) hq hp z
  · by_cases hj : j = i
    · subst hj; rw [put_same] at hp; exact nomatch hp
    · by_cases hk : k = i
      · subst hk; rw [put_same] at hq; exact nomatch hq
      · rw [put_ne hj] at hp
        rw [put_ne hk] at hq
        exact s.sep j k p q hjk hp hq
theorem SR.store {Z : Ent K} {F H : Hp} {σ : St} {δ : DSt} {own : Nat → Nodes} {i : Nat} {sv : SV} {v : V} {ns : Nodes} (s : SR Z F H σ δ own) (t : TmpOk Z F H own sv v ns) (hi : i < σ.length) :
    SR Z F H (σ.set i (some v)) (δ.set i (some sv)) (put own i ns) := by
  refine ⟨s.le, s.fro, s.old, by rw [List.length_set, List.length_set]; exact s.len, fun j sw ej => ?_, fun j => ?_, fun j p hp => ?_, fun j k p q hjk hp hq => ?_⟩
  · by_cases hj : j = i
    · subst hj
      have hd : j < δ.length := by
        have := (List.getElem?_eq_some_iff.mp ej).1
        simpa using this
      rw [List.getElem?_set_self hd] at ej
      cases ej
      rw [put_same, List.getElem?_set_self hi]
      exact ⟨v, rfl, t.sh⟩
    · rw [List.getElem?_set_ne (Ne.symm hj)] at ej
      rw [put_ne hj, List.getElem?_set_ne (Ne.symm hj)]
      exact s.at' j sw ej
  · by_cases hj : j = i
    · subst hj; rw [put_same]; exact t.nd
    · rw [put_ne hj]; exact s.nod j
  · by_cases hj : j = i
    · subst hj; rw [put_same] at hp; exact t.ok p hp
    · rw [put_ne hj] at hp; exact s.ok j p hp
  · by_cases hj : j = i
    · subst hj
      rw [put_same] at hp
      rw [put_ne (Ne.symm hjk)] at hq
      exact t.sep k p q hp hq
    · by_cases hk : k = i
      · subst hk
        rw [put_same] at hq
        rw [put_ne hj] at hp
        exact Ne.symm (t.sep j q p hq hp)
      · rw [put_ne hj] at hp
        rw [put_ne hk] at hq
        exact s.sep j k p q hjk hp hq
theorem SR.change {Z : Ent K} {F H : Hp} {σ : St} {δ : DSt} {own : Nat → Nodes} {i : Nat} {sv sv' : SV} {a : Addr} {o o' : HO} {v : V} {ns' : Nodes} (s : SR Z F H σ δ own) (e : δ[i]? = some (some sv)) (hv : σ[i]? = some (some v))
    (ha : (a, o) ∈ own i) (hs : Shape K F sv' v ns') (hns : ∀ p ∈ ns', p = (a, o') ∨ (p ∈ own i ∧ p.1 ≠ a)) (nd : (adr ns').Nodup) : SR Z F (upd H a o') σ (δ.set i (some sv')) (put own i ns') := by
  obtain ⟨fa, ha0, hHa⟩ := s.ok i (a, o) ha
  have hi : i < δ.length := (List.getElem?_eq_some_iff.mp e).1
  refine ⟨fun b u eb => ?_, s.fro, fun b u eb => ?_, by rw [List.length_set]; exact s.len, fun j sw ej => ?_, fun j => ?_, fun j p hp => ?_, fun j k p q hjk hp hq => ?_⟩
  · rw [upd_ne fun z => by rw [z] at eb; rw [fa] at eb; cases eb]; exact s.le b u eb
  · rw [upd_ne fun z => by rw [z] at eb; rw [ha0] at eb; cases eb]; exact s.old b u eb
  · by_cases hj : j = i
    · subst hj
      rw [List.getElem?_set_self hi] at ej
      cases ej
      rw [put_same]
      exact ⟨v, hv, hs⟩
    · rw [List.getElem?_set_ne (Ne.symm hj)] at ej
      rw [put_ne hj]
      exact s.at' j sw ej
  · by_cases hj : j = i
    · subst hj; rw [put_same]; exact nd
    · rw [put_ne hj]; exact s.nod j
  · by_cases hj : j = i
    · subst hj
      rw [put_same] at hp
      rcases hns p hp with z | ⟨z, ne⟩
      · subst z; exact ⟨fa, ha0, upd_same⟩
      · obtain ⟨x, y, w⟩ := s.ok j p z
        exact ⟨x, y, by rw [upd_ne ne]; exact w⟩
    · rw [put_ne hj] at hp
      obtain ⟨x, y, w⟩ := s.ok j p hp
      exact ⟨x, y, by rw [upd_ne (s.sep j i p (a, o) hj hp ha)]; exact w⟩
  · have own' : ∀ r ∈ ns', ∃ r' ∈ own i, r.1 = r'.1 := fun r hr => by
      rcases hns r hr with z | ⟨z, _⟩
      · subst z; exact ⟨(a, o), ha, rfl⟩
      · exact ⟨r, z, rfl⟩
    by_cases hj : j = i
    · subst hj
      rw [put_same] at hp
      rw [put_ne (Ne.symm hjk)] at hq
      obtain ⟨r', hr', er⟩ := own' p hp
      rw [er]
      exact s.sep j k r' q hjk hr' hq
    · by_cases hk : k = i
      · subst hk
        rw [put_same] at hq
        rw [put_ne hj] at hp
        obtain ⟨r', hr', er⟩ := own' q hq
        rw [er]
        exact s.sep j k p r' hjk hp hr'
      · rw [put_ne hj] at hp
        rw [put_ne hk] at hq
        exact s.sep j k p q hjk hp hq
end DL

namespace DL
open PySem L2
variable {K : PySem.W.Frag}

noncomputable abbrev FE := DSt → Option (RV × DSt)
noncomputable abbrev FT := DSt → Option (Bool × DSt)
noncomputable abbrev FA := DSt → Option (List RV × DSt)
noncomputable abbrev FD := DSt → Option (List D × DSt)
@[simp] noncomputable def SV.nested : SV → Bool
  | .oN _ _ => true
  | _ => false
@[simp] noncomputable def rdv : RV → DSt → Option D
  | .tmp sv, _ => some sv.toD
  | .bw i, δ => (δ[i]?.join).bind fun sv => if sv.nested then none else some sv.toD
@[simp] noncomputable def frz : RV → DSt → Option (D × DSt)
  | .tmp sv, δ => some (sv.toD, δ)
  | .bw i, δ => (δ[i]?.join).bind fun sv => some (sv.toD, δ.set i (some (.fz sv.toD)))
theorem join_some {δ : DSt} {i : Nat} {sv : SV} (h : δ[i]?.join = some sv) : δ[i]? = some (some sv) := by
  cases e : δ[i]? with
  | none => rw [e] at h; cases h
  | some o => rw [e] at h; cases o with
    | none => cases h
    | some s => cases h; rfl

noncomputable def liftE (Z : Ent K) (f : FE) : TE := fun σ H Q => ∃ F δ own rv δ', SR Z F H σ δ own ∧ f δ = some (rv, δ') ∧
  ∀ v H' F' own', Same H H' → Same F F' → SR Z F' H' σ δ' own' → RVRep Z F' H' σ own' rv v → Q v H'
noncomputable def liftT (Z : Ent K) (f : FT) : TT := fun σ H Q => ∃ F δ own b δ', SR Z F H σ δ own ∧ f δ = some (b, δ') ∧
  ∀ H' F' own', Same H H' → Same F F' → SR Z F' H' σ δ' own' → Q b H'
noncomputable def RVS (K : PySem.W.Frag) (F : Hp) (σ : St) : RV → V → Prop
  | .tmp sv, v => Rep K F sv.toD v
  | .bw i, v => σ[i]? = some (some v)
inductive RVSs (K : PySem.W.Frag) (F : Hp) (σ : St) : List RV → List V → Prop where
  | nil : RVSs K F σ [] []
  | cons {rv : RV} {v : V} {rvs : List RV} {vs : List V} (h : RVS K F σ rv v) (t : RVSs K F σ rvs vs) : RVSs K F σ (rv :: rvs) (v :: vs)
noncomputable def liftA (Z : Ent K) (f : FA) : TA := fun σ H Q => ∃ F δ own rvs δ', SR Z F H σ δ own ∧ f δ = some (rvs, δ') ∧
  ∀ vs H' F' own', Same H H' → Same F F' → SR Z F' H' σ δ' own' → RVSs K F' σ rvs vs → Q vs H'
noncomputable def liftD (Z : Ent K) (f : FD) : TA := fun σ H Q => ∃ F δ own ds δ', SR Z F H σ δ own ∧ f δ = some (ds, δ') ∧
  ∀ vs H' F' own', Same H H' → Same F F' → SR Z F' H' σ δ' own' → Reps K F' ds vs → Q vs H'

section
variable {Z : Ent K} {F H F' H' : Hp} {σ : St} {δ δ' : DSt} {own : Nat → Nodes} {rv : RV} {v : V} {d : D} {Q : VK}
theorem RVS.mono (s : Same F F') (h : RVS K F σ rv v) : RVS K F' σ rv v := by
  cases rv with
  | tmp sv => exact Rep.mono s h
  | bw i => exact h
theorem SR.settleR (s : SR Z F H σ δ own) (h : RVRep Z F H σ own rv v) : ∃ F1, Same F F1 ∧ SR Z F1 H σ δ own ∧ RVS K F1 σ rv v := by
  cases rv with
  | tmp sv => obtain ⟨ns, t⟩ := h; exact s.settle t
  | bw i => exact ⟨F, Same.refl F, s, h⟩
theorem SR.frzR (s : SR Z F H σ δ own) (h : RVS K F σ rv v) (e : frz rv δ = some (d, δ')) : ∃ F1 own1, Same F F1 ∧ SR Z F1 H σ δ' own1 ∧ Rep K F1 d v := by
  cases rv with
  | tmp sv => cases e; exact ⟨F, own, Same.refl F, s, h⟩
  | bw i =>
    obtain ⟨sv, e1, e2⟩ := Option.bind_eq_some_iff.mp e
    cases e2
    obtain ⟨F1, w, h1, h2, h3, h4⟩ := s.freeze (join_some e1)
    have h' : σ[i]? = some (some v) := h
    rw [h'] at h2; cases h2
    exact ⟨F1, _, h1, h4, h3⟩

noncomputable def RepN (K : PySem.W.Frag) (F H : Hp) (d : D) (v : V) : Prop := ∃ sv ns, sv.toD = d ∧ sv.nested = false ∧ Shape K F sv v ns ∧ ∀ p ∈ ns, H p.1 = some p.2
theorem RepN.of (h : Rep K F d v) : RepN K F H d v := ⟨.fz d, [], rfl, rfl, .fz h, fun _ h => nomatch h⟩
theorem SR.rd (s : SR Z F H σ δ own) (h : RVS K F σ rv v) (e : rdv rv δ = some d) : RepN K F H d v := by
  cases rv with
  | tmp sv => cases e; exact RepN.of h
  | bw i =>
    obtain ⟨sv, e1, e2⟩ := Option.bind_eq_some_iff.mp e
    cases hn : sv.nested with
    | true => rw [hn] at e2; cases e2
    | false =>
      rw [hn] at e2
      cases e2
      obtain ⟨w, h1, h2⟩ := s.at' i sv (join_some e1)
      have h' : σ[i]? = some (some v) := h
      rw [h'] at h1; cases h1
      exact ⟨sv, own i, rfl, hn, h2, fun p hp => (s.ok i p hp).2.2⟩
inductive RepNs (K : PySem.W.Frag) (F H : Hp) : List D → List V → Prop where
  | nil : RepNs K F H [] []
  | cons {d : D} {v : V} {ds : List D} {vs : List V} (h : RepN K F H d v) (t : RepNs K F H ds vs) : RepNs K F H (d :: ds) (v :: vs)
theorem RepN.non (h : RepN K F H .non v) : v = .non := by
  obtain ⟨sv, ns, e, n, sh, hp⟩ := h
  cases sh with
  | fz r => cases e; cases r; rfl
  | ol r => cases e
  | oK e' r => cases e
  | oT kb e' r => cases e
  | oN e' r => cases n
theorem RepN.bl {b : Bool} (h : RepN K F H (.bl b) v) : v = .bl b := by
  obtain ⟨sv, ns, e, n, sh, hp⟩ := h
  cases sh with
  | fz r => cases e; cases r; rfl
  | ol r => cases e
  | oK e' r => cases e
  | oT kb e' r => cases e
  | oN e' r => cases n
theorem RepN.int {i : Int} (h : RepN K F H (.int i) v) : v = .int i := by
  obtain ⟨sv, ns, e, n, sh, hp⟩ := h
  cases sh with
  | fz r => cases e; cases r; rfl
  | ol r => cases e
  | oK e' r => cases e
  | oT kb e' r => cases e
  | oN e' r => cases n
theorem RepN.str {x : Str} (h : RepN K F H (.str x) v) : v = .str x := by
  obtain ⟨sv, ns, e, n, sh, hp⟩ := h
  cases sh with
  | fz r => cases e; cases r; rfl
  | ol r => cases e
  | oK e' r => cases e
  | oT kb e' r => cases e
  | oN e' r => cases n
theorem RepN.tup {xs : List D} (le : Same F H) (h : RepN K F H (.tup xs) v) : ∃ a vs, v = .ref a ∧ SqT K H a vs ∧ Reps K F xs vs := by
  obtain ⟨sv, ns, e, n, sh, hp⟩ := h
  cases sh with
  | fz r => cases e; cases r with | tup h r => exact ⟨_, _, rfl, sqT_mono le (tupSq h), r⟩
  | ol r => cases e
  | oK e' r => cases e
  | oT kb e' r => cases e
  | oN e' r => cases n
theorem RepN.lst {xs : List D} (le : Same F H) (h : RepN K F H (.lst xs) v) : ∃ a vs, v = .ref a ∧ SqL K H a vs ∧ Reps K F xs vs := by
  obtain ⟨sv, ns, e, n, sh, hp⟩ := h
  cases sh with
  | fz r => cases e; cases r with | lst h r => exact ⟨_, _, rfl, sqL_mono le h, r⟩
  | ol r => cases e; exact ⟨_, _, rfl, .inl (.inl (hp _ List.mem_cons_self)), r⟩
  | oK e' r => cases e
  | oT kb e' r => cases e
  | oN e' r => cases n
theorem RepN.dK {ks : List Key} {ds : List D} (le : Same F H) (h : RepN K F H (.dK ks ds) v) : ∃ a kvs, v = .ref a ∧ HK H a kvs ∧ kvs.map (·.1) = ks ∧ Reps K F ds (kvs.map (·.2)) := by
  obtain ⟨sv, ns, e, n, sh, hp⟩ := h
  cases sh with
  | fz r => cases e; cases r with | dK h e r => exact ⟨_, _, rfl, ⟨_, le _ _ h⟩, e, r⟩
  | ol r => cases e
  | oK e' r => cases e; exact ⟨_, _, rfl, ⟨_, hp _ List.mem_cons_self⟩, e', r⟩
  | oT kb e' r => cases e
  | oN e' r => cases n
theorem RepN.dT {ks : List (List Key)} {ds : List D} (le : Same F H) (h : RepN K F H (.dT ks ds) v) : ∃ a kvs, v = .ref a ∧ HTt H a kvs ∧ kvs.map (·.1) = ks ∧ Reps K F ds (kvs.map (·.2)) := by
  obtain ⟨sv, ns, e, n, sh, hp⟩ := h
  cases sh with
  | fz r => cases e; cases r with | dT h kb e r => exact ⟨_, _, rfl, ⟨_, _, le _ _ h⟩, e, r⟩
  | ol r => cases e
  | oK e' r => cases e
  | oT kb e' r => cases e; exact ⟨_, _, rfl, ⟨_, _, hp _ List.mem_cons_self⟩, e', r⟩
  | oN e' r => cases n
end

theorem nd1 {a : Addr} : ([a] : List Addr).Nodup := List.nodup_cons.mpr ⟨fun h => (nomatch h), List.nodup_nil⟩
noncomputable def Fin (Z : Ent K) (F H : Hp) (σ : St) (δ : DSt) (own : Nat → Nodes) (sv : SV) (Q : VK) : Prop :=
  ∀ v H' F' ns, Same H H' → Same F F' → SR Z F' H' σ δ own → TmpOk Z F' H' own sv v ns → Q v H'
section
variable {Z : Ent K} {F H : Hp} {σ : St} {δ : DSt} {own : Nat → Nodes} {Q : VK}
theorem Fin.fz {d : D} {v : V} (f : Fin Z F H σ δ own (.fz d) Q) (s : SR Z F H σ δ own) (h : Rep K F d v) : Q v H := f v H F [] (Same.refl H) (Same.refl F) s (.fz h)
theorem Fin.one {sv : SV} {o : HO} {p : Addr} (f : Fin Z F H σ δ own sv Q) (s : SR Z F H σ δ own) (sh : Shape K F sv (.ref p) [(p, o)]) (hp : H p = none) : Q (.ref p) (upd H p o) := by
  have sm := same_new (o := o) hp
  refine f (.ref p) (upd H p o) F [(p, o)] sm (Same.refl F) (s.grow sm) ⟨sh, nd1, fun q hq => ?_, fun i q r hq hr => ?_⟩
  · obtain rfl := List.mem_singleton.mp hq
    exact ⟨s.le.free hp, s.old.free hp, upd_same⟩
  · obtain rfl := List.mem_singleton.mp hq
    intro e
    have e' : p = r.1 := e
    have z := (s.ok i r hr).2.2
    rw [← e', hp] at z; cases z
theorem Fin.lst {xs : List D} {vs : List V} {p : Addr} (f : Fin Z F H σ δ own (.ol xs) Q) (s : SR Z F H σ δ own) (r : Reps K F xs vs) (hp : H p = none) : Q (.ref p) (upd H p (.lst vs)) := f.one s (.ol r) hp
theorem Fin.tup {xs : List D} {vs : List V} {p : Addr} (f : Fin Z F H σ δ own (.fz (.tup xs)) Q) (s : SR Z F H σ δ own) (r : Reps K F xs vs) (hp : H p = none) : Q (.ref p) (upd H p (.tup vs)) := by
  have sm := same_new (o := .tup vs) hp
  have sF : Same F (addL F [(p, .tup vs)]) := addL_same fun q hq => by obtain rfl := List.mem_singleton.mp hq; exact s.le.free hp
  refine f (.ref p) (upd H p (.tup vs)) (addL F [(p, .tup vs)]) [] sm sF ?_ (.fz (.tup upd_same (r.mono sF)))
  refine (s.grow sm).addF (nd1) (fun q hq => ?_) (fun q hq => ?_) (fun q hq => ?_) fun i q u hq hu => ?_
  · obtain rfl := List.mem_singleton.mp hq; exact s.le.free hp
  · obtain rfl := List.mem_singleton.mp hq; exact upd_same
  · obtain rfl := List.mem_singleton.mp hq; exact s.old.free hp
  · obtain rfl := List.mem_singleton.mp hq
    intro e
    have e' : p = u.1 := e
    have z := (s.ok i u hu).2.2
    rw [← e', hp] at z; cases z
end

theorem shape_fz {F : Hp} {d : D} {v : V} {ns : Nodes} (h : Shape K F (.fz d) v ns) : Rep K F d v := by
  cases h with
  | fz r => exact r
/-! ### expressions -/
section
variable {Z : Ent K} {H : Hp} {σ : St} {Q : VK}
@[simp] noncomputable def nameF (i : Nat) : FE := fun δ => match δ[i]? with
  | some (some (.fz d)) => some (.tmp (.fz d), δ)
  | some (some _) => some (.bw i, δ)
  | _ => none
theorem l_var {i : Nat} (h : liftE Z (nameF i) σ H Q) : tVar i σ H Q := by
  obtain ⟨F, δ, own, rv, δ', s, e, k⟩ := h
  unfold nameF at e
  split at e
  · rename_i d hd
    cases e
    obtain ⟨v, h1, h2⟩ := s.at' i _ hd
    exact ⟨v, h1, k v H F own (Same.refl H) (Same.refl F) s ⟨[], .fz (shape_fz h2)⟩⟩
  · rename_i sv hsv hd
    cases e
    obtain ⟨v, h1, h2⟩ := s.at' i _ hd
    exact ⟨v, h1, k v H F own (Same.refl H) (Same.refl F) s h1⟩
  · cases e
@[simp] noncomputable def constF (d : D) : FE := fun δ => some (.tmp (.fz d), δ)
theorem l_const {d : D} {v : V} (hr : ∀ F, Rep K F d v) (h : liftE Z (constF d) σ H Q) : tC v σ H Q := by
  obtain ⟨F, δ, own, rv, δ', s, e, k⟩ := h
  cases e
  exact k v H F own (Same.refl H) (Same.refl F) s ⟨[], .fz (hr F)⟩

/-! arguments, from the left -/
@[simp] noncomputable def argNil : FA := fun δ => some ([], δ)
@[simp] noncomputable def argCons (fe : FE) (fa : FA) : FA := fun δ => (fe δ).bind fun p => (fa p.2).bind fun q => some (p.1 :: q.1, q.2)
theorem l_argNil {R : List V → Hp → Prop} (h : liftA Z argNil σ H R) : tNil σ H R := by
  obtain ⟨F, δ, own, rvs, δ', s, e, k⟩ := h
  cases e
  exact k [] H F own (Same.refl H) (Same.refl F) s .nil
theorem l_argCons {fe : FE} {fa : FA} {R : List V → Hp → Prop} (h : liftA Z (argCons fe fa) σ H R) : tCons (liftE Z fe) (liftA Z fa) σ H R := by
  obtain ⟨F, δ, own, rvs, δ', s, e, k⟩ := h
  obtain ⟨⟨rv, δ1⟩, e1, e2⟩ := Option.bind_eq_some_iff.mp e
  obtain ⟨⟨rr, δ2⟩, e3, e4⟩ := Option.bind_eq_some_iff.mp e2
  cases e4
  refine ⟨F, δ, own, rv, δ1, s, e1, fun v H1 F1 own1 sH sF s1 r1 => ?_⟩
  obtain ⟨F2, sF2, s2, r2⟩ := s1.settleR r1
  exact ⟨F2, δ1, own1, rr, δ2, s2, e3, fun vs H3 F3 own3 sH3 sF3 s3 r3 => k _ H3 F3 own3 (sH.trans sH3) (sF.trans (sF2.trans sF3)) s3 (.cons (r2.mono sF3) r3)⟩
@[simp] noncomputable def readAll : List RV → DSt → Option (List D)
  | [], _ => some []
  | rv :: r, δ => (rdv rv δ).bind fun d => (readAll r δ).bind fun ds => some (d :: ds)
theorem SR.rdAll {F : Hp} {δ : DSt} {own : Nat → Nodes} (s : SR Z F H σ δ own) : ∀ {rvs : List RV} {vs : List V} {ds : List D}, RVSs K F σ rvs vs → readAll rvs δ = some ds → RepNs K F H ds vs
  | _, _, _, .nil, e => by cases e; exact .nil
  | _, _, _, .cons h t, e => by
    obtain ⟨d, e1, e2⟩ := Option.bind_eq_some_iff.mp e
    obtain ⟨ds, e3, e4⟩ := Option.bind_eq_some_iff.mp e2
    cases e4
    exact .cons (s.rd h e1) (s.rdAll t e3)
@[simp] noncomputable def primF (g : List D → Option SV) (fa : FA) : FE := fun δ => (fa δ).bind fun p => (readAll p.1 p.2).bind fun ds => (g ds).bind fun sv => some (.tmp sv, p.2)
noncomputable def PrimN (Z : Ent K) (r : List V → Hp → VK → Prop) (g : List D → Option SV) : Prop :=
  ∀ (F H : Hp) (σ : St) (δ : DSt) (own : Nat → Nodes) (vs : List V) (ds : List D) (sv : SV) (Q : VK), SR Z F H σ δ own → RepNs K F H ds vs → g ds = some sv → Fin Z F H σ δ own sv Q → r vs H Q
theorem l_prim {r : List V → Hp → VK → Prop} {g : List D → Option SV} {fa : FA} (hg : PrimN Z r g) (h : liftE Z (primF g fa) σ H Q) : tCB r (liftA Z fa) σ H Q := by
  obtain ⟨F, δ, own, rv, δ', s, e, k⟩ := h
  obtain ⟨⟨rvs, δ1⟩, e1, e2⟩ := Option.bind_eq_some_iff.mp e
  obtain ⟨ds, e3, e4⟩ := Option.bind_eq_some_iff.mp e2
  obtain ⟨sv, e5, e6⟩ := Option.bind_eq_some_iff.mp e4
  cases e6
  refine ⟨F, δ, own, rvs, δ1, s, e1, fun vs H1 F1 own1 sH sF s1 r1 => ?_⟩
  exact hg F1 H1 σ δ1 own1 vs ds sv Q s1 (s1.rdAll r1 e3) e5 fun v H2 F2 ns sH2 sF2 s2 t => k v H2 F2 own1 (sH.trans sH2) (sF.trans sF2) s2 ⟨ns, t⟩
@[simp] noncomputable def g2 (g : D → D → Option SV) : List D → Option SV
  | [x, y] => g x y
  | _ => none
@[simp] noncomputable def binF (g : D → D → Option SV) (fa fb : FE) : FE := primF (g2 g) (argCons fa (argCons fb argNil))
noncomputable def Prim2 (Z : Ent K) (r : R2) (g : D → D → Option SV) : Prop :=
  ∀ (F H : Hp) (σ : St) (δ : DSt) (own : Nat → Nodes) (x y : V) (d1 d2 : D) (sv : SV) (Q : VK), SR Z F H σ δ own → RepN K F H d1 x → RepN K F H d2 y → g d1 d2 = some sv → Fin Z F H σ δ own sv Q → r x y H Q
theorem l_bin {r : R2} {g : D → D → Option SV} {fa fb : FE} (hg : Prim2 Z r g) (h : liftE Z (binF g fa fb) σ H Q) : tOp r (liftE Z fa) (liftE Z fb) σ H Q := by
  have hN : PrimN Z (fun vs H Q => ∃ x y, vs = [x, y] ∧ r x y H Q) (g2 g) := by
    intro F H σ δ own vs ds sv Q s rs e f
    cases rs with
    | nil => cases e
    | cons h1 t1 =>
      cases t1 with
      | nil => cases e
      | cons h2 t2 =>
        cases t2 with
        | nil => exact ⟨_, _, rfl, hg F H σ δ own _ _ _ _ sv Q s h1 h2 e f⟩
        | cons h3 t3 => cases e
  obtain ⟨F, δ, own, rv, δ', s, e, k⟩ := l_prim hN h
  obtain ⟨⟨rv1, δ1⟩, e1, e2⟩ := Option.bind_eq_some_iff.mp e
  obtain ⟨⟨rr, δ2⟩, e3, e4⟩ := Option.bind_eq_some_iff.mp e2
  cases e4
  obtain ⟨⟨rv2, δ3⟩, e5, e6⟩ := Option.bind_eq_some_iff.mp e3
  obtain ⟨⟨rr', δ4⟩, e7, e8⟩ := Option.bind_eq_some_iff.mp e6
  cases e8
  cases e7
  refine ⟨F, δ, own, rv1, δ1, s, e1, fun v H1 F1 own1 sH sF s1 r1 => ?_⟩
  obtain ⟨F2, sF2, s2, r2⟩ := s1.settleR r1
  refine ⟨F2, δ1, own1, rv2, δ3, s2, e5, fun u H3 F3 own3 sH3 sF3 s3 r3 => ?_⟩
  obtain ⟨F4, sF4, s4, r4⟩ := s3.settleR r3
  obtain ⟨x, y, exy, q⟩ := k [v, u] H3 F4 own3 (sH.trans sH3) (sF.trans (sF2.trans (sF3.trans sF4))) s4 (.cons (r2.mono (sF3.trans sF4)) (.cons r4 .nil))
  injection exy with ex ey
  injection ey with ey _
  subst ex ey
  exact q
@[simp] noncomputable def unF (g : D → Option SV) (fa : FE) : FE := primF (fun | [x] => g x | _ => none) (argCons fa argNil)
noncomputable def Prim1 (Z : Ent K) (r : V → Hp → VK → Prop) (g : D → Option SV) : Prop :=
  ∀ (F H : Hp) (σ : St) (δ : DSt) (own : Nat → Nodes) (x : V) (d : D) (sv : SV) (Q : VK), SR Z F H σ δ own → RepN K F H d x → g d = some sv → Fin Z F H σ δ own sv Q → r x H Q
theorem l_un {r : V → Hp → VK → Prop} {g : D → Option SV} {fa : FE} (hg : Prim1 Z r g) (h : liftE Z (unF g fa) σ H Q) : tUn r (liftE Z fa) σ H Q := by
  obtain ⟨F, δ, own, rv, δ', s, e, k⟩ := h
  obtain ⟨⟨rvs, δ1⟩, e1, e2⟩ := Option.bind_eq_some_iff.mp e
  obtain ⟨ds, e3, e4⟩ := Option.bind_eq_some_iff.mp e2
  obtain ⟨sv, e5, e6⟩ := Option.bind_eq_some_iff.mp e4
  cases e6
  obtain ⟨⟨rv1, δ2⟩, e7, e8⟩ := Option.bind_eq_some_iff.mp e1
  obtain ⟨⟨rr', δ4⟩, e9, e10⟩ := Option.bind_eq_some_iff.mp e8
  cases e10
  cases e9
  obtain ⟨d, e11, e12⟩ := Option.bind_eq_some_iff.mp e3
  cases e12
  refine ⟨F, δ, own, rv1, δ2, s, e7, fun v H1 F1 own1 sH sF s1 r1 => ?_⟩
  obtain ⟨F2, sF2, s2, r2⟩ := s1.settleR r1
  exact hg F2 H1 σ δ2 own1 v d sv Q s2 (s2.rd r2 e11) e5 fun v H2 F2' ns sH2 sF2' s2 t => k v H2 F2' own1 (sH.trans sH2) (sF.trans (sF2.trans sF2')) s2 ⟨ns, t⟩
/-! displays: every item is frozen -/
@[simp] noncomputable def dispNil : FD := fun δ => some ([], δ)
@[simp] noncomputable def dispCons (fe : FE) (fd : FD) : FD := fun δ => (fe δ).bind fun p => (frz p.1 p.2).bind fun q => (fd q.2).bind fun r => some (q.1 :: r.1, r.2)
theorem l_dispNil {R : List V → Hp → Prop} (h : liftD Z dispNil σ H R) : tNil σ H R := by
  obtain ⟨F, δ, own, rvs, δ', s, e, k⟩ := h
  cases e
  exact k [] H F own (Same.refl H) (Same.refl F) s .nil
theorem l_dispCons {fe : FE} {fd : FD} {R : List V → Hp → Prop} (h : liftD Z (dispCons fe fd) σ H R) : tCons (liftE Z fe) (liftD Z fd) σ H R := by
  obtain ⟨F, δ, own, rvs, δ', s, e, k⟩ := h
  obtain ⟨⟨rv, δ1⟩, e1, e2⟩ := Option.bind_eq_some_iff.mp e
  obtain ⟨⟨d, δ2⟩, e3, e4⟩ := Option.bind_eq_some_iff.mp e2
  obtain ⟨⟨ds, δ3⟩, e5, e6⟩ := Option.bind_eq_some_iff.mp e4
  cases e6
  refine ⟨F, δ, own, rv, δ1, s, e1, fun v H1 F1 own1 sH sF s1 r1 => ?_⟩
  obtain ⟨F2, sF2, s2, r2⟩ := s1.settleR r1
  obtain ⟨F3, own3, sF3, s3, r3⟩ := s2.frzR r2 e3
  exact ⟨F3, δ2, own3, ds, δ3, s3, e5, fun vs H4 F4 own4 sH4 sF4 s4 r4 => k _ H4 F4 own4 (sH.trans sH4) (sF.trans (sF2.trans (sF3.trans sF4))) s4 (.cons (r3.mono sF4) r4)⟩
@[simp] noncomputable def tupF (fd : FD) : FE := fun δ => (fd δ).bind fun p => if p.1.length ≤ PySem.sizeLine then some (.tmp (.fz (.tup p.1)), p.2) else none
@[simp] noncomputable def lstF (fd : FD) : FE := fun δ => (fd δ).bind fun p => if p.1.length ≤ PySem.sizeLine then some (.tmp (.ol p.1), p.2) else none
theorem l_tup {fd : FD} (h : liftE Z (tupF fd) σ H Q) : tTup (liftD Z fd) σ H Q := by
  obtain ⟨F, δ, own, rv, δ', s, e, k⟩ := h
  obtain ⟨⟨ds, δ1⟩, e1, e2⟩ := Option.bind_eq_some_iff.mp e
  by_cases hz : ds.length ≤ PySem.sizeLine
  · rw [if_pos hz] at e2
    cases e2
    refine ⟨F, δ, own, ds, δ1, s, e1, fun vs H1 F1 own1 sH sF s1 r1 => ⟨by rw [← r1.length]; exact hz, fun p hp => ?_⟩⟩
    exact Fin.tup (fun v H2 F2 ns a b c t => k v H2 F2 own1 (sH.trans a) (sF.trans b) c ⟨ns, t⟩) s1 r1 hp
  · rw [if_neg hz] at e2; cases e2
theorem l_lst {fd : FD} (h : liftE Z (lstF fd) σ H Q) : tLst (liftD Z fd) σ H Q := by
  obtain ⟨F, δ, own, rv, δ', s, e, k⟩ := h
  obtain ⟨⟨ds, δ1⟩, e1, e2⟩ := Option.bind_eq_some_iff.mp e
  by_cases hz : ds.length ≤ PySem.sizeLine
  · rw [if_pos hz] at e2
    cases e2
    refine ⟨F, δ, own, ds, δ1, s, e1, fun vs H1 F1 own1 sH sF s1 r1 => ⟨by rw [← r1.length]; exact hz, fun p hp => ?_⟩⟩
    exact Fin.lst (fun v H2 F2 ns a b c t => k v H2 F2 own1 (sH.trans a) (sF.trans b) c ⟨ns, t⟩) s1 r1 hp
  · rw [if_neg hz] at e2; cases e2
end

/-! ### a def's contract -/
@[simp] noncomputable def SV.scal : SV → Bool
  | .fz .non => true
  | .fz (.bl _) => true
  | .fz (.int _) => true
  | .fz (.str _) => true
  | _ => false
noncomputable def spOf (K : PySem.W.Frag) (n : Nat) (g : List D → Option SV) : Sp := fun vs H Q _ => ∃ F ds sv, Same F H ∧ Reps K F ds vs ∧ ds.length = n ∧ g ds = some sv ∧
  ∀ v H' F' ns, Same H H' → Same F F' → Same F' H' → (∀ (b : Addr) (o : HO), F' b = some o → F b = some o ∨ H b = none) → Shape K F' sv v ns → (adr ns).Nodup → (∀ p ∈ ns, F' p.1 = none ∧ H p.1 = none ∧ H' p.1 = some p.2) → Q v H'
@[simp] noncomputable def frzAll : List RV → DSt → Option (List D × DSt)
  | [], δ => some ([], δ)
  | rv :: r, δ => (frz rv δ).bind fun p => (frzAll r p.2).bind fun q => some (p.1 :: q.1, q.2)
theorem RVSs.mono {F F' : Hp} {σ : St} (s : Same F F') : ∀ {rvs : List RV} {vs : List V}, RVSs K F σ rvs vs → RVSs K F' σ rvs vs
  | _, _, .nil => .nil
  | _, _, .cons h t => .cons (h.mono s) (t.mono s)
section
variable {Z : Ent K} {H : Hp} {σ : St} {Q : VK}
theorem SR.frzAll {F : Hp} {δ : DSt} {own : Nat → Nodes} : ∀ {rvs : List RV} {vs : List V} {ds : List D} {δ' : DSt} {F : Hp} {δ : DSt} {own : Nat → Nodes}, SR Z F H σ δ own → RVSs K F σ rvs vs → DL.frzAll rvs δ = some (ds, δ') →
    ∃ F1 own1, Same F F1 ∧ SR Z F1 H σ δ' own1 ∧ Reps K F1 ds vs
  | _, _, _, _, F, _, own, s, .nil, e => by cases e; exact ⟨F, own, Same.refl F, s, .nil⟩
  | _, _, _, _, F, _, own, s, .cons h t, e => by
    obtain ⟨⟨d, δ1⟩, e1, e2⟩ := Option.bind_eq_some_iff.mp e
    obtain ⟨⟨ds, δ2⟩, e3, e4⟩ := Option.bind_eq_some_iff.mp e2
    cases e4
    obtain ⟨F1, own1, sF1, s1, r1⟩ := s.frzR h e1
    obtain ⟨F2, own2, sF2, s2, r2⟩ := SR.frzAll (own := own) (F := F) (δ := δ1) s1 (t.mono sF1) e3
    exact ⟨F2, own2, sF1.trans sF2, s2, .cons (r1.mono sF2) r2⟩
@[simp] noncomputable def callF (n : Nat) (g : List D → Option SV) (fa : FA) : FE := fun δ => (fa δ).bind fun p => (DL.frzAll p.1 p.2).bind fun q => if q.1.length = n then (g q.1).bind fun sv => some (.tmp sv, if sv.scal then p.2 else q.2) else none
theorem scal_rep {F F' : Hp} {sv : SV} {v : V} {ns : Nodes} (h : sv.scal = true) (sh : Shape K F sv v ns) : ns = [] ∧ Shape K F' sv v [] := by
  cases sh with
  | fz r => 
    refine ⟨rfl, .fz ?_⟩
    cases r with
    | non => exact .non
    | bl b => exact .bl b
    | int i => exact .int i
    | str x => exact .str x
    | tup _ _ => cases h
    | lst _ _ => cases h
    | dK _ _ _ => cases h
    | dT _ _ _ _ => cases h
    | exc _ _ => cases h
    | exd _ _ _ _ _ => cases h
  | ol _ => cases h
  | oK _ _ => cases h
  | oT _ _ _ => cases h
  | oN _ _ => cases h
theorem l_call {n : Nat} {g : List D → Option SV} {fa : FA} {E : XK} (h : liftE Z (callF n g fa) σ H Q) : tCall (spOf K n g) [] E (liftA Z fa) σ H Q := by
  obtain ⟨F, δ, own, rv, δ', s, e, k⟩ := h
  obtain ⟨⟨rvs, δ1⟩, e1, e2⟩ := Option.bind_eq_some_iff.mp e
  obtain ⟨⟨ds, δ2⟩, e3, e4⟩ := Option.bind_eq_some_iff.mp e2
  by_cases hn : ds.length = n
  · rw [if_pos hn] at e4
    obtain ⟨sv, e5, e6⟩ := Option.bind_eq_some_iff.mp e4
    refine ⟨F, δ, own, rvs, δ1, s, e1, fun vs H1 F1 own1 sH sF s1 r1 => ?_⟩
    obtain ⟨F2, own2, sF2, s2, r2⟩ := s1.frzAll (own := own) (F := F) (δ := δ) r1 e3
    rw [List.append_nil]
    refine ⟨F2, ds, sv, s2.le, r2, hn, e5, fun v H3 F3 ns sH3 sF3 le3 fro3 sh nd ok => ?_⟩
    by_cases hs : sv.scal = true
    · rw [if_pos hs] at e6
      cases e6
      obtain ⟨_, sh'⟩ := scal_rep (F' := F1) hs sh
      exact k v H3 F1 own1 (sH.trans sH3) sF (s1.grow sH3) ⟨[], sh', List.nodup_nil, fun _ h => (nomatch h), fun _ _ _ h => (nomatch h)⟩
    · rw [if_neg hs] at e6
      cases e6
      have s3 : SR Z F3 H3 σ δ2 own2 := by
        refine ⟨le3, fun b o e => ?_, s2.old.trans sH3, s2.len, fun i sw ei => ?_, s2.nod, fun i p hp => ?_, s2.sep⟩
        · rcases fro3 b o e with z | z
          · exact s2.fro b o z
          · exact .inr (s2.old.free z)
        · obtain ⟨w, h1, h2⟩ := s2.at' i sw ei
          exact ⟨w, h1, h2.mono sF3⟩
        · obtain ⟨a, b, c⟩ := s2.ok i p hp
          refine ⟨?_, b, sH3 _ _ c⟩
          cases z : F3 p.1 with
          | none => rfl
          | some u =>
            rcases fro3 _ u z with y | y
            · rw [a] at y; cases y
            · rw [c] at y; cases y
      exact k v H3 F3 own2 (sH.trans sH3) (sF.trans (sF2.trans sF3)) s3 ⟨ns, sh, nd, fun p hp => ⟨(ok p hp).1, (s2.old).free (ok p hp).2.1, (ok p hp).2.2⟩, fun i p q hp hq e => by
        have z := (s2.ok i q hq).2.2
        rw [← e, (ok p hp).2.1] at z; cases z⟩
  · rw [if_neg hn] at e4; cases e4
end
end DL

namespace DL
open PySem L2
variable {K : PySem.W.Frag}

/-! ### tests -/
section
variable {Z : Ent K} {H : Hp} {σ : St} {R : Bool → Hp → Prop} {Q : VK}
@[simp] noncomputable def testF (fe : FE) : FT := fun δ => (fe δ).bind fun p => match p.1 with
  | .tmp (.fz (.bl b)) => some (b, p.2)
  | _ => none
theorem l_test {fe : FE} (h : liftT Z (testF fe) σ H R) : tTest (liftE Z fe) σ H R := by
  obtain ⟨F, δ, own, b, δ', s, e, k⟩ := h
  obtain ⟨⟨rv, δ1⟩, e1, e2⟩ := Option.bind_eq_some_iff.mp e
  refine ⟨F, δ, own, rv, δ1, s, e1, fun v H1 F1 own1 sH sF s1 r1 => ?_⟩
  dsimp only at e2
  split at e2
  · cases e2
    obtain ⟨ns, t⟩ := r1
    cases shape_fz t.sh
    exact ⟨_, rfl, k H1 F1 own1 sH sF s1⟩
  · cases e2
theorem l_testB {fe : FE} (h : liftT Z (testF fe) σ H R) : tB (liftE Z fe) σ H R := l_test h
@[simp] noncomputable def andF (f g : FT) : FT := fun δ => (f δ).bind fun p => if p.1 = true then g p.2 else some (false, p.2)
@[simp] noncomputable def orF (f g : FT) : FT := fun δ => (f δ).bind fun p => if p.1 = true then some (true, p.2) else g p.2
@[simp] noncomputable def notF (f : FT) : FT := fun δ => (f δ).bind fun p => some (!p.1, p.2)
theorem l_and {f g : FT} (h : liftT Z (andF f g) σ H R) : tAnd (liftT Z f) (liftT Z g) σ H R := by
  obtain ⟨F, δ, own, b, δ', s, e, k⟩ := h
  obtain ⟨⟨c, δ1⟩, e1, e2⟩ := Option.bind_eq_some_iff.mp e
  refine ⟨F, δ, own, c, δ1, s, e1, fun H1 F1 own1 sH sF s1 => ?_⟩
  cases c with
  | true =>
    rw [if_pos rfl] at e2 ⊢
    exact ⟨F1, δ1, own1, b, δ', s1, e2, fun H2 F2 own2 a c d => k H2 F2 own2 (sH.trans a) (sF.trans c) d⟩
  | false =>
    rw [if_neg Bool.false_ne_true] at e2 ⊢
    cases e2
    exact k H1 F1 own1 sH sF s1
theorem l_or {f g : FT} (h : liftT Z (orF f g) σ H R) : tOr (liftT Z f) (liftT Z g) σ H R := by
  obtain ⟨F, δ, own, b, δ', s, e, k⟩ := h
  obtain ⟨⟨c, δ1⟩, e1, e2⟩ := Option.bind_eq_some_iff.mp e
  refine ⟨F, δ, own, c, δ1, s, e1, fun H1 F1 own1 sH sF s1 => ?_⟩
  cases c with
  | true =>
    rw [if_pos rfl] at e2 ⊢
    cases e2
    exact k H1 F1 own1 sH sF s1
  | false =>
    rw [if_neg Bool.false_ne_true] at e2 ⊢
    exact ⟨F1, δ1, own1, b, δ', s1, e2, fun H2 F2 own2 a c d => k H2 F2 own2 (sH.trans a) (sF.trans c) d⟩
theorem l_not {f : FT} (h : liftT Z (notF f) σ H R) : tNot (liftT Z f) σ H R := by
  obtain ⟨F, δ, own, b, δ', s, e, k⟩ := h
  obtain ⟨⟨c, δ1⟩, e1, e2⟩ := Option.bind_eq_some_iff.mp e
  cases e2
  exact ⟨F, δ, own, c, δ1, s, e1, k⟩
@[simp] noncomputable def andV (f g : FE) : FE := fun δ => (testF f δ).bind fun p => if p.1 = true then g p.2 else some (.tmp (.fz (.bl false)), p.2)
@[simp] noncomputable def notV (f : FE) : FE := fun δ => (testF f δ).bind fun p => some (.tmp (.fz (.bl (!p.1))), p.2)
theorem fin_b {F : Hp} {own : Nat → Nodes} {b : Bool} : RVRep Z F H σ own (.tmp (.fz (.bl b))) (.bl b) := ⟨[], .fz (.bl b)⟩
theorem l_andV {f g : FE} (h : liftE Z (andV f g) σ H Q) : tAndV (liftE Z f) (liftE Z g) σ H Q := by
  obtain ⟨F, δ, own, rv, δ', s, e, k⟩ := h
  obtain ⟨⟨c, δ1⟩, e1, e2⟩ := Option.bind_eq_some_iff.mp e
  refine l_test ⟨F, δ, own, c, δ1, s, e1, fun H1 F1 own1 sH sF s1 => ?_⟩
  cases c with
  | true =>
    rw [if_pos rfl] at e2 ⊢
    exact ⟨F1, δ1, own1, rv, δ', s1, e2, fun v H2 F2 own2 a c d => k v H2 F2 own2 (sH.trans a) (sF.trans c) d⟩
  | false =>
    rw [if_neg Bool.false_ne_true] at e2 ⊢
    cases e2
    exact k _ H1 F1 own1 sH sF s1 fin_b
theorem l_notV {f : FE} (h : liftE Z (notV f) σ H Q) : tNotV (liftE Z f) σ H Q := by
  obtain ⟨F, δ, own, rv, δ', s, e, k⟩ := h
  obtain ⟨⟨c, δ1⟩, e1, e2⟩ := Option.bind_eq_some_iff.mp e
  cases e2
  exact l_test ⟨F, δ, own, c, δ1, s, e1, fun H1 F1 own1 sH sF s1 => k _ H1 F1 own1 sH sF s1 fin_b⟩
@[simp] noncomputable def ifF (t : FT) (f g : FE) : FE := fun δ => (t δ).bind fun p => if p.1 = true then f p.2 else g p.2
theorem l_if {t : FT} {f g : FE} (h : liftE Z (ifF t f g) σ H Q) : tIf (liftT Z t) (liftE Z f) (liftE Z g) σ H Q := by
  obtain ⟨F, δ, own, rv, δ', s, e, k⟩ := h
  obtain ⟨⟨c, δ1⟩, e1, e2⟩ := Option.bind_eq_some_iff.mp e
  refine ⟨F, δ, own, c, δ1, s, e1, fun H1 F1 own1 sH sF s1 => ?_⟩
  cases c with
  | true =>
    rw [if_pos rfl] at e2 ⊢
    exact ⟨F1, δ1, own1, rv, δ', s1, e2, fun v H2 F2 own2 a c d => k v H2 F2 own2 (sH.trans a) (sF.trans c) d⟩
  | false =>
    rw [if_neg Bool.false_ne_true] at e2 ⊢
    exact ⟨F1, δ1, own1, rv, δ', s1, e2, fun v H2 F2 own2 a c d => k v H2 F2 own2 (sH.trans a) (sF.trans c) d⟩
@[simp] noncomputable def chainF (g g' : D → D → Option SV) (fa fb fc : FE) : FE := fun δ => (fa δ).bind fun p => (fb p.2).bind fun q => (rdv p.1 q.2).bind fun x => (rdv q.1 q.2).bind fun y => (g x y).bind fun
  | .fz (.bl true) => (fc q.2).bind fun r => (rdv q.1 r.2).bind fun y' => (rdv r.1 r.2).bind fun z => (g' y' z).bind fun sv => some (.tmp sv, r.2)
  | .fz (.bl false) => some (.tmp (.fz (.bl false)), q.2)
  | _ => none
theorem l_chain {r r' : R2} {g g' : D → D → Option SV} {fa fb fc : FE} (hg : Prim2 Z r g) (hg' : Prim2 Z r' g') (h : liftE Z (chainF g g' fa fb fc) σ H Q) : tChain r r' (liftE Z fa) (liftE Z fb) (liftE Z fc) σ H Q := by
  obtain ⟨F, δ, own, rv, δ', s, e, k⟩ := h
  obtain ⟨⟨rv1, δ1⟩, e1, e⟩ := Option.bind_eq_some_iff.mp e
  obtain ⟨⟨rv2, δ2⟩, e2, e⟩ := Option.bind_eq_some_iff.mp e
  obtain ⟨x, e3, e⟩ := Option.bind_eq_some_iff.mp e
  obtain ⟨y, e4, e⟩ := Option.bind_eq_some_iff.mp e
  obtain ⟨sv, e5, e⟩ := Option.bind_eq_some_iff.mp e
  refine ⟨F, δ, own, rv1, δ1, s, e1, fun v H1 F1 own1 sH1 sF1 s1 r1 => ?_⟩
  obtain ⟨F1', sF1', s1', r1'⟩ := s1.settleR r1
  refine ⟨F1', δ1, own1, rv2, δ2, s1', e2, fun u H2 F2 own2 sH2 sF2 s2 r2 => ?_⟩
  obtain ⟨F3, sF3, s3, r3⟩ := s2.settleR r2
  refine hg F3 H2 σ δ2 own2 v u x y sv _ s3 (s3.rd (r1'.mono (sF2.trans sF3)) e3) (s3.rd r3 e4) e5 fun z H4 F4 ns sH4 sF4 s4 t4 => ?_
  dsimp only at e
  split at e
  · cases shape_fz t4.sh
    refine ⟨true, rfl, ?_⟩
    rw [if_pos rfl]
    obtain ⟨⟨rv5, δ5⟩, e6, e⟩ := Option.bind_eq_some_iff.mp e
    obtain ⟨y', e7, e⟩ := Option.bind_eq_some_iff.mp e
    obtain ⟨z', e8, e⟩ := Option.bind_eq_some_iff.mp e
    obtain ⟨sv', e9, e⟩ := Option.bind_eq_some_iff.mp e
    cases e
    refine ⟨F4, δ2, own2, rv5, δ5, s4, e6, fun w H5 F5 own5 sH5 sF5 s5 r5 => ?_⟩
    obtain ⟨F6, sF6, s6, r6⟩ := s5.settleR r5
    refine hg' F6 H5 σ δ5 own5 u w y' z' sv' _ s6 (s6.rd (r3.mono (sF4.trans (sF5.trans sF6))) e7) (s6.rd r6 e8) e9 fun q H7 F7 ns7 sH7 sF7 s7 t7 => ?_
    exact k q H7 F7 own5 (sH1.trans (sH2.trans (sH4.trans (sH5.trans sH7)))) (sF1.trans (sF1'.trans (sF2.trans (sF3.trans (sF4.trans (sF5.trans (sF6.trans sF7))))))) s7 ⟨ns7, t7⟩
  · cases shape_fz t4.sh
    cases e
    refine ⟨false, rfl, ?_⟩
    rw [if_neg Bool.false_ne_true]
    exact k _ H4 F4 own2 (sH1.trans (sH2.trans sH4)) (sF1.trans (sF1'.trans (sF2.trans (sF3.trans sF4)))) s4 fin_b
  · cases e
end

/-! ### statements -/
inductive Fl where
  | nx (δ : DSt) | bk (δ : DSt) | ct (δ : DSt) | rt (sv : SV) | ex (e : Exn) (δ : DSt)
noncomputable abbrev FS := DSt → Option Fl
noncomputable def EndsOk (Z : Ent K) (F : Hp) (D : Ends) : Fl → Prop
  | .nx δ => ∀ σ' H' F' own', Same F F' → SR Z F' H' σ' δ own' → D.nx σ' H'
  | .bk δ => ∀ σ' H' F' own', Same F F' → SR Z F' H' σ' δ own' → D.bk σ' H'
  | .ct δ => ∀ σ' H' F' own', Same F F' → SR Z F' H' σ' δ own' → D.ct σ' H'
  | .rt sv => ∀ v H' F' ns, Same F F' → Same F' H' → (∀ (b : Addr) (o : HO), F' b = some o → Z.f b = some o ∨ Z.h b = none) → Same Z.h H' → Shape K F' sv v ns → (adr ns).Nodup →
      (∀ p ∈ ns, F' p.1 = none ∧ Z.h p.1 = none ∧ H' p.1 = some p.2) → D.rt v H'
  | .ex x δ => ∀ σ' H' F' own' cls od, Same F F' → SR Z F' H' σ' δ own' → ExcRep K F' x cls od → Z.x cls od σ' H'
theorem EndsOk.mono {Z : Ent K} {F F' : Hp} {D : Ends} (s : Same F F') : ∀ {fl : Fl}, EndsOk Z F D fl → EndsOk Z F' D fl
  | .nx _, h => fun σ' H' F2 own' a b => h σ' H' F2 own' (s.trans a) b
  | .bk _, h => fun σ' H' F2 own' a b => h σ' H' F2 own' (s.trans a) b
  | .ct _, h => fun σ' H' F2 own' a b => h σ' H' F2 own' (s.trans a) b
  | .rt _, h => fun v H' F2 ns a => h v H' F2 ns (s.trans a)
  | .ex _ _, h => fun σ' H' F2 own' cls od a => h σ' H' F2 own' cls od (s.trans a)
noncomputable def liftS (Z : Ent K) (f : FS) : TS := fun D σ H => ∃ F δ own fl, SR Z F H σ δ own ∧ f δ = some fl ∧ EndsOk Z F D fl
section
variable {Z : Ent K} {H : Hp} {σ : St} {E : Ends}
@[simp] noncomputable def nextF : FS := fun δ => some (.nx δ)
theorem l_next (h : liftS Z nextF E σ H) : tNext E σ H := by
  obtain ⟨F, δ, own, fl, s, e, k⟩ := h
  cases e
  exact k σ H F own (Same.refl F) s
@[simp] noncomputable def seqF (f g : FS) : FS := fun δ => (f δ).bind fun
  | .nx δ' => g δ'
  | fl => some fl
theorem l_seq {f g : FS} (h : liftS Z (seqF f g) E σ H) : tSeq (liftS Z f) (liftS Z g) E σ H := by
  obtain ⟨F, δ, own, fl, s, e, k⟩ := h
  obtain ⟨f1, e1, e2⟩ := Option.bind_eq_some_iff.mp e
  refine ⟨F, δ, own, f1, s, e1, ?_⟩
  cases f1 with
  | nx δ1 => exact fun σ' H' F' own' sF s' => ⟨F', δ1, own', fl, s', e2, k.mono sF⟩
  | bk δ1 => cases e2; exact k
  | ct δ1 => cases e2; exact k
  | rt sv => cases e2; exact k
  | ex x δ1 => cases e2; exact k
@[simp] noncomputable def ifS (t : FT) (f g : FS) : FS := fun δ => (t δ).bind fun p => if p.1 = true then f p.2 else g p.2
theorem l_ifS {t : FT} {f g : FS} (h : liftS Z (ifS t f g) E σ H) : tIfS (liftT Z t) (liftS Z f) (liftS Z g) E σ H := by
  obtain ⟨F, δ, own, fl, s, e, k⟩ := h
  obtain ⟨⟨c, δ1⟩, e1, e2⟩ := Option.bind_eq_some_iff.mp e
  refine ⟨F, δ, own, c, δ1, s, e1, fun H1 F1 own1 sH sF s1 => ?_⟩
  cases c with
  | true => rw [if_pos rfl] at e2 ⊢; exact ⟨F1, δ1, own1, fl, s1, e2, k.mono sF⟩
  | false => rw [if_neg Bool.false_ne_true] at e2 ⊢; exact ⟨F1, δ1, own1, fl, s1, e2, k.mono sF⟩
@[simp] noncomputable def outF : RV → DSt → Option SV
  | .tmp sv, _ => some sv
  | .bw i, δ => δ[i]?.join
@[simp] noncomputable def retF (fe : FE) : FS := fun δ => (fe δ).bind fun p => (outF p.1 p.2).bind fun sv => some (.rt sv)
theorem l_ret {fe : FE} (h : liftS Z (retF fe) E σ H) : tRet (liftE Z fe) E σ H := by
  obtain ⟨F, δ, own, fl, s, e, k⟩ := h
  obtain ⟨⟨rv, δ1⟩, e1, e2⟩ := Option.bind_eq_some_iff.mp e
  obtain ⟨sv, e3, e4⟩ := Option.bind_eq_some_iff.mp e2
  cases e4
  refine ⟨F, δ, own, rv, δ1, s, e1, fun v H1 F1 own1 sH sF s1 r1 => ?_⟩
  cases rv with
  | tmp sw =>
    cases e3
    obtain ⟨ns, t⟩ := r1
    exact k v H1 F1 ns sF s1.le s1.fro s1.old t.sh t.nd t.ok
  | bw i =>
    obtain ⟨w, h1, h2⟩ := s1.at' i sv (join_some e3)
    have r1' : σ[i]? = some (some v) := r1
    rw [r1'] at h1; cases h1
    exact k v H1 F1 (own1 i) sF s1.le s1.fro s1.old h2 (s1.nod i) (s1.ok i)
@[simp] noncomputable def stow (i : Nat) : RV → DSt → Option DSt
  | .tmp sv, δ => if i < δ.length then some (δ.set i (some sv)) else none
  | .bw j, δ => (frz (.bw j) δ).bind fun p => if i < p.2.length then some (p.2.set i (some (.fz p.1))) else none
theorem SR.stow {F : Hp} {δ δ' : DSt} {own : Nat → Nodes} {i : Nat} {rv : RV} {v : V} (s : SR Z F H σ δ own) (r : RVRep Z F H σ own rv v) (e : DL.stow i rv δ = some δ') : ∃ F' own', Same F F' ∧ SR Z F' H (σ.set i (some v)) δ' own' := by
  cases rv with
  | tmp sv =>
    obtain ⟨ns, t⟩ := r
    have e : (if i < δ.length then some (δ.set i (some sv)) else none) = some δ' := e
    by_cases hi : i < δ.length
    · rw [if_pos hi] at e; cases e
      exact ⟨F, _, Same.refl F, s.store t (by rw [s.len]; exact hi)⟩
    · rw [if_neg hi] at e; cases e
  | bw j =>
    obtain ⟨⟨d, δ1⟩, e1, e2⟩ := Option.bind_eq_some_iff.mp e
    obtain ⟨F1, own1, sF, s1, r1⟩ := s.frzR (rv := .bw j) (v := v) r e1
    by_cases hi : i < δ1.length
    · rw [if_pos hi] at e2; cases e2
      exact ⟨F1, _, sF, s1.store (.fz r1) (by rw [s1.len]; exact hi)⟩
    · rw [if_neg hi] at e2; cases e2
@[simp] noncomputable def setF (i : Nat) (fe : FE) : FS := fun δ => (fe δ).bind fun p => (stow i p.1 p.2).bind fun δ' => some (.nx δ')
theorem l_set {i : Nat} {fe : FE} (h : liftS Z (setF i fe) E σ H) : tAsg (liftE Z fe) (gName i) E σ H := by
  obtain ⟨F, δ, own, fl, s, e, k⟩ := h
  obtain ⟨⟨rv, δ1⟩, e1, e2⟩ := Option.bind_eq_some_iff.mp e
  obtain ⟨δ2, e3, e4⟩ := Option.bind_eq_some_iff.mp e2
  cases e4
  refine ⟨F, δ, own, rv, δ1, s, e1, fun v H1 F1 own1 sH sF s1 r1 => ?_⟩
  obtain ⟨F2, own2, sF2, s2⟩ := s1.stow r1 e3
  exact k _ H1 F2 own2 (sF.trans sF2) s2
/-! targets -/
structure FG where
  run : D → DSt → Option DSt
  tch : List Nat
structure FGs where
  run : List D → DSt → Option DSt
  tch : List Nat
noncomputable def liftG (Z : Ent K) (g : FG) : TG := fun v σ H Q => ∃ F δ own d δ', SR Z F H σ δ own ∧ Rep K F d v ∧ g.run d δ = some δ' ∧ ∀ σ' own', SR Z F H σ' δ' own' → (∀ j : Nat, j ∉ g.tch → σ'[j]? = σ[j]?) → Q σ' H
noncomputable def liftGs (Z : Ent K) (g : FGs) : TGs := fun vs σ H Q => ∃ F δ own ds δ', SR Z F H σ δ own ∧ Reps K F ds vs ∧ g.run ds δ = some δ' ∧ ∀ σ' own', SR Z F H σ' δ' own' → (∀ j : Nat, j ∉ g.tch → σ'[j]? = σ[j]?) → Q σ' H
noncomputable def gNameF (i : Nat) : FG := ⟨fun d δ => if i < δ.length then some (δ.set i (some (.fz d))) else none, [i]⟩
theorem l_gName {i : Nat} {v : V} {Q : St → Hp → Prop} (h : liftG Z (gNameF i) v σ H Q) : gName i v σ H Q := by
  obtain ⟨F, δ, own, d, δ', s, r, e, k⟩ := h
  have e : (if i < δ.length then some (δ.set i (some (.fz d))) else none) = some δ' := e
  by_cases hi : i < δ.length
  · rw [if_pos hi] at e; cases e
    exact k _ _ (s.store (.fz r) (by rw [s.len]; exact hi)) fun j hj => List.getElem?_set_ne fun z => hj (by rw [z]; exact List.mem_cons_self)
  · rw [if_neg hi] at e; cases e
noncomputable def gNilF : FGs := ⟨fun ds δ => match ds with
  | [] => some δ
  | _ => none, []⟩
noncomputable def gConsF (g : FG) (r : FGs) : FGs := ⟨fun ds δ => match ds with
  | d :: t => (g.run d δ).bind fun δ1 => r.run t δ1
  | [] => none, g.tch ++ r.tch⟩
@[simp] theorem gName_run (i : Nat) (d : D) (δ : DSt) : (gNameF i).run d δ = if i < δ.length then some (δ.set i (some (.fz d))) else none := rfl
@[simp] theorem gNil_run (δ : DSt) : gNilF.run [] δ = some δ := rfl
@[simp] theorem gCons_run (g : FG) (r : FGs) (d : D) (t : List D) (δ : DSt) : (gConsF g r).run (d :: t) δ = (g.run d δ).bind fun δ1 => r.run t δ1 := rfl
theorem l_gNil {vs : List V} {Q : St → Hp → Prop} (h : liftGs Z gNilF vs σ H Q) : gNil vs σ H Q := by
  obtain ⟨F, δ, own, ds, δ', s, r, e, k⟩ := h
  cases r with
  | nil => cases e; exact ⟨rfl, k σ own s fun _ _ => rfl⟩
  | cons h t => cases e
theorem l_gCons {g : FG} {r : FGs} {vs : List V} {Q : St → Hp → Prop} (h : liftGs Z (gConsF g r) vs σ H Q) : gCons (liftG Z g) (liftGs Z r) vs σ H Q := by
  obtain ⟨F, δ, own, ds, δ', s, rr, e, k⟩ := h
  cases rr with
  | nil => cases e
  | cons h t =>
    obtain ⟨δ1, e1, e2⟩ := Option.bind_eq_some_iff.mp e
    exact ⟨_, _, rfl, F, δ, own, _, δ1, s, h, e1, fun σ1 own1 s1 t1 => ⟨F, δ1, own1, _, δ', s1, t, e2, fun σ2 own2 s2 t2 => k σ2 own2 s2 fun j hj => (t2 j fun z => hj (List.mem_append_right _ z)).trans (t1 j fun z => hj (List.mem_append_left _ z))⟩⟩
noncomputable def gTupF (n : Nat) (g : FGs) : FG := ⟨fun d δ => match d with
  | .tup xs => if xs.length = n then g.run xs δ else none
  | _ => none, g.tch⟩
@[simp] theorem gTup_run (n : Nat) (g : FGs) (xs : List D) (δ : DSt) : (gTupF n g).run (.tup xs) δ = if xs.length = n then g.run xs δ else none := rfl
theorem l_gTup {n : Nat} {g : FGs} {v : V} {Q : St → Hp → Prop} (h : liftG Z (gTupF n g) v σ H Q) : gTup K n (liftGs Z g) v σ H Q := by
  obtain ⟨F, δ, own, d, δ', s, r, e, k⟩ := h
  dsimp only [gTupF] at e
  split at e
  · rename_i xs
    by_cases hn : xs.length = n
    · rw [if_pos hn] at e
      cases r with
      | tup h r => exact ⟨_, _, rfl, sqT_mono s.le (tupSq h), by rw [← r.length]; exact hn, F, δ, own, _, δ', s, r, e, k⟩
    · rw [if_neg hn] at e; cases e
  · cases e
@[simp] noncomputable def unpackF (g : FG) (fe : FE) : FS := fun δ => (fe δ).bind fun p => (frz p.1 p.2).bind fun q => (g.run q.1 q.2).bind fun δ' => some (.nx δ')
theorem l_unpack {g : FG} {fe : FE} (h : liftS Z (unpackF g fe) E σ H) : tAsg (liftE Z fe) (liftG Z g) E σ H := by
  obtain ⟨F, δ, own, fl, s, e, k⟩ := h
  obtain ⟨⟨rv, δ1⟩, e1, e2⟩ := Option.bind_eq_some_iff.mp e
  obtain ⟨⟨d, δ2⟩, e3, e4⟩ := Option.bind_eq_some_iff.mp e2
  obtain ⟨δ3, e5, e6⟩ := Option.bind_eq_some_iff.mp e4
  cases e6
  refine ⟨F, δ, own, rv, δ1, s, e1, fun v H1 F1 own1 sH sF s1 r1 => ?_⟩
  obtain ⟨F2, sF2, s2, r2⟩ := s1.settleR r1
  obtain ⟨F3, own3, sF3, s3, r3⟩ := s2.frzR r2 e3
  exact ⟨F3, δ2, own3, d, δ3, s3, r3, e5, fun σ' own' s' _ => k σ' H1 F3 own' (sF.trans (sF2.trans sF3)) s'⟩

/-! ### loops -/
@[simp] noncomputable def forD (tg : FG) (body : FS) : List D → DSt → Option Fl
  | [], δ => some (.nx δ)
  | d :: ds, δ => (tg.run d δ).bind fun δ1 => (body δ1).bind fun
    | .nx δ2 => forD tg body ds δ2
    | .ct δ2 => forD tg body ds δ2
    | .bk δ2 => some (.nx δ2)
    | .rt sv => some (.rt sv)
    | .ex x δ2 => some (.ex x δ2)
noncomputable def Yields (K : PySem.W.Frag) (J : It) (F : Hp) (ds : List D) : Prop := ∀ F' H, Same F F' → Same F' H → ∀ i : Nat,
  (∀ d, ds[i]? = some d → J.go i H ∧ ∀ x H', J.yld i H x H' → Same H H' ∧ ∃ ns, (adr ns).Nodup ∧ (∀ p ∈ ns, H p.1 = none ∧ H' p.1 = some p.2) ∧ Rep K (addL F' ns) d x) ∧ (ds.length ≤ i → J.stop i H)
noncomputable def liftI (Z : Ent K) (f : FD) : TI := fun σ H R => ∃ F δ own ds δ', SR Z F H σ δ own ∧ f δ = some (ds, δ') ∧
  ∀ J H' F' own', Same H H' → Same F F' → SR Z F' H' σ δ' own' → Yields K J F' ds → R J H'
@[simp] noncomputable def forF (fi : FD) (tg : FG) (body : FS) : FS := fun δ => (fi δ).bind fun p => forD tg body p.1 p.2
theorem SR.fresh {F H' : Hp} {δ : DSt} {own : Nat → Nodes} {ns : Nodes} (s : SR Z F H σ δ own) (sm : Same H H') (nd : (adr ns).Nodup) (h : ∀ p ∈ ns, H p.1 = none ∧ H' p.1 = some p.2) : Same F (addL F ns) ∧ SR Z (addL F ns) H' σ δ own := by
  refine ⟨addL_same fun p hp => s.le.free (h p hp).1, (s.grow sm).addF nd (fun p hp => s.le.free (h p hp).1) (fun p hp => (h p hp).2) (fun p hp => s.old.free (h p hp).1) fun i p q hp hq e => ?_⟩
  have z := (s.ok i q hq).2.2
  rw [← e, (h p hp).1] at z; cases z
theorem l_for {fi : FD} {tg : FG} {body : FS} (h : liftS Z (forF fi tg body) E σ H) : tFor (liftI Z fi) (liftG Z tg) (liftS Z body) E σ H := by
  obtain ⟨F, δ, own, fl, s, e, k⟩ := h
  obtain ⟨⟨ds, δ1⟩, e1, e2⟩ := Option.bind_eq_some_iff.mp e
  refine ⟨F, δ, own, ds, δ1, s, e1, fun J H1 F1 own1 sH sF s1 yl => ?_⟩
  refine ⟨fun i m σ H => m = ds.length - i ∧ i ≤ ds.length ∧ ∃ F δ own, Same F1 F ∧ SR Z F H σ δ own ∧ forD tg body (ds.drop i) δ = some fl, ⟨ds.length, by simp, Nat.zero_le _, F1, δ1, own1, Same.refl F1, s1, e2⟩, ?_⟩
  rintro i m σ' H' ⟨rfl, hi, F2, δ2, own2, sF2, s2, ef⟩
  by_cases hlt : i < ds.length
  · have hd : ds[i]? = some ds[i] := by simp [hlt]
    obtain ⟨go, yy⟩ := (yl F2 H' sF2 s2.le i).1 _ hd
    rw [List.drop_eq_getElem_cons hlt] at ef
    obtain ⟨δ3, e3, e4⟩ := Option.bind_eq_some_iff.mp ef
    obtain ⟨f1, e5, e6⟩ := Option.bind_eq_some_iff.mp e4
    refine .inr ⟨go, fun σ4 H4 => ∃ F δ own, Same F1 F ∧ SR Z F H4 σ4 δ own ∧ forD tg body (ds.drop (i + 1)) δ = some fl, fun σ4 H4 ⟨F4, δ4, own4, a, b, c⟩ => ⟨ds.length - (i + 1), by omega, rfl, hlt, F4, δ4, own4, a, b, c⟩, fun x H3 hy => ?_⟩
    obtain ⟨sm, ns, nd, hn, rp⟩ := yy x H3 hy
    obtain ⟨sFn, sn⟩ := s2.fresh sm nd hn
    refine ⟨addL F2 ns, δ2, own2, _, δ3, sn, rp, e3, fun σ5 own5 s5 _ => ⟨addL F2 ns, δ3, own5, f1, s5, e5, ?_⟩⟩
    cases f1 with
    | nx δ6 => exact fun σ6 H6 F6 own6 a b => ⟨F6, δ6, own6, sF2.trans (sFn.trans a), b, e6⟩
    | ct δ6 => exact fun σ6 H6 F6 own6 a b => ⟨F6, δ6, own6, sF2.trans (sFn.trans a), b, e6⟩
    | bk δ6 =>
      cases e6
      exact fun σ6 H6 F6 own6 a b => k σ6 H6 F6 own6 (sF.trans (sF2.trans (sFn.trans a))) b
    | rt sv =>
      cases e6
      exact fun v H6 F6 ns6 a => k v H6 F6 ns6 (sF.trans (sF2.trans (sFn.trans a)))
    | ex x δ6 =>
      cases e6
      exact fun σ6 H6 F6 own6 cls od a => k σ6 H6 F6 own6 cls od (sF.trans (sF2.trans (sFn.trans a)))
  · have hz : i = ds.length := by omega
    subst hz
    rw [List.drop_length] at ef
    cases ef
    exact .inl ⟨(yl F2 H' sF2 s2.le _).2 (Nat.le_refl _), k σ' H' F2 own2 (sF.trans sF2) s2⟩
/-! what is walked: a list or a tuple, frozen; a range -/
@[simp] noncomputable def seqI (fe : FE) : FD := fun δ => (fe δ).bind fun p => (frz p.1 p.2).bind fun q => match q.1 with
  | .lst xs => some (xs, q.2)
  | .tup xs => some (xs, q.2)
  | _ => none
theorem yields_list {F : Hp} {a : Addr} {xs : List D} {vs : List V} (h : SqL K F a vs) (r : Reps K F xs vs) : Yields K (Itl K a) F xs := fun F' H sF sH i => by
  have q : SqL K H a vs := sqL_mono (sF.trans sH) h
  refine ⟨fun d hd => ?_, fun hl => ⟨vs, q, by rw [← r.length]; exact hl⟩⟩
  obtain ⟨v, h1, h2⟩ := r.get hd
  refine ⟨⟨vs, v, q, h1⟩, fun x H' ⟨e1, e2⟩ => ?_⟩
  subst e1
  have e3 := e2 vs q
  rw [h1] at e3; cases e3
  exact ⟨Same.refl _, [], List.nodup_nil, fun _ h => (nomatch h), h2.mono sF⟩
theorem yields_tup {F : Hp} {a : Addr} {xs : List D} {vs : List V} (h : SqT K F a vs) (r : Reps K F xs vs) : Yields K (Itt K a) F xs := fun F' H sF sH i => by
  have q : SqT K H a vs := sqT_mono (sF.trans sH) h
  refine ⟨fun d hd => ?_, fun hl => ⟨vs, q, by rw [← r.length]; exact hl⟩⟩
  obtain ⟨v, h1, h2⟩ := r.get hd
  refine ⟨⟨vs, v, q, h1⟩, fun x H' ⟨e1, e2⟩ => ?_⟩
  subst e1
  have e3 := e2 vs q
  rw [h1] at e3; cases e3
  exact ⟨Same.refl _, [], List.nodup_nil, fun _ h => (nomatch h), h2.mono sF⟩
noncomputable def intsD (lo : Int) (n : Nat) : List D := (List.range n).map fun i => .int (lo + (i : Nat))
theorem yields_range {lo : Int} {n : Nat} {F : Hp} : Yields K (Itr lo n) F (intsD lo n) := fun F' H sF sH i => by
  have hl : (intsD lo n).length = n := by unfold intsD; rw [List.length_map, List.length_range]
  refine ⟨fun d hd => ?_, fun h => by rw [hl] at h; exact h⟩
  have hi : i < n := by
    have := (List.getElem?_eq_some_iff.mp hd).1
    rw [hl] at this; exact this
  refine ⟨hi, fun x H' ⟨e1, e2⟩ => ?_⟩
  subst e1 e2
  unfold intsD at hd
  rw [List.getElem?_map, List.getElem?_range hi] at hd
  cases hd
  exact ⟨Same.refl _, [], List.nodup_nil, fun _ h => (nomatch h), .int _⟩
noncomputable def rngP (j : Int) : Prop := -(2 ^ 62) ≤ j ∧ j < 2 ^ 62
theorem rngP_of {j : Int} (h0 : 0 ≤ j) (h : j ≤ 16777216) : rngP j := ⟨by omega, by omega⟩
theorem rngP_nat {n : Nat} (h : n ≤ 16777216) : rngP (n : Int) := rngP_of (by omega) (by omega)
open Classical in
@[simp] noncomputable def rngI (fa : FA) : FD := fun δ => (fa δ).bind fun p => match readAll p.1 p.2 with
  | some [.int j] => if rngP j then some (intsD 0 j.toNat, p.2) else none
  | _ => none
theorem l_rngI {fa : FA} {R : It → Hp → Prop} (h : liftI Z (rngI fa) σ H R) : iRng1 (liftA Z fa) σ H R := by
  obtain ⟨F, δ, own, ds, δ', s, e, k⟩ := h
  obtain ⟨⟨rvs, δ1⟩, e1, e2⟩ := Option.bind_eq_some_iff.mp e
  refine ⟨F, δ, own, rvs, δ1, s, e1, fun vs H1 F1 own1 sH sF s1 r1 => ?_⟩
  dsimp only at e2
  split at e2
  · rename_i j hj
    have rn := s1.rdAll r1 hj
    cases rn with
    | cons h t =>
      cases t
      by_cases hb : rngP j
      · rw [if_pos hb] at e2
        cases e2
        exact ⟨j, by rw [h.int], hb.1, hb.2, k _ H1 F1 own1 sH sF s1 yields_range⟩
      · rw [if_neg hb] at e2; cases e2
  · cases e2
/-! x.append(e) -/
@[simp] noncomputable def appF (i : Nat) (fe : FE) : FS := fun δ => match δ[i]? with
  | some (some (.ol _)) => (fe δ).bind fun p => (frz p.1 p.2).bind fun q => match q.2[i]? with
    | some (some (.ol xs)) => if xs.length < PySem.sizeLine then some (.nx (q.2.set i (some (.ol (xs ++ [q.1]))))) else none
    | _ => none
  | _ => none
theorem shape_ol {F : Hp} {xs : List D} {v : V} {ns : Nodes} (h : Shape K F (.ol xs) v ns) : ∃ a vs, v = .ref a ∧ ns = [(a, .lst vs)] ∧ Reps K F xs vs := by
  cases h with
  | ol r => exact ⟨_, _, rfl, rfl, r⟩
theorem l_app {i : Nat} {fe : FE} (h : liftS Z (appF i fe) E σ H) : tDrop (tBM K "list" rAppend (tVar i) (tCons (liftE Z fe) tNil)) E σ H := by
  obtain ⟨F, δ, own, fl, s, e, k⟩ := h
  unfold appF at e
  split at e
  · rename_i xs0 hx0
    obtain ⟨⟨rv, δ1⟩, e1, e2⟩ := Option.bind_eq_some_iff.mp e
    obtain ⟨⟨d, δ2⟩, e3, e4⟩ := Option.bind_eq_some_iff.mp e2
    obtain ⟨v, hv, sh⟩ := s.at' i _ hx0
    obtain ⟨a, vs0, ev, en, r0⟩ := shape_ol sh
    refine ⟨v, hv, ?_, F, δ, own, rv, δ1, s, e1, fun y H1 F1 own1 sH sF s1 r1 => ?_⟩
    · subst ev
      exact .inl ⟨rfl, vs0, .inl (.inl (s.ok i (a, .lst vs0) (by rw [en]; exact List.mem_cons_self)).2.2)⟩
    obtain ⟨F2, sF2, s2, r2⟩ := s1.settleR r1
    obtain ⟨F3, own3, sF3, s3, r3⟩ := s2.frzR r2 e3
    dsimp only at e4
    split at e4
    · rename_i xs hx
      by_cases hz : xs.length < PySem.sizeLine
      · rw [if_pos hz] at e4
        cases e4
        obtain ⟨v', hv', sh'⟩ := s3.at' i _ hx
        rw [hv] at hv'; cases hv'
        obtain ⟨b, vs, eb, en', r'⟩ := shape_ol sh'
        have mb : (b, HO.lst vs) ∈ own3 i := by rw [en']; exact List.mem_cons_self
        subst eb
        refine ⟨b, vs, y, rfl, rfl, (s3.ok i _ mb).2.2, by rw [← r'.length]; exact hz, ?_⟩
        exact k σ _ F3 _ (sF.trans (sF2.trans sF3)) (s3.change (sv' := .ol (xs ++ [d])) (o' := .lst (vs ++ [y])) (ns' := [(b, .lst (vs ++ [y]))]) hx hv mb (.ol (r'.snoc r3)) (fun p hp => .inl (List.mem_singleton.mp hp)) nd1)
      · rw [if_neg hz] at e4; cases e4
    · cases e4
  · cases e
end
/-! ### the body of a def -/
@[simp] noncomputable def startD (n : Nat) (ds : List D) : DSt := ds.map (fun d => some (.fz d)) ++ List.replicate (n - ds.length) none
theorem sr_start {N : List Str} {F H : Hp} {ds : List D} {vs : List V} (le : Same F H) (r : Reps K F ds vs) : SR (ent H F : Ent K) F H (L2.start N vs) (startD N.length ds) fun _ => [] := by
  have hl := r.length
  refine ⟨le, fun b o e => .inl e, Same.refl H, ?_, fun i sv e => ?_, fun _ => List.nodup_nil, fun _ _ h => (nomatch h), fun _ _ _ _ _ h => (nomatch h)⟩
  · unfold L2.start startD
    rw [List.length_append, List.length_append, List.length_map, List.length_map, List.length_replicate, List.length_replicate, hl]
  · unfold startD at e
    by_cases hi : i < ds.length
    · rw [List.getElem?_append_left (by simpa using hi), List.getElem?_map] at e
      cases hd : ds[i]? with
      | none => rw [hd] at e; cases e
      | some d =>
        rw [hd] at e; cases e
        obtain ⟨v, h1, h2⟩ := r.get hd
        refine ⟨v, ?_, .fz h2⟩
        unfold L2.start
        rw [List.getElem?_append_left (by rw [List.length_map]; omega), List.getElem?_map, h1]
        rfl
    · rw [List.getElem?_append_right (by simpa using hi), List.getElem?_replicate] at e
      split at e <;> cases e
theorem spOf_len {n : Nat} {g : List D → Option SV} {vs : List V} {H : Hp} {Q : VK} {E : XK} (h : spOf K n g vs H Q E) : vs.length = n := by
  obtain ⟨F, ds, sv, le, r, hn, e, k⟩ := h
  rw [← r.length]; exact hn
end DL

namespace DL
open PySem L2
variable {K : PySem.W.Frag}
/-! ### a list comprehension -/
noncomputable def xG (K : PySem.W.Frag) (g : FG) : TG := fun v σ H Q => ∃ Z : Ent K, liftG Z g v σ H Q
noncomputable def xT (K : PySem.W.Frag) (f : FT) : TT := fun σ H Q => ∃ Z : Ent K, liftT Z f σ H Q
noncomputable def xE (K : PySem.W.Frag) (f : FE) : TE := fun σ H Q => ∃ Z : Ent K, liftE Z f σ H Q
noncomputable def trueT : FT := fun δ => some (true, δ)
@[simp] theorem trueT_ap (δ : DSt) : trueT δ = some (true, δ) := rfl
@[simp] noncomputable def caps (src : List BSrc) : List RV := src.filterMap fun
  | .cap j => some (.bw j)
  | _ => none
@[simp] noncomputable def bDSlot (δ : DSt) : BSrc → Option SV
  | .own => none
  | .cap j => match δ[j]?.join with
    | some (.fz d) => some (.fz d)
    | _ => none
  | .acc => some (.ol [])
@[simp] noncomputable def bD (src : List BSrc) (δ : DSt) : DSt := src.map (bDSlot δ)
@[simp] noncomputable def resetSlot : BSrc → Option SV → Option SV
  | .own, _ => none
  | _, o => o
@[simp] noncomputable def reset : List BSrc → DSt → DSt
  | b :: r, o :: t => resetSlot b o :: reset r t
  | _, t => t
@[simp] noncomputable def compD (src : List BSrc) (k : Nat) (g : FG) (tt : FT) (te : FE) : List D → DSt → Option DSt
  | [], δ => some δ
  | d :: ds, δ => (g.run d δ).bind fun δ1 => (tt δ1).bind fun p => if p.1 = true then (te p.2).bind fun q => (frz q.1 q.2).bind fun r => match r.2[k]? with
      | some (some (.ol zs)) => if zs.length < PySem.sizeLine then compD src k g tt te ds (reset src (r.2.set k (some (.ol (zs ++ [r.1]))))) else none
      | _ => none
    else compD src k g tt te ds (reset src p.2)
@[simp] noncomputable def compF (src : List BSrc) (k : Nat) (fi : FD) (g : FG) (tt : FT) (te : FE) : FE := fun δ => (fi δ).bind fun p => (frzAll (caps src) p.2).bind fun c => (compD src k g tt te p.1 (bD src c.2)).bind fun δb => match δb[k]? with
  | some (some (.ol ys)) => some (.tmp (.ol ys), c.2)
  | _ => none
theorem reset_len : ∀ (src : List BSrc) (δ : DSt), (reset src δ).length = δ.length
  | [], t => by unfold reset; rfl
  | _ :: _, [] => by unfold reset; rfl
  | b :: r, o :: t => by show (resetSlot b o :: reset r t).length = _; rw [List.length_cons, List.length_cons, reset_len r t]
theorem reset_get : ∀ {src : List BSrc} {δ : DSt} {i : Nat} {sv : SV}, (reset src δ)[i]? = some (some sv) → δ[i]? = some (some sv)
  | [], _, _, _, h => h
  | _ :: _, [], _, _, h => h
  | b :: r, o :: t, 0, sv, h => by
    have h : some (resetSlot b o) = some (some sv) := h
    cases b with
    | own => cases h
    | cap j => exact h
    | acc => exact h
  | b :: r, o :: t, i + 1, sv, h => by
    have h : (reset r t)[i]? = some (some sv) := h
    show t[i]? = _
    exact reset_get h
section
variable {Z : Ent K} {F H : Hp} {σ : St} {δ δ' : DSt} {own : Nat → Nodes}
theorem SR.forget (s : SR Z F H σ δ own) (hl : δ'.length = δ.length) (h : ∀ (i : Nat) (sv : SV), δ'[i]? = some (some sv) → δ[i]? = some (some sv)) : SR Z F H σ δ' own :=
  ⟨s.le, s.fro, s.old, s.len.trans hl.symm, fun i sv e => s.at' i sv (h i sv e), s.nod, s.ok, s.sep⟩
theorem SR.caps : ∀ {rvs : List RV} {ds : List D} {δ δ' : DSt} {F : Hp} {own : Nat → Nodes}, (∀ rv ∈ rvs, ∃ j, rv = .bw j) → SR Z F H σ δ own → DL.frzAll rvs δ = some (ds, δ') → ∃ F1 own1, Same F F1 ∧ SR Z F1 H σ δ' own1
  | [], _, _, _, F, own, _, s, e => by cases e; exact ⟨F, own, Same.refl F, s⟩
  | rv :: r, _, _, _, F, own, hb, s, e => by
    obtain ⟨⟨d, δ1⟩, e1, e2⟩ := Option.bind_eq_some_iff.mp e
    obtain ⟨⟨ds, δ2⟩, e3, e4⟩ := Option.bind_eq_some_iff.mp e2
    cases e4
    obtain ⟨j, rfl⟩ := hb rv List.mem_cons_self
    obtain ⟨sv, e5, e6⟩ := Option.bind_eq_some_iff.mp e1
    cases e6
    obtain ⟨F1, v, sF, _, _, s1⟩ := s.freeze (join_some e5)
    obtain ⟨F2, own2, sF2, s2⟩ := SR.caps (fun rv h => hb rv (List.mem_cons_of_mem _ h)) s1 e3
    exact ⟨F2, own2, sF.trans sF2, s2⟩
theorem SR.after {F3 H3 : Hp} (s2 : SR Z F H σ δ own) (sH3 : Same H H3) (sF3 : Same F F3) (le3 : Same F3 H3) (fro3 : ∀ (b : Addr) (o : HO), F3 b = some o → F b = some o ∨ H b = none) : SR Z F3 H3 σ δ own := by
  refine ⟨le3, fun b o e => ?_, s2.old.trans sH3, s2.len, fun i sw ei => ?_, s2.nod, fun i p hp => ?_, s2.sep⟩
  · rcases fro3 b o e with z | z
    · exact s2.fro b o z
    · exact .inr (s2.old.free z)
  · obtain ⟨w, h1, h2⟩ := s2.at' i sw ei
    exact ⟨w, h1, h2.mono sF3⟩
  · obtain ⟨a, b, c⟩ := s2.ok i p hp
    refine ⟨?_, b, sH3 _ _ c⟩
    cases z : F3 p.1 with
    | none => rfl
    | some u =>
      rcases fro3 _ u z with y | y
      · rw [a] at y; cases y
      · rw [c] at y; cases y
end
structure SrcOk (src : List BSrc) (k : Nat) : Prop where
  acc : src[k]? = some .acc
  uni : ∀ i : Nat, src[i]? = some .acc → i = k
theorem block_sr {Z : Ent K} {F H : Hp} {σ : St} {δ : DSt} {own : Nat → Nodes} {src : List BSrc} {k : Nat} {acc : Addr} (S : SrcOk src k) (s : SR Z F H σ δ own) (ha : H acc = none) :
    SR (ent H F : Ent K) F (upd H acc (.lst [])) (bSt src σ acc) (bD src δ) (fun i => if i = k then [(acc, .lst [])] else []) := by
  have mem : ∀ {i : Nat} {p : Addr × HO}, p ∈ (if i = k then [(acc, HO.lst [])] else []) → i = k ∧ p = (acc, .lst []) := fun {i p} h => by
    by_cases hi : i = k
    · rw [if_pos hi] at h; exact ⟨hi, List.mem_singleton.mp h⟩
    · rw [if_neg hi] at h; exact nomatch h
  refine ⟨s.le.trans (same_new ha), fun b o e => .inl e, same_new ha, by unfold bSt bD; rw [List.length_map, List.length_map], fun i sv e => ?_, fun i => ?_, fun i p hp => ?_, fun i j p q hij hp hq => ?_⟩
  · unfold bD at e
    rw [List.getElem?_map] at e
    cases hq : src[i]? with
    | none => rw [hq] at e; cases e
    | some q =>
      rw [hq] at e
      have e : bDSlot δ q = some sv := Option.some.inj e
      cases q with
      | own => cases e
      | acc =>
        cases e
        have hi := S.uni i hq
        refine ⟨.ref acc, by unfold bSt; rw [List.getElem?_map, hq]; rfl, ?_⟩
        show Shape K F (.ol []) (.ref acc) (if i = k then [(acc, .lst [])] else [])
        rw [if_pos hi]
        exact .ol .nil
      | cap j =>
        have hi : i ≠ k := fun z => by rw [z, S.acc] at hq; cases hq
        unfold bDSlot at e
        dsimp only at e
        split at e
        · rename_i d hd
          cases e
          obtain ⟨v, h1, h2⟩ := s.at' j _ (join_some hd)
          refine ⟨v, by unfold bSt; rw [List.getElem?_map, hq]; show some (σ[j]?).join = _; rw [h1]; rfl, ?_⟩
          show Shape K F (.fz d) v (if i = k then [(acc, .lst [])] else [])
          rw [if_neg hi]
          exact .fz (shape_fz h2)
        · cases e
  · show (adr (if i = k then [(acc, HO.lst [])] else [])).Nodup
    by_cases hi : i = k
    · rw [if_pos hi]; exact nd1
    · rw [if_neg hi]; exact List.nodup_nil
  · obtain ⟨_, rfl⟩ := mem hp
    exact ⟨s.le.free ha, ha, upd_same⟩
  · obtain ⟨z, _⟩ := mem hp
    obtain ⟨y, _⟩ := mem hq
    exact absurd (z.trans y.symm) hij
theorem l_comp {Z : Ent K} {H : Hp} {σ : St} {Q : VK} {src : List BSrc} {k : Nat} {fi : FD} {g : FG} {tt : FT} {te : FE} (S : SrcOk src k) (hk : k ∉ g.tch) (h : liftE Z (compF src k fi g tt te) σ H Q) :
    tComp src (liftI Z fi) (xG K g) (xT K tt) (xE K te) σ H Q := by
  obtain ⟨F, δ, own, rv, δ', s, e, k0⟩ := h
  obtain ⟨⟨ds, δ1⟩, e1, e2⟩ := Option.bind_eq_some_iff.mp e
  obtain ⟨⟨cs, δ2⟩, e3, e4⟩ := Option.bind_eq_some_iff.mp e2
  obtain ⟨δf, e5, e6⟩ := Option.bind_eq_some_iff.mp e4
  refine ⟨F, δ, own, ds, δ1, s, e1, fun J H1 F1 own1 sH sF s1 yl acc ha => ?_⟩
  obtain ⟨F2, own2, sF2, s2⟩ := s1.caps (fun rv hr => by
    unfold DL.caps at hr
    obtain ⟨b, _, hb⟩ := List.mem_filterMap.mp hr
    cases b with
    | own => cases hb
    | acc => cases hb
    | cap j => cases hb; exact ⟨j, rfl⟩) e3
  have s3 := block_sr S s2 ha
  have hacc0 : (bSt src σ acc)[k]? = some (some (.ref acc)) := by unfold bSt; rw [List.getElem?_map, S.acc]; rfl
  refine ⟨fun i m σ' H => m = ds.length - i ∧ i ≤ ds.length ∧ σ'[k]? = some (some (.ref acc)) ∧ ∃ F δ own, Same F2 F ∧ SR (ent H1 F2 : Ent K) F H σ' δ own ∧ compD src k g tt te (ds.drop i) δ = some δf,
    ⟨ds.length, by simp, Nat.zero_le _, hacc0, F2, _, _, Same.refl F2, s3, e5⟩, ?_⟩
  rintro i m σ4 H4 ⟨rfl, hi, hacc, F4, δ4, own4, sF4, s4, ef⟩
  by_cases hlt : i < ds.length
  · have hd : ds[i]? = some ds[i] := by simp [hlt]
    obtain ⟨go, yy⟩ := (yl F4 H4 (sF2.trans sF4) s4.le i).1 _ hd
    rw [List.drop_eq_getElem_cons hlt] at ef
    obtain ⟨δ5, e7, e8⟩ := Option.bind_eq_some_iff.mp ef
    obtain ⟨⟨b, δ6⟩, e9, e10⟩ := Option.bind_eq_some_iff.mp e8
    refine .inr ⟨go, fun x H5 hy => ?_⟩
    obtain ⟨sm, ns, nd, hn, rp⟩ := yy x H5 hy
    obtain ⟨sFn, sn⟩ := s4.fresh sm nd hn
    refine ⟨(ent H1 F2 : Ent K), addL F4 ns, δ4, own4, _, δ5, sn, rp, e7, fun σ6 own6 s6 t6 => ⟨(ent H1 F2 : Ent K), addL F4 ns, δ5, own6, b, δ6, s6, e9, fun H7 F7 own7 sH7 sF7 s7 => ?_⟩⟩
    have hacc6 : σ6[k]? = some (some (.ref acc)) := (t6 k hk).trans hacc
    cases b with
    | false =>
      dsimp only
      rw [if_neg Bool.false_ne_true] at e10 ⊢
      exact ⟨ds.length - (i + 1), by omega, rfl, hlt, hacc6, F7, _, own7, sF4.trans (sFn.trans sF7), s7.forget (reset_len src δ6) (fun j sv hj => reset_get hj), e10⟩
    | true =>
      dsimp only
      rw [if_pos rfl] at e10 ⊢
      obtain ⟨⟨rv8, δ8⟩, e11, e12⟩ := Option.bind_eq_some_iff.mp e10
      obtain ⟨⟨d9, δ9⟩, e13, e14⟩ := Option.bind_eq_some_iff.mp e12
      refine ⟨(ent H1 F2 : Ent K), F7, δ6, own7, rv8, δ8, s7, e11, fun y H8 F8 own8 sH8 sF8 s8 r8 => ?_⟩
      obtain ⟨F9, sF9, s9, r9⟩ := s8.settleR r8
      obtain ⟨F10, own10, sF10, s10, r10⟩ := s9.frzR r9 e13
      dsimp only at e14
      split at e14
      · rename_i zs hz
        by_cases hzl : zs.length < PySem.sizeLine
        · rw [if_pos hzl] at e14
          obtain ⟨v', hv', sh'⟩ := s10.at' k _ hz
          rw [hacc6] at hv'; cases hv'
          obtain ⟨b, vs, eb, en', r'⟩ := shape_ol sh'
          cases eb
          have mb : (acc, HO.lst vs) ∈ own10 k := by rw [en']; exact List.mem_cons_self
          refine ⟨acc, vs, y, rfl, rfl, (s10.ok k _ mb).2.2, by rw [← r'.length]; exact hzl, ?_⟩
          have s11 := s10.change (sv' := .ol (zs ++ [d9])) (o' := .lst (vs ++ [y])) (ns' := [(acc, .lst (vs ++ [y]))]) hz hacc6 mb (.ol (r'.snoc r10)) (fun p hp => .inl (List.mem_singleton.mp hp)) nd1
          exact ⟨ds.length - (i + 1), by omega, rfl, hlt, hacc6, F10, _, _, sF4.trans (sFn.trans (sF7.trans (sF8.trans (sF9.trans sF10)))), s11.forget (reset_len src _) (fun j sv hj => reset_get hj), e14⟩
        · rw [if_neg hzl] at e14; cases e14
      · cases e14
  · have hz : i = ds.length := by omega
    subst hz
    rw [List.drop_length] at ef
    cases ef
    refine .inl ⟨(yl F4 H4 (sF2.trans sF4) s4.le _).2 (Nat.le_refl _), ?_⟩
    dsimp only at e6
    split at e6
    · rename_i ys hys
      cases e6
      obtain ⟨v', hv', sh'⟩ := s4.at' k _ hys
      rw [hacc] at hv'; cases hv'
      obtain ⟨b, vs, eb, en', r'⟩ := shape_ol sh'
      cases eb
      have mb : (acc, HO.lst vs) ∈ own4 k := by rw [en']; exact List.mem_cons_self
      obtain ⟨o1, o2, o3⟩ := s4.ok k _ mb
      refine k0 (.ref acc) H4 F4 own2 (sH.trans s4.old) (sF.trans (sF2.trans sF4)) (s2.after s4.old sF4 s4.le fun b o e => s4.fro b o e) ⟨[(acc, .lst vs)], .ol r', nd1, fun p hp => ?_, fun j p q hp hq e => ?_⟩
      · obtain rfl := List.mem_singleton.mp hp
        exact ⟨o1, s2.old.free ha, o3⟩
      · obtain rfl := List.mem_singleton.mp hp
        have z := (s2.ok j q hq).2.2
        have e' : acc = q.1 := e
        rw [← e', ha] at z; cases z
    · cases e6
end DL

/-! OPERATIONS upon values: what each tells, and that the layer's rule tells the same -/
namespace DL
open PySem PySem.Spec PyProof.Rows L2
variable {K : PySem.W.Frag}
variable {Z : Ent K}

/-! ### ints -/
@[simp] noncomputable def intI (f : Int → Int → D) : D → D → Option SV
  | .int i, .int j => some (.fz (f i j))
  | _, _ => none
@[simp] noncomputable def intC (C : Int → Int → Bool) (f : Int → Int → D) : D → D → Option SV
  | .int i, .int j => if C i j = true then some (.fz (f i j)) else none
  | _, _ => none
theorem p_rI0 {g : Int → Int → V} {f : Int → Int → D} (hr : ∀ F i j, Rep K F (f i j) (g i j)) : Prim2 Z (rI0 g) (intI f) := by
  intro F H σ δ own x y d1 d2 sv Q s r1 r2 e k
  unfold intI at e
  split at e
  · cases e
    exact ⟨_, _, r1.int, r2.int, k.fz s (hr _ _ _)⟩
  · cases e
theorem p_rI {C : Int → Int → Prop} {c : Int → Int → Bool} {g : Int → Int → V} {f : Int → Int → D} (hc : ∀ i j, c i j = true → C i j) (hr : ∀ F i j, Rep K F (f i j) (g i j)) : Prim2 Z (rI C g) (intC c f) := by
  intro F H σ δ own x y d1 d2 sv Q s r1 r2 e k
  unfold intC at e
  split at e
  · split at e
    · rename_i hcc
      cases e
      exact ⟨_, _, r1.int, r2.int, hc _ _ hcc, k.fz s (hr _ _ _)⟩
    · cases e
  · cases e
noncomputable def cMul (i j : Int) : Bool := (decide (-(2 ^ 64) < i) && decide (i < 2 ^ 64)) || (decide (-(2 ^ 64) < j) && decide (j < 2 ^ 64))
@[simp] noncomputable def mulD : D → D → Option SV := intC cMul fun i j => .int (i * j)
@[simp] noncomputable def cDiv (i j : Int) : Bool := decide (0 < j) && decide (j < 1073741824)
@[simp] noncomputable def fdivD : D → D → Option SV := intC cDiv fun i j => .int (i / j)
@[simp] noncomputable def cMod (i j : Int) : Bool := decide (0 < j)
@[simp] noncomputable def modD : D → D → Option SV := intC cMod fun i j => .int (i % j)
theorem p_mul : Prim2 Z (rI CMul fun i j => V.int (i * j)) mulD := p_rI (fun i j h => by
  unfold cMul at h
  simp only [Bool.or_eq_true, Bool.and_eq_true, decide_eq_true_eq] at h
  exact h) fun _ _ _ => .int _
theorem p_fdiv : Prim2 Z (rI CDiv fun i j => V.int (i / j)) fdivD := p_rI (fun i j h => by
  unfold cDiv at h
  simp only [Bool.and_eq_true, decide_eq_true_eq] at h
  exact h) fun _ _ _ => .int _
theorem p_mod : Prim2 Z (rI (fun _ j => 0 < j) fun i j => V.int (i % j)) modD := p_rI (fun i j h => by
  unfold cMod at h
  simp only [decide_eq_true_eq] at h
  exact h) fun _ _ _ => .int _
@[simp] noncomputable def ltD : D → D → Option SV := intI fun i j => .bl (decide (i < j))
@[simp] noncomputable def leD : D → D → Option SV := intI fun i j => .bl (decide (i ≤ j))
@[simp] noncomputable def gtD : D → D → Option SV := intI fun i j => .bl (decide (j < i))
theorem p_lt : Prim2 Z (rI0 fun i j => V.bl (decide (i < j))) ltD := p_rI0 fun _ _ _ => .bl _
theorem p_le : Prim2 Z (rI0 fun i j => V.bl (decide (i ≤ j))) leD := p_rI0 fun _ _ _ => .bl _
theorem p_gt : Prim2 Z (rI0 fun i j => V.bl (decide (j < i))) gtD := p_rI0 fun _ _ _ => .bl _

/-! ### + -/
noncomputable def rStr : R2 := fun x y H Q => ∃ i j, x = .str i ∧ y = .str j ∧ i.length + j.length ≤ PySem.sizeLine ∧ Q (.str (i ++ j)) H
noncomputable def rCatR (K : PySem.W.Frag) : R2 := fun x y H Q => ∃ l b xs zs, x = .ref l ∧ y = .ref b ∧ SqL K H l xs ∧ SqL K H b zs ∧ xs.length + zs.length ≤ PySem.sizeLine ∧ ∀ p, H p = none → Q (.ref p) (upd H p (.lst (xs ++ zs)))
theorem op_catR {X : Cx} : OpR X (binaryOp .Add) (rCatR X.K) := by
  intro pins s σ H x y v u Q I rx ry h
  obtain ⟨l, b, xs, zs, rfl, rfl, hH, hB, hz, q⟩ := h
  cases rx
  cases ry
  obtain ⟨its, r, pl, z⟩ := I.list hH
  obtain ⟨its2, r2, pl2, z2⟩ := I.list hB
  have hl := r.length
  have hl2 := r2.length
  obtain ⟨⟨cls, dd, data, sl⟩, ho, hc, n, hd⟩ := pl.isList
  obtain ⟨⟨cls2, dd2, data2, sl2⟩, ho2, hc2, n2, hd2⟩ := pl2.isList
  simp only at hc hd hc2 hd2
  subst hc hd hc2 hd2
  have ea : its.toArray ++ its2.toArray = (its ++ its2).toArray := by simp
  refine concat_meets ⟨_, ho, rfl⟩ ⟨_, ho2, rfl⟩ noFill_list_add seq_list_add PySem.F.slot_list_add PySem.F.entry_list_add (PySem.F.args_list_add_2 _ _) (list_addW l b its.toArray its2.toArray n n2 dd dd2 sl sl2 (by rw [List.size_toArray, List.size_toArray]; omega)) ⟨ho, ho2, ?_⟩
  rw [ea]
  exact ⟨.ref _, _, I.lnew (t' := s.toks) (r.append r2) (by rw [List.length_append]; omega), rfl, q _ I.fresh⟩
noncomputable def rAdd3 (K : PySem.W.Frag) : R2 := fun x y H Q => rI0 (fun i j => V.int (i + j)) x y H Q ∨ (rStr x y H Q ∨ rCatR K x y H Q)
theorem op_add3 {X : Cx} : OpR X (binaryOp .Add) (rAdd3 X.K) := op_add.or (op_add_str.or op_catR)
@[simp] noncomputable def addD : D → D → Option SV
  | .int i, .int j => some (.fz (.int (i + j)))
  | .str x, .str y => if x.length + y.length ≤ PySem.sizeLine then some (.fz (.str (x ++ y))) else none
  | .lst xs, .lst ys => if xs.length + ys.length ≤ PySem.sizeLine then some (.ol (xs ++ ys)) else none
  | _, _ => none
theorem p_add : Prim2 Z (rAdd3 K) addD := by
  intro F H σ δ own x y d1 d2 sv Q s r1 r2 e k
  unfold addD at e
  split at e
  · cases e
    exact .inl ⟨_, _, r1.int, r2.int, k.fz s (.int _)⟩
  · split at e
    · rename_i hz
      cases e
      exact .inr (.inl ⟨_, _, r1.str, r2.str, hz, k.fz s (.str _)⟩)
    · cases e
  · split at e
    · rename_i hz
      cases e
      obtain ⟨a, vs, ex, ha, ra⟩ := r1.lst s.le
      obtain ⟨b, us, ey, hb, rb⟩ := r2.lst s.le
      exact .inr (.inr ⟨a, b, vs, us, ex, ey, ha, hb, by rw [← ra.length, ← rb.length]; exact hz, fun p hp => k.lst s (ra.append rb) hp⟩)
    · cases e
  · cases e

/-! ### == of scalars -/
@[simp] noncomputable def eqS : D → D → Option Bool
  | .non, .non => some true
  | .non, .int _ => some false
  | .int _, .non => some false
  | .non, .bl _ => some false
  | .bl _, .non => some false
  | .non, .str _ => some false
  | .str _, .non => some false
  | .int i, .int j => some (decide (i = j))
  | .bl i, .bl j => some (decide (i = j))
  | .str i, .str j => some (decide (i = j))
  | .int _, .str _ => some false
  | .str _, .int _ => some false
  | .bl _, .str _ => some false
  | .str _, .bl _ => some false
  | _, _ => none
theorem eqS_ok {F H : Hp} {d1 d2 : D} {x y : V} {b : Bool} (e : eqS d1 d2 = some b) (r1 : RepN K F H d1 x) (r2 : RepN K F H d2 y) : scal x y = true ∧ b = decide (x = y) := by
  unfold eqS at e
  split at e <;> cases e
  · rw [r1.non, r2.non]; exact ⟨rfl, by simp⟩
  · rw [r1.non, r2.int]; exact ⟨rfl, by simp⟩
  · rw [r1.int, r2.non]; exact ⟨rfl, by simp⟩
  · rw [r1.non, r2.bl]; exact ⟨rfl, by simp⟩
  · rw [r1.bl, r2.non]; exact ⟨rfl, by simp⟩
  · rw [r1.non, r2.str]; exact ⟨rfl, by simp⟩
  · rw [r1.str, r2.non]; exact ⟨rfl, by simp⟩
  · rw [r1.int, r2.int]; exact ⟨rfl, by simp⟩
  · rw [r1.bl, r2.bl]; exact ⟨rfl, by simp⟩
  · rw [r1.str, r2.str]; exact ⟨rfl, by simp⟩
  · rw [r1.int, r2.str]; exact ⟨rfl, by simp⟩
  · rw [r1.str, r2.int]; exact ⟨rfl, by simp⟩
  · rw [r1.bl, r2.str]; exact ⟨rfl, by simp⟩
  · rw [r1.str, r2.bl]; exact ⟨rfl, by simp⟩
@[simp] noncomputable def eqD (d1 d2 : D) : Option SV := (eqS d1 d2).bind fun b => some (.fz (.bl b))
@[simp] noncomputable def neD (d1 d2 : D) : Option SV := (eqS d1 d2).bind fun b => some (.fz (.bl (!b)))
theorem p_eq : Prim2 Z rEq eqD := by
  intro F H σ δ own x y d1 d2 sv Q s r1 r2 e k
  obtain ⟨b, e1, e2⟩ := Option.bind_eq_some_iff.mp e
  cases e2
  obtain ⟨h1, h2⟩ := eqS_ok e1 r1 r2
  subst h2
  exact ⟨h1, k.fz s (.bl _)⟩
theorem p_ne : Prim2 Z rNe neD := by
  intro F H σ δ own x y d1 d2 sv Q s r1 r2 e k
  obtain ⟨b, e1, e2⟩ := Option.bind_eq_some_iff.mp e
  cases e2
  obtain ⟨h1, h2⟩ := eqS_ok e1 r1 r2
  subst h2
  exact ⟨h1, k.fz s (.bl _)⟩
/-! ### a[i] -/
theorem Reps.atI {F : Hp} {xs : List D} {vs : List V} {i : Int} {d : D} (r : Reps K F xs vs) (e : L2.atI xs i = some d) : ∃ v, L2.atI vs i = some v ∧ Rep K F d v := by
  unfold L2.atI at e ⊢
  obtain ⟨j, e1, e2⟩ := Option.bind_eq_some_iff.mp e
  obtain ⟨v, h1, h2⟩ := r.get e2
  exact ⟨v, Option.bind_eq_some_iff.mpr ⟨j, by rw [← r.length]; exact e1, h1⟩, h2⟩
@[simp] noncomputable def ixD : D → D → Option SV
  | .lst xs, .int i => (L2.atI xs i).bind fun d => some (.fz d)
  | .tup xs, .int i => (L2.atI xs i).bind fun d => some (.fz d)
  | .str z, .int i => if z.length ≤ PySem.sizeLine then (L2.atI z.cps.toList i).bind fun c => some (.fz (.str ⟨#[c]⟩)) else none
  | _, _ => none
theorem p_ix : Prim2 Z (rIx K) ixD := by
  intro F H σ δ own x y d1 d2 sv Q s r1 r2 e k
  unfold ixD at e
  split at e
  · obtain ⟨d, e1, e2⟩ := Option.bind_eq_some_iff.mp e
    cases e2
    obtain ⟨a, vs, ex, ha, ra⟩ := r1.lst s.le
    obtain ⟨v, h1, h2⟩ := ra.atI e1
    exact .inl ⟨a, vs, _, v, ex, r2.int, ha, h1, k.fz s h2⟩
  · obtain ⟨d, e1, e2⟩ := Option.bind_eq_some_iff.mp e
    cases e2
    obtain ⟨a, vs, ex, ha, ra⟩ := r1.tup s.le
    obtain ⟨v, h1, h2⟩ := ra.atI e1
    exact .inr (.inl ⟨a, vs, _, v, ex, r2.int, ha, h1, k.fz s h2⟩)
  · split at e
    · rename_i hz
      obtain ⟨c, e1, e2⟩ := Option.bind_eq_some_iff.mp e
      cases e2
      exact .inr (.inr ⟨_, _, c, r1.str, r2.int, hz, e1, k.fz s (.str _)⟩)
    · cases e
  · cases e
/-! ### slices -/
noncomputable abbrev FO := DSt → Option (Option Int × DSt)
noncomputable def liftO (Z : Ent K) (f : FO) : TO := fun σ H Q => ∃ F δ own o δ', SR Z F H σ δ own ∧ f δ = some (o, δ') ∧ ∀ H' F' own', Same H H' → Same F F' → SR Z F' H' σ δ' own' → Q o H'
@[simp] noncomputable def noPart : FO := fun δ => some (none, δ)
@[simp] noncomputable def partF (fe : FE) : FO := fun δ => (fe δ).bind fun p => match p.1 with
  | .tmp (.fz (.int i)) => some (some i, p.2)
  | _ => none
section
variable {H : Hp} {σ : L2.St} {Q : VK} {R : Option Int → Hp → Prop}
theorem l_noPart (h : liftO Z noPart σ H R) : tNoPart σ H R := by
  obtain ⟨F, δ, own, o, δ', s, e, k⟩ := h
  cases e
  exact k H F own (Same.refl H) (Same.refl F) s
theorem l_part {fe : FE} (h : liftO Z (partF fe) σ H R) : tPart (liftE Z fe) σ H R := by
  obtain ⟨F, δ, own, b, δ', s, e, k⟩ := h
  obtain ⟨⟨rv, δ1⟩, e1, e2⟩ := Option.bind_eq_some_iff.mp e
  refine ⟨F, δ, own, rv, δ1, s, e1, fun v H1 F1 own1 sH sF s1 r1 => ?_⟩
  dsimp only at e2
  split at e2
  · cases e2
    obtain ⟨ns, t⟩ := r1
    cases shape_fz t.sh
    exact ⟨_, rfl, k H1 F1 own1 sH sF s1⟩
  · cases e2
@[simp] noncomputable def slF (g : D → Option Int → Option Int → Option SV) (fe : FE) (fl fh : FO) : FE := fun δ => (fe δ).bind fun p => (fl p.2).bind fun l => (fh l.2).bind fun h => (rdv p.1 h.2).bind fun d => (g d l.1 h.1).bind fun sv => some (.tmp sv, h.2)
noncomputable def PrimS (Z : Ent K) (r : V → Option Int → Option Int → Hp → VK → Prop) (g : D → Option Int → Option Int → Option SV) : Prop :=
  ∀ (F H : Hp) (σ : L2.St) (δ : DSt) (own : Nat → Nodes) (x : V) (d : D) (lo hi : Option Int) (sv : SV) (Q : VK), SR Z F H σ δ own → RepN K F H d x → g d lo hi = some sv → Fin Z F H σ δ own sv Q → r x lo hi H Q
theorem l_sl {r : V → Option Int → Option Int → Hp → VK → Prop} {g : D → Option Int → Option Int → Option SV} {fe : FE} {fl fh : FO} (hg : PrimS Z r g) (h : liftE Z (slF g fe fl fh) σ H Q) : tSl r (liftE Z fe) (liftO Z fl) (liftO Z fh) σ H Q := by
  obtain ⟨F, δ, own, rv, δ', s, e, k⟩ := h
  obtain ⟨⟨rv1, δ1⟩, e1, e⟩ := Option.bind_eq_some_iff.mp e
  obtain ⟨⟨lo, δ2⟩, e2, e⟩ := Option.bind_eq_some_iff.mp e
  obtain ⟨⟨hi, δ3⟩, e3, e⟩ := Option.bind_eq_some_iff.mp e
  obtain ⟨d, e4, e⟩ := Option.bind_eq_some_iff.mp e
  obtain ⟨sv, e5, e⟩ := Option.bind_eq_some_iff.mp e
  cases e
  refine ⟨F, δ, own, rv1, δ1, s, e1, fun v H1 F1 own1 sH1 sF1 s1 r1 => ?_⟩
  obtain ⟨F1', sF1', s1', r1'⟩ := s1.settleR r1
  refine ⟨F1', δ1, own1, lo, δ2, s1', e2, fun H2 F2 own2 sH2 sF2 s2 => ⟨F2, δ2, own2, hi, δ3, s2, e3, fun H3 F3 own3 sH3 sF3 s3 => ?_⟩⟩
  exact hg F3 H3 σ δ3 own3 v d lo hi sv Q s3 (s3.rd (r1'.mono (sF2.trans sF3)) e4) e5 fun q H4 F4 ns sH4 sF4 s4 t4 =>
    k q H4 F4 own3 (sH1.trans (sH2.trans (sH3.trans sH4))) (sF1.trans (sF1'.trans (sF2.trans (sF3.trans sF4)))) s4 ⟨ns, t4⟩
end
noncomputable def cutD (xs : List D) (lo hi : Option Int) : List D := (xs.drop (HT.sIx xs.length 0 lo)).take (HT.sIx xs.length xs.length hi - HT.sIx xs.length 0 lo)
theorem Reps.cut {F : Hp} {xs : List D} {vs : List V} (r : Reps K F xs vs) (lo hi : Option Int) : Reps K F (cutD xs lo hi) (cutV vs lo hi) := by
  unfold cutD cutV
  rw [r.length]
  exact (r.drop _).take _
noncomputable def rSlS : V → Option Int → Option Int → Hp → VK → Prop := fun x lo hi H Q => ∃ z, x = .str z ∧ z.length ≤ PySem.sizeLine ∧ Q (.str (Txt.slice z lo hi)) H
theorem sl_str {X : Cx} : SlR X rSlS := by
  intro pins s σ H x v vl vu lo hi sl Q I rx hs pl pu h
  obtain ⟨z, rfl, hz, q⟩ := h
  obtain ⟨t, rfl⟩ := rx
  refine ⟨"str", _, F.slot_str_getitem.lookup, typeIs_str _ _ _, ?_⟩
  have fin : ∀ (t' : Tok) (k : Nat), EP X pins σ Q (.str (Txt.slice z lo hi) t') { s with toks := k } := fun t' k => ⟨.str (Txt.slice z lo hi), H, I.tok _, ⟨_, rfl⟩, q⟩
  cases pl with
  | none => cases pu with
    | none => exact wpAny_getItem_str_slice (l := none) (u := none) (st := none) hs rfl (post_val_or_str ⟨Nat.le_trans (Txt.slice_le z _ _) hz, fin⟩)
    | int j tj => exact wpAny_getItem_str_slice (l := none) (u := some (j, tj)) (st := none) hs rfl (post_val_or_str ⟨Nat.le_trans (Txt.slice_le z _ _) hz, fin⟩)
  | int i ti => cases pu with
    | none => exact wpAny_getItem_str_slice (l := some (i, ti)) (u := none) (st := none) hs rfl (post_val_or_str ⟨Nat.le_trans (Txt.slice_le z _ _) hz, fin⟩)
    | int j tj => exact wpAny_getItem_str_slice (l := some (i, ti)) (u := some (j, tj)) (st := none) hs rfl (post_val_or_str ⟨Nat.le_trans (Txt.slice_le z _ _) hz, fin⟩)
@[simp] noncomputable def slD : D → Option Int → Option Int → Option SV
  | .lst xs, lo, hi => some (.ol (cutD xs lo hi))
  | .str z, lo, hi => if z.length ≤ PySem.sizeLine then some (.fz (.str (Txt.slice z lo hi))) else none
  | _, _, _ => none
theorem p_sl : PrimS Z (fun x lo hi H Q => rSlL K x lo hi H Q ∨ rSlS x lo hi H Q) slD := by
  intro F H σ δ own x d lo hi sv Q s r1 e k
  unfold slD at e
  split at e
  · cases e
    obtain ⟨a, vs, ex, ha, ra⟩ := r1.lst s.le
    exact .inl ⟨a, vs, ex, ha, fun p hp => k.lst s (ra.cut _ _) hp⟩
  · split at e
    · rename_i hz
      cases e
      exact .inr ⟨_, r1.str, hz, k.fz s (.str _)⟩
    · cases e
  · cases e
end DL

/-! MORE of the layer: what is walked, methods of texts, isinstance; and the rules by values -/
namespace L2
open PySem PySem.Spec PyProof.Rows
section
variable {X : Cx} {tg : Expr}

/-! ### enumerate(list) -/
/-! ### join, isinstance -/
theorem strs_of : ∀ {xs : List Str} {us : List Value}, Vals (xs.map V.str) us → ∃ l : List (Str × Tok), us = strValues l ∧ l.map (·.1) = xs
  | [], _, r => by rw [List.map_nil] at r; cases r; exact ⟨[], rfl, rfl⟩
  | x :: xs, _, r => by
    rw [List.map_cons] at r
    cases r with
    | cons h t =>
      obtain ⟨tk, rfl⟩ := h
      obtain ⟨l, e1, e2⟩ := strs_of t
      exact ⟨(x, tk) :: l, by rw [e1]; rfl, by rw [List.map_cons, e2]⟩
noncomputable def rJoin (K : PySem.W.Frag) : V → List V → Hp → VK → Prop := fun x xs H Q => ∃ sep p ys, x = .str sep ∧ xs = [.ref p] ∧ SqL K H p (ys.map V.str) ∧ JoinOk sep ys = true ∧ Q (.str (Txt.join sep ys)) H
theorem mt_join : MtR X "str.join" (rJoin X.K) := by
  intro pins s σ H x xs v us Q I rx rs h
  obtain ⟨sep, p, ys, rfl, rfl, hq, hok, q⟩ := h
  obtain ⟨t, rfl⟩ := rx
  obtain ⟨u, rfl, ru⟩ := vals1 rs
  cases ru
  obtain ⟨its, rv, pl, hz⟩ := I.list hq
  obtain ⟨l, e1, e2⟩ := strs_of rv
  subst e1
  exact SC.join pl.isList e2 hok fun t' k => ⟨.str (Txt.join sep ys), H, I.tok _, ⟨_, rfl⟩, q⟩
inductive TyX (K : PySem.W.Frag) (H : Hp) : V → String → Prop where
  | non : TyX K H .non "NoneType"
  | bl (x : Bool) : TyX K H (.bl x) "bool"
  | int (i : Int) : TyX K H (.int i) "int"
  | str (x : Str) : TyX K H (.str x) "str"
  | lst {a : Addr} {xs : List V} (e : SqL K H a xs) : TyX K H (.ref a) "list"
  | tup {a : Addr} {xs : List V} (e : SqT K H a xs) : TyX K H (.ref a) "tuple"
  | dK {a : Addr} {kvs : List (Key × V)} {ep : Nat} (e : H a = some (.dK kvs ep)) : TyX K H (.ref a) "dict"
  | dT {a : Addr} {kvs : List (List Key × V)} {ep : Nat} {bs : List Addr} (e : H a = some (.dT kvs ep bs)) : TyX K H (.ref a) "dict"
theorem isinst_X {pins : List (Addr × Obj)} {σ : L2.St} {H : Hp} {s : Shared} {A : Around} {E : Value → Shared → Prop} {Q : Value → Shared → Prop} {c : Value} {b : Bool} {x : V} {u : Value} {T : String} (I : Inv X pins σ H s) (rx : RelV x u) (ty : TyX X.K H x T) (e : PySem.W.kitOne X.K (.type T) c = some b) (h : ∀ tk, Q (.bool b) { s with toks := tk }) :
    wpAny (model X.prog X.w) A (call (.builtin "isinstance") [u, c]) Q E s := by
  cases ty with
  | non => cases (show u = Value.none from rx); exact PySem.W.kia_one PySem.W.kitx_none I.kIn True.intro e (fun z => nomatch z) h
  | bl y => cases (show u = Value.bool y from rx); exact PySem.W.kia_one PySem.W.kitx_bool I.kIn True.intro e (fun z => nomatch z) h
  | int i => obtain ⟨t, q⟩ := (show ∃ t, u = Value.int i t from rx); cases q; exact PySem.W.kia_one PySem.W.kitx_int I.kIn True.intro e (fun z => nomatch z) h
  | str y => obtain ⟨t, q⟩ := (show ∃ t, u = Value.str y t from rx); cases q; exact PySem.W.kia_one PySem.W.kitx_str I.kIn True.intro e (fun z => nomatch z) h
  | @lst a xs ea =>
    cases (show u = Value.ref a from rx)
    obtain ⟨its, _, pl, _⟩ := I.list ea
    obtain ⟨o, h1, h2, _⟩ := pl.isList
    exact PySem.W.kia_one PySem.W.kitx_list I.kIn ⟨o, h1, h2⟩ e (fun z => nomatch z) h
  | @tup a xs ea =>
    cases (show u = Value.ref a from rx)
    obtain ⟨its, _, pl, _⟩ := I.tuple ea
    obtain ⟨o, h1, h2, _⟩ := pl
    exact PySem.W.kia_one PySem.W.kitx_tuple I.kIn ⟨o, h1, h2⟩ e (fun z => nomatch z) h
  | @dK a kvs ep ea =>
    cases (show u = Value.ref a from rx)
    obtain ⟨_, _, vs, _, p⟩ := (show ObjOk X.prog X.w H s.heap a (.dK kvs ep) from I.hok a _ ea)
    obtain ⟨o, es, h1, h2, _⟩ := p
    exact PySem.W.kia_one PySem.W.kitx_dict I.kIn ⟨o, h1, h2.1⟩ e (fun z => nomatch z) h
  | @dT a kvs ep bs ea =>
    cases (show u = Value.ref a from rx)
    obtain ⟨_, _, xs, _, o, es, h1, h2, _⟩ := (show ObjOk X.prog X.w H s.heap a (.dT kvs ep bs) from I.hok a _ ea)
    exact PySem.W.kia_one PySem.W.kitx_dict I.kIn ⟨o, h1, h2.1⟩ e (fun z => nomatch z) h
noncomputable def rIsI (K : PySem.W.Frag) (c : String) : List V → Hp → VK → Prop := fun xs H Q => ∃ x t b, xs = [x, .ty c] ∧ TyX K H x t ∧ PySem.W.kitOne K (.type t) (.type c) = some b ∧ Q (.bl b) H
theorem call_isi {c : String} : CallR X (.builtin "isinstance") (rIsI X.K c) := by
  intro pins s σ H xs us Q I r h
  obtain ⟨x, t, b, rfl, ty, e, q⟩ := h
  obtain ⟨u, w', rfl, r1, r2⟩ := vals2 r
  cases r2
  exact isinst_X I r1 ty e fun tk => ⟨.bl b, H, I.tok _, rfl, q⟩
end
end L2

namespace DL
open PySem PySem.Spec PyProof.Rows L2
variable {K : PySem.W.Frag}

/-! ### enumerate -/
noncomputable def enumL (xs : List D) : List D := xs.zipIdx.map fun p => .tup [.int (p.2 : Nat), p.1]
section
variable {Z : Ent K} {H : Hp} {σ : L2.St} {Q : VK}
@[simp] noncomputable def enumI (fd : FD) : FD := fun δ => (fd δ).bind fun p => match p.1 with
  | [.lst xs] => some (enumL xs, p.2)
  | _ => none
/-! ### o.m(..) of a builtin -/
@[simp] noncomputable def D.ty : D → String
  | .str _ => "str"
  | .int _ => "int"
  | .lst _ => "list"
  | .dK _ _ => "dict"
  | .dT _ _ => "dict"
  | _ => "?"
@[simp] noncomputable def tyOk (T : String) (d : D) : Bool := T == d.ty && (T == "str" || T == "list" || T == "dict")
theorem ty_ok {F H : Hp} {d : D} {x : V} {T : String} (le : Same F H) (r : RepN K F H d x) (h : tyOk T d = true) : tyV K T x H := by
  unfold tyOk at h
  simp only [Bool.and_eq_true, beq_iff_eq] at h
  obtain ⟨h1, h2⟩ := h
  subst h1
  cases d with
  | str y => rw [r.str]; rfl
  | lst xs =>
    obtain ⟨a, vs, e, ha, _⟩ := r.lst le
    subst e
    exact .inl ⟨rfl, vs, ha⟩
  | dK ks vs =>
    obtain ⟨a, kvs, e, ⟨ep, ha⟩, _⟩ := r.dK le
    subst e
    exact .inr (.inr (.inl ⟨rfl, .inl ⟨kvs, ep, ha⟩⟩))
  | dT ks vs =>
    obtain ⟨a, kvs, e, ⟨ep, bs, ha⟩, _⟩ := r.dT le
    subst e
    exact .inr (.inr (.inl ⟨rfl, .inr ⟨kvs, ep, bs, ha⟩⟩))
  | non => exact absurd (show ("?" == "str" || "?" == "list" || "?" == "dict") = true from h2) (by decide)
  | bl b => exact absurd (show ("?" == "str" || "?" == "list" || "?" == "dict") = true from h2) (by decide)
  | int i => exact absurd (show ("int" == "str" || "int" == "list" || "int" == "dict") = true from h2) (by decide)
  | tup xs => exact absurd (show ("?" == "str" || "?" == "list" || "?" == "dict") = true from h2) (by decide)
  | exc C ks vs => exact absurd (show ("?" == "str" || "?" == "list" || "?" == "dict") = true from h2) (by decide)
@[simp] noncomputable def bmF (T : String) (g : List D → Option SV) (fo : FE) (fa : FA) : FE := fun δ => (fo δ).bind fun p => (rdv p.1 p.2).bind fun d0 => if tyOk T d0 = true then (fa p.2).bind fun q => (readAll (p.1 :: q.1) q.2).bind fun ds => (g ds).bind fun sv => some (.tmp sv, q.2) else none
noncomputable def PrimM (Z : Ent K) (r : V → List V → Hp → VK → Prop) (g : List D → Option SV) : Prop := PrimN Z (fun vs H Q => ∃ x xs, vs = x :: xs ∧ r x xs H Q) g
theorem l_bm {T : String} {r : V → List V → Hp → VK → Prop} {g : List D → Option SV} {fo : FE} {fa : FA} (hg : PrimM Z r g) (h : liftE Z (bmF T g fo fa) σ H Q) : tBM K T r (liftE Z fo) (liftA Z fa) σ H Q := by
  obtain ⟨F, δ, own, rv, δ', s, e, k⟩ := h
  obtain ⟨⟨rv1, δ1⟩, e1, e⟩ := Option.bind_eq_some_iff.mp e
  obtain ⟨d0, e2, e⟩ := Option.bind_eq_some_iff.mp e
  dsimp only at e
  split at e
  · rename_i ht
    obtain ⟨⟨rvs, δ2⟩, e3, e⟩ := Option.bind_eq_some_iff.mp e
    obtain ⟨ds, e4, e⟩ := Option.bind_eq_some_iff.mp e
    obtain ⟨sv, e5, e⟩ := Option.bind_eq_some_iff.mp e
    cases e
    refine ⟨F, δ, own, rv1, δ1, s, e1, fun v H1 F1 own1 sH1 sF1 s1 r1 => ?_⟩
    obtain ⟨F1', sF1', s1', r1'⟩ := s1.settleR r1
    refine ⟨ty_ok s1'.le (s1'.rd r1' e2) ht, F1', δ1, own1, rvs, δ2, s1', e3, fun vs H2 F2 own2 sH2 sF2 s2 r2 => ?_⟩
    obtain ⟨x, xs, ex, q⟩ := hg F2 H2 σ δ2 own2 (v :: vs) ds sv Q s2 (s2.rdAll (.cons (r1'.mono sF2) r2) e4) e5 fun q H4 F4 ns sH4 sF4 s4 t4 =>
      k q H4 F4 own2 (sH1.trans (sH2.trans sH4)) (sF1.trans (sF1'.trans (sF2.trans sF4))) s4 ⟨ns, t4⟩
    injection ex with ex1 ex2
    subst ex1 ex2
    exact q
  · cases e
end
/-! ### join -/
@[simp] noncomputable def strs? : List D → Option (List Str)
  | [] => some []
  | .str x :: r => (strs? r).bind fun t => some (x :: t)
  | _ => none
theorem strs_ok {F : Hp} : ∀ {ds : List D} {xs : List Str} {vs : List V}, strs? ds = some xs → Reps K F ds vs → vs = xs.map V.str
  | [], _, _, e, r => by cases e; cases r; rfl
  | d :: r, xs, vs, e, q => by
    cases q with
    | cons h t =>
      unfold strs? at e
      split at e
      · rename_i e0; cases e0
      · rename_i x r' e0
        cases e0
        obtain ⟨ys, e1, e2⟩ := Option.bind_eq_some_iff.mp e
        cases e2
        cases h
        rw [strs_ok e1 t]; rfl
      · cases e
variable {Z : Ent K}
/-! ### isinstance(e, T) -/
@[simp] noncomputable def D.pyTy : D → String
  | .non => "NoneType"
  | .bl _ => "bool"
  | .int _ => "int"
  | .str _ => "str"
  | .tup _ => "tuple"
  | .lst _ => "list"
  | .dK _ _ => "dict"
  | .dT _ _ => "dict"
  | .exc _ _ _ => "?"
@[simp] noncomputable def D.isExc : D → Bool
  | .exc _ _ _ => true
  | _ => false
theorem tyOf_ok {F H : Hp} {d : D} {x : V} (le : Same F H) (r : RepN K F H d x) (hx : d.isExc = false) : TyX K H x d.pyTy := by
  cases d with
  | exc C ks vs => cases hx
  | non => rw [r.non]; exact .non
  | bl b => rw [r.bl]; exact .bl b
  | int i => rw [r.int]; exact .int i
  | str y => rw [r.str]; exact .str y
  | tup xs => obtain ⟨a, vs, e, ha, _⟩ := r.tup le; subst e; exact .tup ha
  | lst xs =>
    obtain ⟨a, vs, e, ha, _⟩ := r.lst le
    subst e
    exact .lst ha
  | dK ks vs => obtain ⟨a, kvs, e, ⟨ep, ha⟩, _⟩ := r.dK le; subst e; exact .dK ha
  | dT ks vs => obtain ⟨a, kvs, e, ⟨ep, bs, ha⟩, _⟩ := r.dT le; subst e; exact .dT ha
@[simp] noncomputable def isiD (c : String) (d : D) : Option SV := if d.isExc = true then none else some (.fz (.bl (d.pyTy == c || (c == "int" && d.pyTy == "bool"))))
theorem p_isi {c : String} (hk : ∀ d : D, d.isExc = false → PySem.W.kitOne K (.type d.pyTy) (.type c) = some (d.pyTy == c || (c == "int" && d.pyTy == "bool"))) : Prim1 Z (fun x H Q => rIsI K c [x, .ty c] H Q) (isiD c) := by
  intro F H σ δ own x d sv Q s r e k
  unfold isiD at e
  split at e
  · cases e
  · rename_i hx
    cases e
    have hx' : d.isExc = false := by cases z : d.isExc with
      | true => exact absurd z hx
      | false => rfl
    exact ⟨x, _, _, rfl, tyOf_ok s.le r hx', hk d hx', k.fz s (.bl _)⟩
/-! ### len, list(x), tuple(x) -/
@[simp] noncomputable def lenD : List D → Option SV
  | [.lst xs] => some (.fz (.int (xs.length : Nat)))
  | [.tup xs] => some (.fz (.int (xs.length : Nat)))
  | [.str x] => if x.length ≤ PySem.sizeLine then some (.fz (.int (x.length : Nat))) else none
  | _ => none
theorem p_len : PrimN Z (fun xs H Q => (∃ p ys, xs = [V.ref p] ∧ (SqL K H p ys ∨ SqT K H p ys) ∧ Q (.int ys.length) H) ∨ (∃ z, xs = [V.str z] ∧ z.length ≤ PySem.sizeLine ∧ Q (.int z.length) H)) lenD := by
  intro F H σ δ own vs ds sv Q s r e k
  unfold lenD at e
  split at e
  · cases e
    cases r with
    | cons h t =>
      cases t
      obtain ⟨a, us, ex, ha, ra⟩ := h.lst s.le
      subst ex
      exact .inl ⟨a, us, rfl, .inl ha, by rw [← ra.length]; exact k.fz s (.int _)⟩
  · cases e
    cases r with
    | cons h t =>
      cases t
      obtain ⟨a, us, ex, ha, ra⟩ := h.tup s.le
      subst ex
      exact .inl ⟨a, us, rfl, .inr ha, by rw [← ra.length]; exact k.fz s (.int _)⟩
  · split at e
    · rename_i hz
      cases e
      cases r with
      | cons h t =>
        cases t
        exact .inr ⟨_, by rw [h.str], hz, k.fz s (.int _)⟩
    · cases e
  · cases e
@[simp] noncomputable def tupleD : List D → Option SV
  | [.lst xs] => some (.fz (.tup xs))
  | _ => none
theorem p_tuple : PrimN Z (fun xs H Q => ∃ p ys, xs = [V.ref p] ∧ ((SqL K H p ys ∧ ∀ l, H l = none → Q (.ref l) (upd H l (.tup ys))) ∨ (SqT K H p ys ∧ Q (.ref p) H))) tupleD := by
  intro F H σ δ own vs ds sv Q s r e k
  unfold tupleD at e
  split at e
  · cases e
    cases r with
    | cons h t =>
      cases t
      obtain ⟨a, us, ex, ha, ra⟩ := h.lst s.le
      subst ex
      exact ⟨a, us, rfl, .inl ⟨ha, fun l hl => k.tup s ra hl⟩⟩
  · cases e
@[simp] noncomputable def intD : List D → Option SV
  | [.int i] => some (.fz (.int i))
  | [.bl b] => some (.fz (.int (if b then 1 else 0)))
  | _ => none
theorem p_int : PrimN Z (fun xs H Q => (∃ i, xs = [V.int i] ∧ Q (.int i) H) ∨ ∃ k, xs = [V.bl k] ∧ Q (.int (if k then 1 else 0)) H) intD := by
  intro F H σ δ own vs ds sv Q s r e k
  unfold intD at e
  split at e
  · cases e
    cases r with
    | cons h t => cases t; exact .inl ⟨_, by rw [h.int], k.fz s (.int _)⟩
  · cases e
    cases r with
    | cons h t => cases t; exact .inr ⟨_, by rw [h.bl], k.fz s (.int _)⟩
  · cases e

/-! ## THE RULES BY VALUES -/
section
variable {X : Cx} {Z : Ent X.K} {a b c : Expr} {fa fb fc : FE} {pos : Pos}
theorem e_var (i : Nat) {x : Str} {pos : Pos} (hN : X.N[i]? = some x := by rfl) (hv : Vis X.env.scope x := by first | exact Or.inl rfl | exact Or.inr (Or.inl rfl) | exact Or.inr (Or.inr rfl)) (hd : (x == ("__debug__" : Str)) = false := by decide)
    (hcd : (x == ("__classdict__" : Str)) = false := by decide) : PE X (.Name x pos) (liftE Z (nameF i)) := (pe_var hN hv hd hcd).imp fun _ _ _ h => l_var h
theorem e_int {i : Int} {j : Nat} : PE X (.Constant (.int i) j pos) (liftE Z (constF (.int i))) := pe_int.imp fun _ _ _ h => l_const (fun _ => .int _) h
theorem e_bl {i : Bool} {j : Nat} : PE X (.Constant (.bool i) j pos) (liftE Z (constF (.bl i))) := pe_bl.imp fun _ _ _ h => l_const (fun _ => .bl _) h
theorem e_non {j : Nat} : PE X (.Constant .none j pos) (liftE Z (constF .non)) := pe_non.imp fun _ _ _ h => l_const (fun _ => .non) h
theorem e_str {i : Str} {j : Nat} : PE X (.Constant (.str i) j pos) (liftE Z (constF (.str i))) := pe_str.imp fun _ _ _ h => l_const (fun _ => .str _) h
theorem e_globS {x : Str} {y : Str} {t : Tok} (hm : X.mg x = some (.str y t)) (hg : Gl X x := by rfl) (hd : (x == ("__debug__" : Str)) = false := by decide) : PE X (.Name x pos) (liftE Z (constF (.str y))) :=
  (pe_glob (v := .str y) hg hm ⟨t, rfl⟩ hd).imp fun _ _ _ h => l_const (fun _ => .str _) h
theorem e_globI {x : Str} {y : Int} {t : Tok} (hm : X.mg x = some (.int y t)) (hg : Gl X x := by rfl) (hd : (x == ("__debug__" : Str)) = false := by decide) : PE X (.Name x pos) (liftE Z (constF (.int y))) :=
  (pe_glob (v := .int y) hg hm ⟨t, rfl⟩ hd).imp fun _ _ _ h => l_const (fun _ => .int _) h
theorem e_bin {op : Operator} {r : R2} {g : D → D → Option SV} (ho : OpR X (binaryOp op) r) (hp : Prim2 Z r g) (ha : PE X a (liftE Z fa)) (hb : PE X b (liftE Z fb)) : PE X (.BinOp a op b pos) (liftE Z (binF g fa fb)) := (pe_op ho ha hb).imp fun _ _ _ h => l_bin hp h
theorem e_add (ha : PE X a (liftE Z fa)) (hb : PE X b (liftE Z fb)) : PE X (.BinOp a .Add b pos) (liftE Z (binF addD fa fb)) := e_bin op_add3 p_add ha hb
theorem e_fdiv (ha : PE X a (liftE Z fa)) (hb : PE X b (liftE Z fb)) : PE X (.BinOp a .FloorDiv b pos) (liftE Z (binF fdivD fa fb)) := e_bin op_fdiv p_fdiv ha hb
theorem e_mod (ha : PE X a (liftE Z fa)) (hb : PE X b (liftE Z fb)) : PE X (.BinOp a .Mod b pos) (liftE Z (binF modD fa fb)) := e_bin op_mod p_mod ha hb
theorem e_cmp {op : CmpOp} {r : R2} {g : D → D → Option SV} (ho : OpR X (compareOp op) r) (hp : Prim2 Z r g) (ha : PE X a (liftE Z fa)) (hb : PE X b (liftE Z fb)) (hm : behindInMarks op b = false) : PE X (.Compare a [op] [b] pos) (liftE Z (binF g fa fb)) := (pe_cmpR ho ha hb hm).imp fun _ _ _ h => l_bin hp h
theorem t_cmp {op : CmpOp} {r : R2} {g : D → D → Option SV} (ho : OpR X (compareOp op) r) (hp : Prim2 Z r g) (ha : PE X a (liftE Z fa)) (hb : PE X b (liftE Z fb)) (hm : behindInMarks op b = false) : PT X (.Compare a [op] [b] pos) (liftT Z (testF (binF g fa fb))) :=
  (pt_cmpR ho ha hb hm).imp fun σ H Q h => by
    obtain ⟨F, δ, own, rv, δ', s, e, k⟩ := l_test h
    exact l_bin hp ⟨F, δ, own, rv, δ', s, e, k⟩
theorem e_gt (ha : PE X a (liftE Z fa)) (hb : PE X b (liftE Z fb)) : PE X (.Compare a [.Gt] [b] pos) (liftE Z (binF gtD fa fb)) := e_cmp op_gt p_gt ha hb (nomark _)
theorem t_lt (ha : PE X a (liftE Z fa)) (hb : PE X b (liftE Z fb)) : PT X (.Compare a [.Lt] [b] pos) (liftT Z (testF (binF ltD fa fb))) := t_cmp op_lt p_lt ha hb (nomark _)
theorem t_gt (ha : PE X a (liftE Z fa)) (hb : PE X b (liftE Z fb)) : PT X (.Compare a [.Gt] [b] pos) (liftT Z (testF (binF gtD fa fb))) := t_cmp op_gt p_gt ha hb (nomark _)
theorem w_and1 {f : FT} (ha : PT X a (liftT Z f)) : PW X (.BoolOp .And [a] pos) (liftT Z f) := pw_and1 ha
theorem w_or1 {f : FT} (ha : PT X a (liftT Z f)) : PW X (.BoolOp .Or [a] pos) (liftT Z f) := pw_or1 ha
theorem w_and {f g : FT} {rest : List Expr} (ha : PT X a (liftT Z f)) (hb : PW X (.BoolOp .And (b :: rest) pos) (liftT Z g)) : PW X (.BoolOp .And (a :: b :: rest) pos) (liftT Z (andF f g)) := (pw_and ha hb).imp fun _ _ _ h => l_and h
theorem w_or {f g : FT} {rest : List Expr} (ha : PT X a (liftT Z f)) (hb : PW X (.BoolOp .Or (b :: rest) pos) (liftT Z g)) : PW X (.BoolOp .Or (a :: b :: rest) pos) (liftT Z (orF f g)) := (pw_or ha hb).imp fun _ _ _ h => l_or h
theorem t_not {f : FT} (ha : PT X a (liftT Z f)) : PT X (.UnaryOp .Not a pos) (liftT Z (notF f)) := (pt_not ha).imp fun _ _ _ h => l_not h
theorem t_val (h : PE X a (liftE Z fa)) (he : ∀ whole, isTrue a X.env whole = (do let v ← whole; standAt a.pos; holding [v] (truthy v)) := by intro _; rfl) : PT X a (liftT Z (testF fa)) := (pt_val h he).imp fun _ _ _ h => l_testB h
theorem e_one {op : BoolOp} (h : PE X a (liftE Z fa)) : PE X (.BoolOp op [a] pos) (liftE Z fa) := pe_one h
theorem e_and {rest : List Expr} (ha : PE X a (liftE Z fa)) (hb : PE X (.BoolOp .And (b :: rest) pos) (liftE Z fb)) : PE X (.BoolOp .And (a :: b :: rest) pos) (liftE Z (andV fa fb)) := (pe_and ha hb).imp fun _ _ _ h => l_andV h
theorem e_not (ha : PE X a (liftE Z fa)) : PE X (.UnaryOp .Not a pos) (liftE Z (notV fa)) := (pe_not ha).imp fun _ _ _ h => l_notV h
theorem e_if {t : FT} (hc : PT X c (liftT Z t)) (ha : PE X a (liftE Z fa)) (hb : PE X b (liftE Z fb)) : PE X (.IfExp c a b pos) (liftE Z (ifF t fa fb)) := (pe_ifExp hc ha hb).imp fun _ _ _ h => l_if h
theorem a_nil : PA X [] (liftA Z argNil) := pa_nil.imp fun _ _ _ h => l_argNil h
theorem a_cons {es : List Expr} {fr : FA} (ha : PE X a (liftE Z fa)) (hr : PA X es (liftA Z fr)) (hs : starEach (a :: es) X.env = (false, eval a X.env) :: starEach es X.env := by rfl) : PA X (a :: es) (liftA Z (argCons fa fr)) := (pa_cons ha hr hs).imp fun _ _ _ h => l_argCons h
theorem d_nil : PA X [] (liftD Z dispNil) := pa_nil.imp fun _ _ _ h => l_dispNil h
theorem d_cons {es : List Expr} {fr : FD} (ha : PE X a (liftE Z fa)) (hr : PA X es (liftD Z fr)) (hs : starEach (a :: es) X.env = (false, eval a X.env) :: starEach es X.env := by rfl) : PA X (a :: es) (liftD Z (dispCons fa fr)) := (pa_cons ha hr hs).imp fun _ _ _ h => l_dispCons h
theorem e_tup {es : List Expr} {fd : FD} {k : Nat} (h : PA X es (liftD Z fd)) : PE X (.Tuple es k pos) (liftE Z (tupF fd)) := (pe_tup h).imp fun _ _ _ h => l_tup h
theorem e_lst {es : List Expr} {fd : FD} (h : PA X es (liftD Z fd)) : PE X (.List es pos) (liftE Z (lstF fd)) := (pe_lst h).imp fun _ _ _ h => l_lst h
theorem e_ix (hu : X.A.units + 1 < cLine) (ha : PE X a (liftE Z fa)) (hb : PE X b (liftE Z fb)) (hs : PlainIx b := by intro _ _; rfl) : PE X (.Subscript a b pos) (liftE Z (binF ixD fa fb)) := (pe_ix ix_seq ha hb hs).imp fun _ _ _ h => l_bin p_ix h
theorem o_none : PO X none (liftO Z noPart) := fun pins s σ H Q I h => po_none pins s σ H Q I (l_noPart h)
theorem o_some (ha : PE X a (liftE Z fa)) : PO X (some a) (liftO Z (partF fa)) := fun pins s σ H Q I h => po_some ha pins s σ H Q I (l_part h)
theorem e_sl {lo hi : Option Expr} {fl fh : FO} {p2 : Pos} (ha : PE X a (liftE Z fa)) (hl : PO X lo (liftO Z fl)) (hh : PO X hi (liftO Z fh)) : PE X (.Subscript a (.Slice lo hi none p2) pos) (liftE Z (slF slD fa fl fh)) :=
  (pe_slice (sl_list.or sl_str) ha hl hh).imp fun _ _ _ h => l_sl p_sl h
theorem e_call {k n : Nat} {f : Addr} {fd : FuncData} {ps : List Str} {g : List D → Option SV} {x : Str} {p : Pos} {es : List Expr} {fr : FA} (F : FnOk X.prog X.w X.K X.mg X.base CX0 k f fd ps (spOf X.K n g)) (hr : Room k X.A) (hm : X.mg x = some (.ref f)) (hk : PySem.W.keepIn X.K (.ref f) = true) (hb : Binds X.K fd ps [])
    (ha : PA X (a :: es) (liftA Z fr)) (hg : Gl X x := by rfl) (hdb : (x == ("__debug__" : Str)) = false := by decide) (he : starEach (a :: es) X.env = (false, eval a X.env) :: starEach es X.env := by rfl) (hpl : (backTo pos (starEach es X.env)).any (·.1) = false := by rfl) :
    PE X (.Call (.Name x p) (a :: es) [] pos) (liftE Z (callF n g fr)) := (pe_call F hr hg hm hk hb .nil pass0 ha hdb he hpl).imp fun _ _ _ h => l_call h
theorem e_callB {id : String} {r : List V → Hp → VK → Prop} {g : List D → Option SV} {x : Str} {p : Pos} {es : List Expr} {fr : FA} (hc : CallR X (.builtin id) r) (hp : PrimN Z r g) (hm : X.mg x = none) (hv : bootBuiltins x = some (.builtin id)) (ha : PA X (a :: es) (liftA Z fr)) (hg : Gl X x := by rfl) (hn : x ≠ "__name__" := by decide) (hdb : (x == ("__debug__" : Str)) = false := by decide)
    (he : starEach (a :: es) X.env = (false, eval a X.env) :: starEach es X.env := by rfl) (hpl : (backTo pos (starEach es X.env)).any (·.1) = false := by rfl) : PE X (.Call (.Name x p) (a :: es) [] pos) (liftE Z (primF g fr)) := (pe_callB hc hg hm hv ha hn hdb he hpl).imp fun _ _ _ h => l_prim hp h
theorem e_callT {T : String} {r : List V → Hp → VK → Prop} {g : List D → Option SV} {x : Str} {p : Pos} {es : List Expr} {fr : FA} (hc : CallR X (.type T) r) (hp : PrimN Z r g) (hm : X.mg x = none) (hv : bootBuiltins x = some (.type T)) (ha : PA X (a :: es) (liftA Z fr)) (hg : Gl X x := by rfl) (hn : x ≠ "__name__" := by decide) (hdb : (x == ("__debug__" : Str)) = false := by decide)
    (he : starEach (a :: es) X.env = (false, eval a X.env) :: starEach es X.env := by rfl) (hpl : (backTo pos (starEach es X.env)).any (·.1) = false := by rfl) : PE X (.Call (.Name x p) (a :: es) [] pos) (liftE Z (primF g fr)) := (pe_callTy hc hg hm hv ha hn hdb he hpl).imp fun _ _ _ h => l_prim hp h
theorem e_len {p : Pos} (hm : X.mg "len" = none) (ha : PE X a (liftE Z fa)) (hg : Gl X "len" := by rfl) (he : starEach [a] X.env = (false, eval a X.env) :: starEach [] X.env := by rfl) (hpl : (backTo pos (starEach [] X.env)).any (·.1) = false := by rfl) : PE X (.Call (.Name "len" p) [a] [] pos) (liftE Z (primF lenD (argCons fa argNil))) :=
  e_callB (call_len_seq.or call_len_str) p_len hm PySem.boot_len (a_cons ha a_nil he) hg (by decide) (by decide) he hpl
theorem e_tuple {p : Pos} (hm : X.mg "tuple" = none) (ha : PE X a (liftE Z fa)) (hg : Gl X "tuple" := by rfl) (he : starEach [a] X.env = (false, eval a X.env) :: starEach [] X.env := by rfl) (hpl : (backTo pos (starEach [] X.env)).any (·.1) = false := by rfl) : PE X (.Call (.Name "tuple" p) [a] [] pos) (liftE Z (primF tupleD (argCons fa argNil))) :=
  e_callT call_tuple_of p_tuple hm boot_tuple (a_cons ha a_nil he) hg (by decide) (by decide) he hpl
theorem e_intC {p : Pos} (hm : X.mg "int" = none) (ha : PE X a (liftE Z fa)) (hg : Gl X "int" := by rfl) (he : starEach [a] X.env = (false, eval a X.env) :: starEach [] X.env := by rfl) (hpl : (backTo pos (starEach [] X.env)).any (·.1) = false := by rfl) : PE X (.Call (.Name "int" p) [a] [] pos) (liftE Z (primF intD (argCons fa argNil))) :=
  e_callT call_int1 p_int hm boot_int (a_cons ha a_nil he) hg (by decide) (by decide) he hpl
theorem e_isi {x : Str} {c : String} {p p2 : Pos} (hm : X.mg "isinstance" = none) (hmc : X.mg x = none) (hv : bootBuiltins x = some (.type c)) (hk : ∀ d : D, d.isExc = false → PySem.W.kitOne X.K (.type d.pyTy) (.type c) = some (d.pyTy == c || (c == "int" && d.pyTy == "bool"))) (ha : PE X a (liftE Z fa)) (hg : Gl X "isinstance" := by rfl) (hgc : Gl X x := by rfl)
    (hn : x ≠ "__name__" := by decide) (hdb : (x == ("__debug__" : Str)) = false := by decide)
    (he : starEach [a, .Name x p2] X.env = (false, eval a X.env) :: starEach [.Name x p2] X.env := by rfl) (he2 : starEach [.Name x p2] X.env = (false, eval (.Name x p2) X.env) :: starEach [] X.env := by rfl) (hpl : (backTo pos (starEach [.Name x p2] X.env)).any (·.1) = false := by rfl) :
    PE X (.Call (.Name "isinstance" p) [a, .Name x p2] [] pos) (liftE Z (unF (isiD c) fa)) :=
  (pe_callB call_isi hg hm boot_isinstance (pa_cons ha (pa_cons (pe_bltn (v := .ty c) hgc hmc hv rfl hn hdb) pa_nil he2) he) (by decide) (by decide) he hpl).imp fun σ H Q h => by
    have h2 := l_un (p_isi hk) h
    exact h2

theorem e_chain {op op' : CmpOp} {r r' : R2} {g g' : D → D → Option SV} (ho : OpR X (compareOp op) r) (hp : Prim2 Z r g) (ho' : OpR X (compareOp op') r') (hp' : Prim2 Z r' g') (ha : PE X a (liftE Z fa)) (hb : PE X b (liftE Z fb)) (hc : PE X c (liftE Z fc)) (hm : lastMarks [op, op'] [b, c] = false := by with_unfolding_all rfl) :
    PE X (.Compare a [op, op'] [b, c] pos) (liftE Z (chainF g g' fa fb fc)) := (pe_chain ho ho' ha hb hc hm).imp fun _ _ _ h => l_chain hp hp' h
theorem t_chain {op op' : CmpOp} {r r' : R2} {g g' : D → D → Option SV} (ho : OpR X (compareOp op) r) (hp : Prim2 Z r g) (ho' : OpR X (compareOp op') r') (hp' : Prim2 Z r' g') (ha : PE X a (liftE Z fa)) (hb : PE X b (liftE Z fb)) (hc : PE X c (liftE Z fc)) (hm : lastMarks [op, op'] [b, c] = false := by with_unfolding_all rfl) :
    PT X (.Compare a [op, op'] [b, c] pos) (liftT Z (testF (chainF g g' fa fb fc))) := (pt_chain ho ho' ha hb hc hm).imp fun σ H Q h => by
    obtain ⟨F, δ, own, rv, δ', s, e, k⟩ := l_test h
    exact l_chain hp hp' ⟨F, δ, own, rv, δ', s, e, k⟩
/-! targets, what is walked -/
theorem g_name (i : Nat) {x : Str} (hN : X.N.Nodup) (hi : X.N[i]? = some x := by rfl) (hx : Loc X.env.scope x := by first | exact Or.inl rfl | exact Or.inr rfl) (hf : X.fn x = true ∨ X.env.scope.names.lookup x = some .local := by first | exact .inl rfl | exact .inr rfl) : PG X (.Name x pos) (liftG Z (gNameF i)) := (pg_name hN hi hx hf).imp fun _ _ _ _ h => l_gName h
theorem gs_nil : PGs X [] (liftGs Z gNilF) := pgs_nil.imp fun _ _ _ _ h => l_gNil h
theorem gs_cons {es : List Expr} {g : FG} {r : FGs} (h1 : PG X a (liftG Z g)) (h2 : PGs X es (liftGs Z r)) (hs : (assignEach (a :: es) X.env).map (·.2) = assign a X.env :: (assignEach es X.env).map (·.2) := by rfl) : PGs X (a :: es) (liftGs Z (gConsF g r)) := (pgs_cons h1 h2 hs).imp fun _ _ _ _ h => l_gCons h
theorem g_tup {es : List Expr} {k n : Nat} {g : FGs} (hc : X.calm = true) (h : PGs X es (liftGs Z g)) (hn : (assignEach es X.env).length = n := by rfl) (hst : (assignEach es X.env).findIdx? (·.1) = none := by rfl) : PG X (.Tuple es k pos) (liftG Z (gTupF n g)) := (pg_tup hc h hn hst).imp fun _ _ _ _ h => l_gTup h
theorem i_rng {tg : Expr} {p : Pos} (hm : X.mg "range" = none) (ha : PE X a (liftE Z fa)) (hg : Gl X "range" := by rfl) (hs : starEach [a] X.env = [(false, eval a X.env)] := by rfl) : PI X tg (.Call (.Name "range" p) [a] [] pos) (liftI Z (rngI (argCons fa argNil))) := (pi_range1 hg hm (a_cons ha a_nil hs) hs).imp fun _ _ _ h => l_rngI h

/-! comprehensions -/
theorem compScope {N' : List Str} {scope : Scope} {src : List BSrc} (kind : scope.kind = .function) (nocell : (scope.names.all fun y => !(y.2 == .cell)) = true) (names : (scope.names.all fun y => !(y.2 == .local) || (scope.names.lookup y.1 == some .local)) = true)
    (free : (scope.names.all fun y => !(y.2 == .free) || (X.env.kindOf y.1 == some .cell) || (X.env.kindOf y.1 == some .free)) = true) (len : src.length = N'.length)
    (cap : ((List.range src.length).all fun k => match src[k]?, N'[k]? with
      | some (.cap j), some x => (X.N[j]? == some x) && ((X.env.kindOf x == some .cell) || (X.env.kindOf x == some .free)) && (scope.names.lookup x == some .free)
      | some .acc, some x => scope.names.lookup x == none
      | _, _ => true) = true) : CompScope X N' scope src := by
  have capk : ∀ (k : Nat) (q : BSrc) (x : Str), src[k]? = some q → N'[k]? = some x → (match some q, some x with
      | some (.cap j), some x => (X.N[j]? == some x) && ((X.env.kindOf x == some .cell) || (X.env.kindOf x == some .free)) && (scope.names.lookup x == some .free)
      | some .acc, some x => scope.names.lookup x == none
      | _, _ => true) = true := fun k q x h1 h2 => by
    have hk : k < src.length := (List.getElem?_eq_some_iff.mp h1).1
    have := List.all_eq_true.mp cap k (List.mem_range.mpr hk)
    rw [h1, h2] at this
    exact this
  refine ⟨kind, fun y hy e => ?_, fun y hy e => ?_, fun y hy e => ?_, len, fun k j x h1 h2 => ?_, fun k x h1 h2 => ?_⟩
  · have := List.all_eq_true.mp nocell y hy
    rw [e] at this; cases this
  · have := List.all_eq_true.mp names y hy
    rw [e] at this
    simpa using this
  · have := List.all_eq_true.mp free y hy
    rw [e] at this
    simpa using this
  · have := capk k (.cap j) x h1 h2
    simp only [Bool.and_eq_true, Bool.or_eq_true, beq_iff_eq] at this
    exact ⟨this.1.1, this.1.2, this.2⟩
  · have := capk k .acc x h1 h2
    simpa using this
theorem srcOk {src : List BSrc} (k : Nat) (acc : src[k]? = some .acc) (uni : ((List.range src.length).all fun i => match src[i]? with
      | some .acc => i == k
      | _ => true) = true) : SrcOk src k := ⟨acc, fun i h => by
    have hi : i < src.length := (List.getElem?_eq_some_iff.mp h).1
    have := List.all_eq_true.mp uni i (List.mem_range.mpr hi)
    rw [h] at this
    simpa using this⟩
theorem kit_str (K : PySem.W.Frag) : ∀ d : D, d.isExc = false → PySem.W.kitOne K (.type d.pyTy) (.type "str") = some (d.pyTy == "str" || ("str" == "int" && d.pyTy == "bool")) := by intro d h; cases d <;> first | (cases h; done) | with_unfolding_all rfl
theorem kit_list (K : PySem.W.Frag) : ∀ d : D, d.isExc = false → PySem.W.kitOne K (.type d.pyTy) (.type "list") = some (d.pyTy == "list" || ("list" == "int" && d.pyTy == "bool")) := by intro d h; cases d <;> first | (cases h; done) | with_unfolding_all rfl
theorem xg {tg : Expr} {g : FG} (h : ∀ Z : Ent X.K, PG X tg (liftG Z g)) : PG X tg (xG X.K g) := fun pins s σ H v u Q I r ⟨Z, q⟩ => h Z pins s σ H v u Q I r q
theorem xe {e : Expr} {f : FE} (h : ∀ Z : Ent X.K, PE X e (liftE Z f)) : PE X e (xE X.K f) := fun pins s σ H Q I ⟨Z, q⟩ => h Z pins s σ H Q I q
theorem xt0 : PTs X [] (xT X.K trueT) := fun pins s σ H Q I ⟨Z, q⟩ => by
  obtain ⟨F, δ, own, b, δ', sr, e, k⟩ := q
  cases e
  exact pts_nil pins s σ H Q I (k H F own (Same.refl H) (Same.refl F) sr)
theorem e_comp {N' : List Str} {scope : Scope} {src : List BSrc} {k : Nat} {tg elt iter : Expr} {ifs : List Expr} {fi : FD} {g : FG} {tt : FT} {te : FE} (hc : X.calm = true) (S : CompScope X N' scope src) (So : SrcOk src k) (hk : k ∉ g.tch) (hi : PI X tg iter (liftI Z fi))
    (hg : ∀ (C : Addr) (s₀ : Shared) (H₀ : Hp) (ex : List Addr), PG (X.block N' scope C s₀ H₀ ex) tg (xG X.K g)) (ht : ∀ (C : Addr) (s₀ : Shared) (H₀ : Hp) (ex : List Addr), PTs (X.block N' scope C s₀ H₀ ex) ifs (xT X.K tt)) (he : ∀ (C : Addr) (s₀ : Shared) (H₀ : Hp) (ex : List Addr), PE (X.block N' scope C s₀ H₀ ex) elt (xE X.K te))
    (hs : ∀ x, foldedSetIterable iter X.env x = pure x := by intro _; rfl) : PE X (.ListComp elt [⟨tg, iter, ifs, 0⟩] scope pos) (liftE Z (compF src k fi g tt te)) := (pe_comp hc S hi hg ht he hs).imp fun _ _ _ h => l_comp So hk h

/-! statements -/
theorem ss_nil : PSs X [] (liftS Z nextF) := pss_nil.imp fun _ _ _ h => l_next h
theorem ss_cons {st : Stmt} {rest : List Stmt} {f g : FS} (h1 : PS X st (liftS Z f)) (h2 : PSs X rest (liftS Z g)) : PSs X (st :: rest) (liftS Z (seqF f g)) := (pss_cons h1 h2).imp fun _ _ _ h => l_seq h
theorem ss_one {st : Stmt} {f : FS} (h : PS X st (liftS Z f)) : PSs X [st] (liftS Z f) := pss_one h
theorem s_ret (h : PE X a (liftE Z fa)) : PS X (.Return (some a) pos) (liftS Z (retF fa)) := (ps_ret h).imp fun _ _ _ h => l_ret h
theorem s_if {t : FT} {f g : FS} {bt be : List Stmt} (hc : PT X c (liftT Z t)) (ha : PSs X bt (liftS Z f)) (hb : PSs X be (liftS Z g)) : PS X (.If c bt be pos) (liftS Z (ifS t f g)) := (ps_if hc ha hb).imp fun _ _ _ h => l_ifS h
theorem s_set (i : Nat) {x : Str} {pos' : Pos} (hN : X.N.Nodup) (he : PE X a (liftE Z fa)) (hi : X.N[i]? = some x := by rfl) (hx : Loc X.env.scope x := by first | exact Or.inl rfl | exact Or.inr rfl) (hs : swapsWith a (some (.Name x pos')) pos.line X.env = pure false := by rfl) (hf : X.fn x = true ∨ X.env.scope.names.lookup x = some .local := by first | exact .inl rfl | exact .inr rfl) :
    PS X (.Assign [.Name x pos'] a pos) (liftS Z (setF i fa)) := (ps_set hN hi hx he hs hf).imp fun _ _ _ h => l_set h
theorem s_unpack {tg : Expr} {g : FG} (he : PE X a (liftE Z fa)) (hg : PG X tg (liftG Z g)) (hs : swapsWithSole [tg] a pos.line X.env = pure false := by rfl) (hw : swappedStores [tg] a X.env = pure none := by rfl) (h1 : (assignEach [tg] X.env).map (·.2) = [assign tg X.env] := by rfl) :
    PS X (.Assign [tg] a pos) (liftS Z (unpackF g fa)) := (ps_asg he hg hs hw h1).imp fun _ _ _ h => l_unpack h
theorem s_for {tg iter : Expr} {body : List Stmt} {fi : FD} {g : FG} {f : FS} (hp : PassesOwn (model X.prog X.w) X.A X.env X.xe) (hc : X.calm = true) (hi : PI X tg iter (liftI Z fi)) (hg : PG X tg (liftG Z g)) (hb : PSs X body (liftS Z f)) (hs : ∀ x, foldedSetIterable iter X.env x = pure x := by intro _; rfl) :
    PS X (.For tg iter body [] pos) (liftS Z (forF fi g f)) := (ps_for hp hc hi hg hb hs).imp fun _ _ _ h => l_for h
theorem s_app (i : Nat) {x : Str} {px apos cpos : Pos} (hb : PE X b (liftE Z fb)) (hN : X.N[i]? = some x := by rfl) (hv : Vis X.env.scope x := by first | exact Or.inl rfl | exact Or.inr (Or.inl rfl) | exact Or.inr (Or.inr rfl)) (hd : (x == ("__debug__" : Str)) = false := by decide)
    (hcd : (x == ("__classdict__" : Str)) = false := by decide) (hbase : attributeBase (.Name x px) "append" X.env (eval (.Name x px) X.env) = eval (.Name x px) X.env := by rfl)
    (hfew : ((backTo cpos (starEach [b] X.env)).all (fun x => !x.1) && (backToKw cpos (keywordEach [] X.env)).all (fun x => x.1.isSome) && decide ([b].length + ([] : List Keyword).length + (if ([] : List Keyword).isEmpty then 0 else 1) < 30)) = true := by rfl)
    (hline : (apos.endLine == cpos.line) = true := by rfl) (hs : starEach [b] X.env = (false, eval b X.env) :: starEach [] X.env := by rfl) (hpl : (backTo cpos (starEach [] X.env)).any (·.1) = false := by rfl) (hsw : swapsWith (.Call (.Attribute (.Name x px) "append" apos) [b] [] cpos) none pos.line X.env = pure false := by rfl) :
    PS X (.Expr (.Call (.Attribute (.Name x px) "append" apos) [b] [] cpos) pos) (liftS Z (appF i fb)) :=
  (ps_expr (pe_bm PySem.F.plainAttrs_list PySem.F.slot_list_append PySem.F.type_list_append mt_append (pe_var (i := i) hN hv hd hcd) (pa_cons hb pa_nil hs) hbase hfew hline hs hpl) hsw).imp fun _ _ _ h => l_app h
end

/-! ### a def, by its body -/
@[simp] noncomputable def outOf (f : FS) (n : Nat) (ds : List D) : Option SV := match f (startD n ds) with
  | some (.rt sv) => some sv
  | some (.nx _) => some (.fz .non)
  | _ => none
theorem body_out {N : List Str} {n : Nat} {f : FS} {vs : List V} {H : Hp} {Q : VK} {E : XK} (h : spOf K n (outOf f N.length) vs H Q E) : ∃ F, liftS (ent H F : Ent K) f { nx := fun _ H' => Q .non H', rt := Q } (L2.start N vs) H := by
  obtain ⟨F, ds, sv, le, r, hn, e, k⟩ := h
  unfold outOf at e
  split at e
  · rename_i sw hf
    cases e
    exact ⟨F, F, _, _, .rt sv, sr_start (N := N) le r, hf, fun v H' F' ns a b c d e' nd ok => k v H' F' ns d a b c e' nd ok⟩
  · rename_i δ hf
    cases e
    exact ⟨F, F, _, _, .nx δ, sr_start (N := N) le r, hf, fun σ' H' F' own' a s' => k .non H' F' [] s'.old a s'.le s'.fro (.fz .non) List.nodup_nil fun _ h => (nomatch h)⟩
  · cases e
theorem ints_rep {F : Hp} : ∀ ns : List Int, Reps K F (ns.map D.int) (ns.map V.int)
  | [] => .nil
  | n :: r => .cons (.int n) (ints_rep r)
end DL

namespace DL
open PySem PySem.Spec PyProof.Rows L2
variable {K : PySem.W.Frag}
/-! ### == of lists and tuples, however deep -/
@[simp] noncomputable def eqAll (f : D → D → Option Bool) : List D → List D → Option Bool
  | x :: xs, y :: ys => (f x y).bind fun b => (eqAll f xs ys).bind fun c => some (b && c)
  | _, _ => some true
@[simp] noncomputable def eqStep (f : D → D → Option Bool) : D → D → Option Bool
  | .lst xs, .lst ys => if xs.length = ys.length then eqAll f xs ys else some false
  | .tup xs, .tup ys => (eqAll f xs ys).bind fun b => some (b && decide (xs.length = ys.length))
  | .lst _, .tup _ => some false
  | .tup _, .lst _ => some false
  | d1, d2 => eqS d1 d2
@[simp] noncomputable def eqN : Nat → D → D → Option Bool
  | 0 => fun _ _ => none
  | n + 1 => eqStep (eqN n)
theorem eqS_flat {F H : Hp} {d1 d2 : D} {x y : V} {b : Bool} (e : eqS d1 d2 = some b) (r1 : RepN K F H d1 x) (r2 : RepN K F H d2 y) : flatV x = true ∧ flatV y = true ∧ b = eqV x y := by
  unfold eqS at e
  split at e <;> cases e <;> (first | obtain rfl := r1.non | obtain rfl := r1.int | obtain rfl := r1.bl | obtain rfl := r1.str) <;> (first | obtain rfl := r2.non | obtain rfl := r2.int | obtain rfl := r2.bl | obtain rfl := r2.str) <;> refine ⟨rfl, rfl, ?_⟩ <;> first | rfl | simp [eqV]
section
variable {X : Cx} {pins : List (Addr × Obj)} {σ : L2.St} {F H : Hp} {s : Shared}
theorem eqV_same {x y : V} {v : Value} (rx : RelV x v) (ry : RelV y v) (fx : flatV x = true) (fy : flatV y = true) : eqV x y = true := by
  cases x with
  | non => cases rx; cases y with
    | non => rfl
    | bl b => cases ry
    | int b => obtain ⟨t, e⟩ := ry; cases e
    | str b => obtain ⟨t, e⟩ := ry; cases e
    | _ => cases fy
  | bl a => cases rx; cases y with
    | non => cases ry
    | bl b => cases ry; simp [eqV]
    | int b => obtain ⟨t, e⟩ := ry; cases e
    | str b => obtain ⟨t, e⟩ := ry; cases e
    | _ => cases fy
  | int a => obtain ⟨t, rfl⟩ := rx; cases y with
    | non => cases ry
    | bl b => cases ry
    | int b => obtain ⟨t, e⟩ := ry; cases e; simp [eqV]
    | str b => obtain ⟨t, e⟩ := ry; cases e
    | _ => cases fy
  | str a => obtain ⟨t, rfl⟩ := rx; cases y with
    | non => cases ry
    | bl b => cases ry
    | int b => obtain ⟨t, e⟩ := ry; cases e
    | str b => obtain ⟨t, e⟩ := ry; cases e; simp [eqV]
    | _ => cases fy
  | _ => cases fx
theorem isList_fun {h : Heap} {a : Addr} {i1 i2 : Array Value} (h1 : h.IsList a i1) (h2 : h.IsList a i2) : i1 = i2 := by
  obtain ⟨o, e1, c1, n1, d1⟩ := h1
  obtain ⟨o2, e2, c2, n2, d2⟩ := h2
  rw [e1] at e2; cases e2
  rw [d1] at d2; cases d2; rfl
theorem isTuple_fun {h : Heap} {a : Addr} {i1 i2 : Array Value} (h1 : h.IsTuple a i1) (h2 : h.IsTuple a i2) : i1 = i2 := by
  obtain ⟨o, e1, c1, n1, d1⟩ := h1
  obtain ⟨o2, e2, c2, n2, d2⟩ := h2
  rw [e1] at e2; cases e2
  rw [d1] at d2; cases d2; rfl
theorem sameAll {f : D → D → Option Bool} (hf : ∀ d1 d2 b x y v, Rep X.K F d1 x → RelV x v → Rep X.K F d2 y → RelV y v → f d1 d2 = some b → b = true) : ∀ {xs ys : List D} {vs ws : List V} {us : List Value} {b : Bool}, Reps X.K F xs vs → Vals vs us → Reps X.K F ys ws → Vals ws us → eqAll f xs ys = some b → b = true
  | _, _, _, _, _, _, .nil, .nil, .nil, .nil, e => by cases e; rfl
  | _, _, _, _, _, _, .cons r1 t1, .cons v1 w1, .cons r2 t2, .cons v2 w2, e => by
    obtain ⟨b, e1, e2⟩ := Option.bind_eq_some_iff.mp e
    obtain ⟨c, e3, e4⟩ := Option.bind_eq_some_iff.mp e2
    cases e4
    rw [hf _ _ _ _ _ _ r1 v1 r2 v2 e1, sameAll hf t1 w1 t2 w2 e3]; rfl
theorem same_step (I : Inv X pins σ H s) (le : Same F H) {f : D → D → Option Bool} (ih : ∀ (d1 d2 : D) (b : Bool) (x y : V) (v : Value), Rep X.K F d1 x → RelV x v → Rep X.K F d2 y → RelV y v → f d1 d2 = some b → b = true) (d1 d2 : D) (b : Bool) (x y : V) (v : Value) (r1 : Rep X.K F d1 x) (v1 : RelV x v) (r2 : Rep X.K F d2 y) (v2 : RelV y v) (e : eqStep f d1 d2 = some b) : b = true := by
    unfold eqStep at e
    split at e
    · rename_i xs ys
      cases r1 with
      | lst q1 p1 =>
      cases r2 with
      | lst q2 p2 =>
      cases v1; cases v2
      obtain ⟨i1, w1, l1, _⟩ := I.list (sqL_mono le q1)
      obtain ⟨i2, w2, l2, _⟩ := I.list (sqL_mono le q2)
      have z := isList_fun l1.isList l2.isList
      have z : i1 = i2 := by simpa using z
      subst z
      split at e
      · exact sameAll (ih) p1 w1 p2 w2 e
      · rename_i hl
        have h1 := w1.length
        have h2 := w2.length
        have h3 := p1.length
        have h4 := p2.length
        exact absurd (by omega) hl
    · rename_i xs ys
      cases r1 with
      | tup q1 p1 =>
      cases r2 with
      | tup q2 p2 =>
      cases v1; cases v2
      obtain ⟨i1, w1, l1, _⟩ := I.tuple (sqT_mono le (tupSq q1))
      obtain ⟨i2, w2, l2, _⟩ := I.tuple (sqT_mono le (tupSq q2))
      have z := isTuple_fun l1 l2
      have z : i1 = i2 := by simpa using z
      subst z
      obtain ⟨c, e1, e2⟩ := Option.bind_eq_some_iff.mp e
      cases e2
      have h1 := w1.length
      have h2 := w2.length
      have h3 := p1.length
      have h4 := p2.length
      rw [sameAll (ih) p1 w1 p2 w2 e1, decide_eq_true (by omega)]; rfl
    · cases r1 with
      | lst q1 p1 =>
      cases r2 with
      | tup q2 p2 =>
      cases v1; cases v2
      obtain ⟨i1, w1, l1, _⟩ := I.list (sqL_mono le q1)
      obtain ⟨i2, w2, l2, _⟩ := I.tuple (sqT_mono le (tupSq q2))
      exact absurd rfl (SeqAt.ne_of_list_tuple (s := s) l1.isList l2)
    · cases r1 with
      | tup q1 p1 =>
      cases r2 with
      | lst q2 p2 =>
      cases v1; cases v2
      obtain ⟨i1, w1, l1, _⟩ := I.tuple (sqT_mono le (tupSq q1))
      obtain ⟨i2, w2, l2, _⟩ := I.list (sqL_mono le q2)
      exact absurd rfl (SeqAt.ne_of_list_tuple (s := s) l2.isList l1)
    · obtain ⟨f1, f2, rfl⟩ := eqS_flat (H := H) e (RepN.of r1) (RepN.of r2)
      exact eqV_same v1 v2 f1 f2
theorem eqN_same (I : Inv X pins σ H s) (le : Same F H) : ∀ (n : Nat) (d1 d2 : D) (b : Bool) (x y : V) (v : Value), Rep X.K F d1 x → RelV x v → Rep X.K F d2 y → RelV y v → eqN n d1 d2 = some b → b = true
  | 0, _, _, _, _, _, _, _, _, _, _, e => by cases e
  | n + 1, d1, d2, b, x, y, v, r1, v1, r2, v2, e => same_step I le (eqN_same I le n) d1 d2 b x y v r1 v1 r2 v2 e
theorem eqAll_at {A : Around} {f : D → D → Option Bool} (hf : ∀ d1 d2 b x y v u, Rep X.K F d1 x → RelV x v → Rep X.K F d2 y → RelV y u → f d1 d2 = some b → SeqAt.EqAt A s v u b) : ∀ {xs ys : List D} {vs ws : List V} {us zs : List Value} {b : Bool}, Reps X.K F xs vs → Vals vs us → Reps X.K F ys ws → Vals ws zs → eqAll f xs ys = some b →
    ∃ e : Nat → Bool, (∀ j (h1 : j < us.length) (h2 : j < zs.length), SeqAt.EqAt A s us[j] zs[j] (e j)) ∧ (List.range (min us.length zs.length)).all e = b
  | _, _, _, _, _, _, _, .nil, .nil, _, _, e => by cases e; exact ⟨fun _ => true, fun j h1 => absurd h1 (Nat.not_lt_zero _), by simp⟩
  | _, _, _, _, _, _, _, .cons r1 t1, .cons v1 w1, .nil, .nil, e => by cases e; exact ⟨fun _ => true, fun j _ h2 => absurd h2 (Nat.not_lt_zero _), by simp⟩
  | _, _, _, _, _, _, _, .cons r1 t1, .cons v1 w1, .cons r2 t2, .cons v2 w2, e => by
    obtain ⟨b, e1, e2⟩ := Option.bind_eq_some_iff.mp e
    obtain ⟨c, e3, e4⟩ := Option.bind_eq_some_iff.mp e2
    cases e4
    obtain ⟨g, g1, g2⟩ := eqAll_at hf t1 w1 t2 w2 e3
    refine ⟨fun | 0 => b | j + 1 => g j, fun j h1 h2 => ?_, ?_⟩
    · cases j with
      | zero => exact hf _ _ _ _ _ _ _ r1 v1 r2 v2 e1
      | succ j => exact g1 j (Nat.lt_of_succ_lt_succ h1) (Nat.lt_of_succ_lt_succ h2)
    · rw [List.length_cons, List.length_cons, Nat.succ_min_succ, List.range_succ_eq_map, List.all_cons, List.all_map, ← g2]
      rfl
theorem rcN (I : Inv X pins σ H s) (le : Same F H) {A : Around} {f : D → D → Option Bool} {d1 d2 : D} {b : Bool} {x y : V} {v u : Value}
    (ih : ∀ d1 d2 b x y v u, Rep X.K F d1 x → RelV x v → Rep X.K F d2 y → RelV y u → f d1 d2 = some b → SeqAt.EqAt A.in1 s v u b) (r1 : RepN X.K F H d1 x) (v1 : RelV x v) (r2 : RepN X.K F H d2 y) (v2 : RelV y u)
    (e : eqStep f d1 d2 = some b) (hu : A.units < cLine) (hr : flatV x = false ∨ flatV y = false) : (∃ a c, v = .ref a ∧ u = .ref c) ∧ SeqAt.RcAt A s v u b ∧ SeqAt.RcNeAt A s v u (!b) := by
  unfold eqStep at e
  split at e
  · obtain ⟨a1, vs1, rfl, q1, p1⟩ := r1.lst le
    obtain ⟨a2, vs2, rfl, q2, p2⟩ := r2.lst le
    cases v1; cases v2
    obtain ⟨i1, w1, l1, _⟩ := I.list q1
    obtain ⟨i2, w2, l2, _⟩ := I.list q2
    have h1 := w1.length
    have h2 := w2.length
    have h3 := p1.length
    have h4 := p2.length
    refine ⟨⟨_, _, rfl, rfl⟩, ?_⟩
    split at e
    · rename_i hl
      obtain ⟨g, g1, g2⟩ := eqAll_at ih p1 w1 p2 w2 e
      have hm : min i1.length i2.length = i1.toArray.size := by simp; omega
      rw [hm] at g2
      subst g2
      have hz : i1.toArray.size = i2.toArray.size := by simp; omega
      exact ⟨SeqAt.RcAt.lists l1.isList l2.isList hz hu (fun j j1 j2 => by simpa using g1 j (by simpa using j1) (by simpa using j2)), SeqAt.RcNeAt.lists l1.isList l2.isList hz hu (fun j j1 j2 => by simpa using g1 j (by simpa using j1) (by simpa using j2))⟩
    · rename_i hl
      cases e
      have hz : (i1.toArray.size != i2.toArray.size) = true := by simp; omega
      exact ⟨SeqAt.RcAt.lists_lengths l1.isList l2.isList hz hu, SeqAt.RcNeAt.lists_lengths l1.isList l2.isList hz hu⟩
  · rename_i xs ys
    obtain ⟨a1, vs1, rfl, q1, p1⟩ := r1.tup le
    obtain ⟨a2, vs2, rfl, q2, p2⟩ := r2.tup le
    cases v1; cases v2
    obtain ⟨i1, w1, l1, _⟩ := I.tuple q1
    obtain ⟨i2, w2, l2, _⟩ := I.tuple q2
    have h1 := w1.length
    have h2 := w2.length
    have h3 := p1.length
    have h4 := p2.length
    obtain ⟨c, e1, e2⟩ := Option.bind_eq_some_iff.mp e
    cases e2
    refine ⟨⟨_, _, rfl, rfl⟩, ?_⟩
    obtain ⟨g, g1, g2⟩ := eqAll_at ih p1 w1 p2 w2 e1
    subst g2
    have e3 : ((List.range (min i1.length i2.length)).all g && decide (xs.length = ys.length)) = ((List.range (min i1.toArray.size i2.toArray.size)).all g && i1.toArray.size == i2.toArray.size) := by
      have : (i1.toArray.size == i2.toArray.size) = decide (xs.length = ys.length) := by
        rw [List.size_toArray, List.size_toArray, ← h1, ← h2, ← h3, ← h4]; rfl
      rw [this]; simp
    rw [e3]
    exact ⟨SeqAt.RcAt.tuples l1 l2 hu (fun j j1 j2 => by simpa using g1 j (by simpa using j1) (by simpa using j2)), SeqAt.RcNeAt.tuples l1 l2 hu (fun j j1 j2 => by simpa using g1 j (by simpa using j1) (by simpa using j2))⟩
  · obtain ⟨a1, vs1, rfl, q1, p1⟩ := r1.lst le
    obtain ⟨a2, vs2, rfl, q2, p2⟩ := r2.tup le
    cases v1; cases v2
    cases e
    obtain ⟨i1, w1, l1, _⟩ := I.list q1
    obtain ⟨i2, w2, l2, _⟩ := I.tuple q2
    exact ⟨⟨_, _, rfl, rfl⟩, SeqAt.RcAt.list_tuple l1.isList l2 hu, SeqAt.RcNeAt.list_tuple l1.isList l2 hu⟩
  · obtain ⟨a1, vs1, rfl, q1, p1⟩ := r1.tup le
    obtain ⟨a2, vs2, rfl, q2, p2⟩ := r2.lst le
    cases v1; cases v2
    cases e
    obtain ⟨i1, w1, l1, _⟩ := I.tuple q1
    obtain ⟨i2, w2, l2, _⟩ := I.list q2
    exact ⟨⟨_, _, rfl, rfl⟩, SeqAt.RcAt.tuple_list l1 l2.isList hu, SeqAt.RcNeAt.tuple_list l1 l2.isList hu⟩
  · obtain ⟨f1, f2, _⟩ := eqS_flat e r1 r2
    rcases hr with hr | hr
    · rw [f1] at hr; cases hr
    · rw [f2] at hr; cases hr
theorem eqN_at (I : Inv X pins σ H s) (le : Same F H) : ∀ (n : Nat) (A : Around) (d1 d2 : D) (b : Bool) (x y : V) (v u : Value), A.units + n < cLine → Rep X.K F d1 x → RelV x v → Rep X.K F d2 y → RelV y u → eqN n d1 d2 = some b → SeqAt.EqAt A s v u b
  | 0, _, _, _, _, _, _, _, _, _, _, _, _, _, e => by cases e
  | n + 1, A, d1, d2, b, x, y, v, u, hu, r1, v1, r2, v2, e => by
    by_cases hf : flatV x = true ∧ flatV y = true
    · have e' : eqS d1 d2 = some b := by
        unfold eqN eqStep at e
        split at e
        · cases r1; cases hf.1
        · cases r1; cases hf.1
        · cases r1; cases hf.1
        · cases r1; cases hf.1
        · exact e
      obtain ⟨f1, f2, rfl⟩ := eqS_flat (H := H) e' (RepN.of r1) (RepN.of r2)
      exact eqAt_V v1 v2 f1 f2
    · have hf' : flatV x = false ∨ flatV y = false := by
        cases h1 : flatV x with
        | false => exact .inl rfl
        | true => cases h2 : flatV y with
          | false => exact .inr rfl
          | true => exact absurd ⟨h1, h2⟩ hf
      obtain ⟨⟨a, c, rfl, rfl⟩, h1, _⟩ := rcN I le (A := A) (f := eqN n) (fun d1 d2 b x y v u q1 w1 q2 w2 e => eqN_at I le n A.in1 d1 d2 b x y v u (by have : A.in1.units = A.units + 1 := rfl; omega) q1 w1 q2 w2 e) (RepN.of r1) v1 (RepN.of r2) v2 e (by omega) hf'
      by_cases hac : a = c
      · subst hac
        rw [eqN_same I le (n + 1) d1 d2 b x y _ r1 v1 r2 v2 e]
        exact SeqAt.EqAt.same _
      · exact SeqAt.EqAt.of_refs hac h1
noncomputable def rEqN (K : PySem.W.Frag) (neg : Bool) : R2 := fun x y H Q => ∃ F d1 d2 b, Same F H ∧ RepN K F H d1 x ∧ RepN K F H d2 y ∧ eqN 48 d1 d2 = some b ∧ (flatV x = false ∨ flatV y = false) ∧ Q (.bl (if neg then !b else b)) H
theorem op_eqN (hu : X.A.units + 64 < cLine) : OpR X (compareOp .Eq) (rEqN X.K false) := by
  intro pins s σ H x y v u Q I rx ry h
  obtain ⟨F, d1, d2, b, le, r1, r2, e, hf, q⟩ := h
  obtain ⟨_, h1, _⟩ := rcN I le (A := X.A) (f := eqN 47) (fun d1 d2 b x y v u q1 w1 q2 w2 e => eqN_at I le 47 X.A.in1 d1 d2 b x y v u (by have : X.A.in1.units = X.A.units + 1 := rfl; omega) q1 w1 q2 w2 e) r1 rx r2 ry e (by omega) hf
  exact h1 X.prog X.w X.xe _ ⟨.bl b, H, I, rfl, q⟩
theorem op_neN (hu : X.A.units + 64 < cLine) : OpR X (compareOp .NotEq) (rEqN X.K true) := by
  intro pins s σ H x y v u Q I rx ry h
  obtain ⟨F, d1, d2, b, le, r1, r2, e, hf, q⟩ := h
  obtain ⟨_, _, h1⟩ := rcN I le (A := X.A) (f := eqN 47) (fun d1 d2 b x y v u q1 w1 q2 w2 e => eqN_at I le 47 X.A.in1 d1 d2 b x y v u (by have : X.A.in1.units = X.A.units + 1 := rfl; omega) q1 w1 q2 w2 e) r1 rx r2 ry e (by omega) hf
  exact h1 X.prog X.w X.xe _ ⟨.bl !b, H, I, rfl, q⟩
end

@[simp] noncomputable def D.isFlat : D → Bool
  | .non => true | .bl _ => true | .int _ => true | .str _ => true | _ => false
@[simp] noncomputable def eqX (d1 d2 : D) : Option SV := if d1.isFlat = true ∧ d2.isFlat = true then eqD d1 d2 else (eqN 48 d1 d2).bind fun b => some (.fz (.bl b))
@[simp] noncomputable def neX (d1 d2 : D) : Option SV := if d1.isFlat = true ∧ d2.isFlat = true then neD d1 d2 else (eqN 48 d1 d2).bind fun b => some (.fz (.bl !b))
theorem notFlat_ok {F H : Hp} {d : D} {x : V} (r : RepN K F H d x) (h : d.isFlat = false) : flatV x = false := by
  obtain ⟨sv, ns, e, n, sh, hp⟩ := r
  cases sh with
  | fz r => cases e; cases r <;> first | rfl | cases h
  | ol r => rfl
  | oK e' r => rfl
  | oT kb e' r => rfl
  | oN e' r => rfl
section
variable {Z : Ent K}
theorem p_eqX : Prim2 Z (fun x y H Q => rEq x y H Q ∨ rEqN K false x y H Q) eqX := by
  intro F H σ δ own x y d1 d2 sv Q s r1 r2 e k
  unfold eqX at e
  split at e
  · exact .inl (p_eq F H σ δ own x y d1 d2 sv Q s r1 r2 e k)
  · rename_i hf
    obtain ⟨b, e1, e2⟩ := Option.bind_eq_some_iff.mp e
    cases e2
    refine .inr ⟨F, d1, d2, b, s.le, r1, r2, e1, ?_, k.fz s (.bl _)⟩
    cases h1 : d1.isFlat with
    | false => exact .inl (notFlat_ok r1 h1)
    | true => cases h2 : d2.isFlat with
      | false => exact .inr (notFlat_ok r2 h2)
      | true => exact absurd ⟨h1, h2⟩ hf
theorem p_neX : Prim2 Z (fun x y H Q => rNe x y H Q ∨ rEqN K true x y H Q) neX := by
  intro F H σ δ own x y d1 d2 sv Q s r1 r2 e k
  unfold neX at e
  split at e
  · exact .inl (p_ne F H σ δ own x y d1 d2 sv Q s r1 r2 e k)
  · rename_i hf
    obtain ⟨b, e1, e2⟩ := Option.bind_eq_some_iff.mp e
    cases e2
    refine .inr ⟨F, d1, d2, b, s.le, r1, r2, e1, ?_, k.fz s (.bl _)⟩
    cases h1 : d1.isFlat with
    | false => exact .inl (notFlat_ok r1 h1)
    | true => cases h2 : d2.isFlat with
      | false => exact .inr (notFlat_ok r2 h2)
      | true => exact absurd ⟨h1, h2⟩ hf
@[simp] noncomputable def negD : D → Option SV
  | .int i => some (.fz (.int (-i)))
  | _ => none
theorem p_neg : Prim1 Z (rU fun i => .int (-i)) negD := by
  intro F H σ δ own x d sv Q s r e k
  unfold negD at e
  split at e
  · cases e; exact ⟨_, r.int, k.fz s (.int _)⟩
  · cases e
end
section
variable {X : Cx} {Z : Ent X.K} {a b c : Expr} {fa fb fc : FE} {pos : Pos}
theorem e_neg (ha : PE X a (liftE Z fa)) : PE X (.UnaryOp .USub a pos) (liftE Z (unF negD fa)) := (pe_un un_neg ha).imp fun _ _ _ h => l_un p_neg h
theorem t_eqX (hv : X.A.units + 64 < cLine) (ha : PE X a (liftE Z fa)) (hb : PE X b (liftE Z fb)) : PT X (.Compare a [.Eq] [b] pos) (liftT Z (testF (binF eqX fa fb))) := t_cmp (op_eq.or (op_eqN hv)) p_eqX ha hb (nomark _)
theorem t_neX (hv : X.A.units + 64 < cLine) (ha : PE X a (liftE Z fa)) (hb : PE X b (liftE Z fb)) : PT X (.Compare a [.NotEq] [b] pos) (liftT Z (testF (binF neX fa fb))) := t_cmp (op_ne.or (op_neN hv)) p_neX ha hb (nomark _)
end
end DL

/-! TEXTS: walked, cut at a text, cut in three; all(..) -/
namespace L2
open PySem PySem.Spec PyProof.Rows
section
variable {X : Cx} {tg : Expr}
noncomputable def Its (z : Str) : It := ⟨fun i _ => i < z.length, fun i H x H' => H' = H ∧ ∃ c, z.cps[i]? = some c ∧ x = .str ⟨#[c]⟩, fun i _ => z.length ≤ i⟩
theorem turn_text {P : Program} {w : World} {K : PySem.W.Frag} {tg : Expr} (z : Str) (t : Tok) (it : Addr) : Turn P w K tg (Its z) [it] it (fun i h => h.IsStrIter it (strIterType z) z t i) where
  mem := by simp
  obj := fun i h st b hb => by
    have e : b = it := by simpa using hb
    subst e
    obtain ⟨o, e, c, d⟩ := st
    exact ⟨o, e, fun v q => by rw [d] at q; cases q⟩
  keep := fun i h h' st k => by
    obtain ⟨o, e, c, d⟩ := st
    exact ⟨o, k it (by simp) o e, c, d⟩
  item := by
    intro X hP hw hK hc i pins s σ H E I hf st hg
    subst hP hw hK
    obtain ⟨f0, f1, f2, f3, f4, f5⟩ := hf it (by simp)
    have hlt : i < z.cps.size := hg
    have hx : z.cps[i]? = some z.cps[i] := by simp [hlt]
    have fin : ∀ h', h'.IsStrIter it (strIterType z) z t (i + 1) → Heap.SameBut it s.heap h' → ∃ u, some (Value.str ⟨#[z.cps[i]]⟩ s.toks) = some u ∧ wpAny (model X.prog X.w) X.A (letOwnedTupleGo tg (.ref it) u) (fun _ s2 => ∃ x H', Inv X pins σ H' s2 ∧ RelV x u ∧ (Its z).yld i H x H' ∧ s2.heap.IsStrIter it (strIterType z) z t (i + 1) ∧ ∀ b ∈ [it], H' b = none) E { s with heap := h', toks := s.toks + 1 } := fun h' st' sb => by
      have I1 : Inv X pins σ H { s with heap := h', toks := s.toks + 1 } := I.turned (t' := s.toks + 1) (fun b o hb q => (sb.2 b hb).trans q) f0 f1 f3 f4 f5
      obtain ⟨o, e, c, d⟩ := id st'
      have hn : ["enumerate", "zip", "dict_itemiterator", "dict_reverseitemiterator", "odict_iterator", "itertools.zip_longest", "itertools.pairwise"].contains (strIterType z) = false := by
        unfold strIterType
        split <;> decide
      exact ⟨_, rfl, go_of (s := { s with heap := h', toks := s.toks + 1 }) e c d hn ⟨.str ⟨#[z.cps[i]]⟩, H, I1, ⟨_, rfl⟩, ⟨rfl, _, hx, rfl⟩, st', fun b hb => (hf b hb).1⟩⟩
    cases ha : z.cps.all (· < 128) with
    | false =>
      have et : strIterType z = "str_iterator" := by unfold strIterType; rw [ha]; rfl
      rw [et] at st fin
      rw [et]
      exact wpAny_pyNext_wide_item st hx fin
    | true =>
      have et : strIterType z = "str_ascii_iterator" := by unfold strIterType; rw [ha]; rfl
      rw [et] at st fin
      rw [et]
      exact wpAny_pyNext_ascii_item st hx fin
  done := by
    intro X hP hw hK hc i pins s σ H E I hf st hg
    subst hP hw hK
    obtain ⟨f0, f1, f2, f3, f4, f5⟩ := hf it (by simp)
    have hge : z.cps.size ≤ i := hg
    have hx : z.cps[i]? = none := by simp [hge]
    cases ha : z.cps.all (· < 128) with
    | false =>
      have et : strIterType z = "str_iterator" := by unfold strIterType; rw [ha]; rfl
      rw [et] at st
      exact wpAny_pyNext_wide_end (I.ok.hd hc) st hx fun h' eb => ⟨rfl, I.turned (t' := s.toks) (fun b o hb q => eb b o hb q) f0 f1 f3 f4 f5⟩
    | true =>
      have et : strIterType z = "str_ascii_iterator" := by unfold strIterType; rw [ha]; rfl
      rw [et] at st
      exact wpAny_pyNext_ascii_end (I.ok.hd hc) st hx fun h' eb => ⟨rfl, I.turned (t' := s.toks) (fun b o hb q => eb b o hb q) f0 f1 f3 f4 f5⟩
  self := fun _ _ _ _ _ st h => by
    cases ha : z.cps.all (· < 128) with
    | false =>
      have et : strIterType z = "str_iterator" := by unfold strIterType; rw [ha]; rfl
      rw [et] at st
      exact wpAny_pyIter_striter_wide st h
    | true =>
      have et : strIterType z = "str_ascii_iterator" := by unfold strIterType; rw [ha]; rfl
      rw [et] at st
      exact wpAny_pyIter_striter_ascii st h
noncomputable def iAny (K : PySem.W.Frag) (tl : TE) : TI := fun σ H R => tl σ H fun x H1 => (∃ a, x = .ref a ∧ (∃ xs, SqL K H1 a xs) ∧ R (Itl K a) H1) ∨ (∃ a, x = .ref a ∧ (∃ xs, SqT K H1 a xs) ∧ R (Itt K a) H1) ∨ (∃ z, x = .str z ∧ R (Its z) H1)
theorem pi_any {l : Expr} {tl : TE} (hl : PE X l tl) : PI X tg l (iAny X.K tl) := by
  intro pins s σ H R I h
  refine thn (hl pins s σ H _ I h) fun v s1 ⟨x, H1, I1, r1, q1⟩ => ?_
  rcases q1 with ⟨a, e, ⟨xs, hq⟩, q⟩ | ⟨a, e, ⟨xs, hq⟩, q⟩ | ⟨z, e, q⟩
  · subst e
    cases r1
    obtain ⟨its, rv, p, hz⟩ := I1.list hq
    refine wpAny_pyIter_list p.isList ?_
    refine ⟨s1.heap.objs.size, [s1.heap.objs.size], _, _, H1, rfl, I1.kept (t' := s1.toks) fun b o e => Heap.get?_push_of_some _ e, turn_list a _, ⟨_, Heap.get?_push_size _ rfl, rfl, rfl⟩, fun b hb => ?_, q⟩
    have e : b = s1.heap.objs.size := by simpa using hb
    subst e
    exact I1.fpOk (Nat.le_refl _) (I1.hok.fresh (Nat.le_refl _))
  · subst e
    cases r1
    obtain ⟨its, rv, p, hz⟩ := I1.tuple hq
    refine wpAny_pyIter_tuple (show s1.heap.IsTuple a its.toArray from p) ?_
    refine ⟨s1.heap.objs.size, [s1.heap.objs.size], _, _, H1, rfl, I1.kept (t' := s1.toks) fun b o e => Heap.get?_push_of_some _ e, turn_tuple a _, ⟨_, Heap.get?_push_size _ rfl, rfl, rfl⟩, fun b hb => ?_, q⟩
    have e : b = s1.heap.objs.size := by simpa using hb
    subst e
    exact I1.fpOk (Nat.le_refl _) (I1.hok.fresh (Nat.le_refl _))
  · subst e
    obtain ⟨t, rfl⟩ := r1
    refine wpAny_pyIter_strU ?_
    refine ⟨s1.heap.objs.size, [s1.heap.objs.size], _, _, H1, rfl, I1.kept (t' := s1.toks) fun b o e => Heap.get?_push_of_some _ e, turn_text z t _, ⟨_, Heap.get?_push_size _ rfl, rfl, rfl⟩, fun b hb => ?_, q⟩
    have e : b = s1.heap.objs.size := by simpa using hb
    subst e
    exact I1.fpOk (Nat.le_refl _) (I1.hok.fresh (Nat.le_refl _))
/-! ### x.split(y), x.partition(y) -/
theorem vals_strs : ∀ l : List (Str × Tok), Vals ((l.map (·.1)).map V.str) (strValues l)
  | [] => .nil
  | (x, t) :: r => .cons ⟨t, rfl⟩ (vals_strs r)
noncomputable def rSplit : V → List V → Hp → VK → Prop := fun x xs H Q => ∃ a b, x = .str a ∧ xs = [.str b] ∧ (b.length == 0) = false ∧ a.length ≤ sizeLine ∧ (Txt.split a b).length ≤ sizeLine ∧ ∀ p, H p = none → Q (.ref p) (upd H p (.lst ((Txt.split a b).map V.str)))
theorem mt_split : MtR X "str.split" rSplit := by
  intro pins s σ H x xs v us Q I rx rs h
  obtain ⟨a, b, rfl, rfl, hb, ha, hz, q⟩ := h
  obtain ⟨t, rfl⟩ := rx
  obtain ⟨u, rfl, ru⟩ := vals1 rs
  obtain ⟨t', rfl⟩ := ru
  have one : Txt.split a b = [a] → ∀ tk, EP X pins σ Q (.ref s.heap.objs.size) { s with toks := tk, heap := s.heap.push { cls := .type "list", data := .seq #[.str a t] } } := fun e tk => by
    rw [e] at q
    exact ⟨.ref _, _, I.lnew (t' := tk) (ys := [.str a]) (its := [.str a t]) (.cons ⟨t, rfl⟩ .nil) (by show 1 ≤ sizeLine; decide), rfl, q _ I.fresh⟩
  cases h1 : (decide (a.length < b.length) || decide (Builtin.Str.strKind a < Builtin.Str.strKind b))
  · cases hf : (Builtin.Str.occurrences a b 0 a.length (a.length + 1)).isEmpty
    · have e : Txt.split a b = Builtin.Str.partsBetween a (Builtin.Str.occurrences a b 0 a.length (a.length + 1)) b.length := (if_neg (ne_true_of_eq_false h1)).trans (if_neg (ne_true_of_eq_false hf))
      rw [e] at hz q
      refine call_meets F.slot_str_split (typeIs_str _ _ _) F.entry_str_split (F.args_str_split_2 _ _) (meets_str_split_sep a b t t' h1 hb hf ha hz) ?_
      rw [strsFrom_eq]
      have hv := vals_strs (numbered s.toks (Builtin.Str.partsBetween a (Builtin.Str.occurrences a b 0 a.length (a.length + 1)) b.length))
      rw [numbered_texts] at hv
      exact ⟨.ref _, _, I.lnew (t' := _) hv (by rw [List.length_map]; exact hz), rfl, q _ I.fresh⟩
    · exact call_meets F.slot_str_split (typeIs_str _ _ _) F.entry_str_split (F.args_str_split_2 _ _) (meets_str_split_not_found a b t t' h1 hb hf) (one ((if_neg (ne_true_of_eq_false h1)).trans (if_pos hf)) s.toks)
  · exact call_meets F.slot_str_split (typeIs_str _ _ _) F.entry_str_split (F.args_str_split_2 _ _) (meets_str_split_cannot_occur a b t t' h1) (one (if_pos h1) s.toks)
noncomputable def rPart : V → List V → Hp → VK → Prop := fun x xs H Q => ∃ a b, x = .str a ∧ xs = [.str b] ∧ (b.length == 0) = false ∧ a.length ≤ sizeLine ∧ ∀ p, H p = none → Q (.ref p) (upd H p (.tup [.str (Txt.partition a b).1, .str (Txt.partition a b).2.1, .str (Txt.partition a b).2.2]))
theorem Inv.tnew {pins : List (Addr × Obj)} {σ : L2.St} {H : Hp} {s : Shared} {ys : List V} {its : List Value} {t' : Nat} (I : Inv X pins σ H s) (hv : Vals ys its) (hz : ys.length ≤ sizeLine) :
    Inv X pins σ (upd H s.heap.objs.size (.tup ys)) { s with heap := s.heap.push { cls := .type "tuple", data := .seq its.toArray }, toks := t' } :=
  I.laid (fun _ _ q => Heap.get?_push_of_some _ q) (Nat.le_refl _) ⟨hz, its, hv, ⟨_, Heap.get?_push_size _ rfl, rfl, _, rfl⟩⟩
theorem mt_part : MtR X "str.partition" rPart := by
  intro pins s σ H x xs v us Q I rx rs h
  obtain ⟨a, b, rfl, rfl, hb, ha, q⟩ := h
  obtain ⟨t, rfl⟩ := rx
  obtain ⟨u, rfl, ru⟩ := vals1 rs
  obtain ⟨t', rfl⟩ := ru
  refine call_meets F.slot_str_partition (typeIs_str _ _ _) F.entry_str_partition (F.args_str_partition_2 _ _) (meets_str_partition a b t t' hb ha) ?_
  unfold Txt.partition at q
  cases e : Builtin.Str.occurrences a b 0 a.length 1 with
  | nil =>
    rw [e] at q
    exact ⟨.ref _, _, I.tnew (t' := s.toks + 1) (ys := [.str a, .str Str.empty, .str Str.empty]) (its := [.str a t, .str Str.empty s.toks, .str Str.empty s.toks]) (.cons ⟨_, rfl⟩ (.cons ⟨_, rfl⟩ (.cons ⟨_, rfl⟩ .nil))) (by show 3 ≤ sizeLine; decide), rfl, q _ I.fresh⟩
  | cons i r =>
    rw [e] at q
    exact ⟨.ref _, _, I.tnew (t' := s.toks + 1 + 1) (ys := [.str (Builtin.Str.strSub a 0 i), .str b, .str (Builtin.Str.strSub a (i + b.length) a.length)]) (its := [.str (Builtin.Str.strSub a 0 i) s.toks, .str b t',   .str (Builtin.Str.strSub a (i + b.length) a.length) (s.toks + 1)]) (.cons ⟨_, rfl⟩ (.cons ⟨_, rfl⟩ (.cons ⟨_, rfl⟩ .nil))) (by show 3 ≤ sizeLine; decide), rfl, q _ I.fresh⟩
/-! ### all(a list of bools) -/
noncomputable def rAll (K : PySem.W.Frag) : List V → Hp → VK → Prop := fun xs H Q => ∃ (p : Addr) (bs : List Bool), xs = [.ref p] ∧ SqL K H p (bs.map V.bl) ∧ Q (.bl (bs.all id)) H
theorem bools_of : ∀ {bs : List Bool} {us : List Value}, Vals (bs.map V.bl) us → us = bs.map Value.bool
  | [], _, r => by rw [List.map_nil] at r; cases r; rfl
  | b :: bs, _, r => by
    rw [List.map_cons] at r
    cases r with
    | cons h t =>
      cases (show _ = Value.bool b from h)
      rw [bools_of t]; rfl
theorem range_all : ∀ bs : List Bool, (List.range bs.length).all (fun i => (bs[i]?).getD true) = bs.all id
  | [] => rfl
  | b :: bs => by
    rw [List.length_cons, List.range_succ_eq_map, List.all_cons, List.all_map, List.all_cons, ← range_all bs]
    rfl
theorem call_all (hc : X.calm = true) : CallR X (.builtin "all") (rAll X.K) := by
  intro pins s σ H xs us Q I rs h
  obtain ⟨p, bs, rfl, hq, q⟩ := h
  obtain ⟨u, rfl, ru⟩ := vals1 rs
  cases ru
  obtain ⟨its, rv, pl, hz⟩ := I.list hq
  have e := bools_of rv
  subst e
  refine call_all_walk (wpAny_pyIter_list pl.isList ?_)
  have hne : p ≠ s.heap.objs.size := fun z => by
    obtain ⟨o, ho, _⟩ := pl.isList
    have := Heap.lt_size ho
    rw [z] at this; exact Nat.lt_irrefl _ this
  refine ⟨s.heap.objs.size, _, _, _, _, _, fun i => (bs[i]?).getD true, rfl, Walks.list (by first | exact I.ok.hd hc | (rw [show X.A.in1.handled = X.A.handled from rfl]; exact I.ok.hd hc)) _ p hne (bs.map Value.bool).toArray, ⟨⟨_, Heap.get?_push_size _ rfl, rfl, rfl⟩, pl.isList.at fun o e => Heap.get?_push_of_some _ e⟩, ?_, fun h' tk hk => ?_⟩
  · intro i v s' Q' E' hP hQ
    have hP' : (bs.map Value.bool)[i]? = some v := by simpa using hP
    rw [List.getElem?_map] at hP'
    cases hb : bs[i]? with
    | none => rw [hb] at hP'; cases hP'
    | some b =>
      rw [hb] at hP'
      cases hP'
      dsimp only at hQ
      rw [hb] at hQ
      exact wpAny_truthy_bool hQ
  · have e : (List.range (bs.map Value.bool).toArray.size).all (fun i => (bs[i]?).getD true) = bs.all id := by
      rw [List.size_toArray, List.length_map]; exact range_all bs
    rw [e]
    refine ⟨.bl _, H, I.kept (t' := tk) fun b o hb => hk b o (fun z => ?_) (Heap.get?_push_of_some _ hb), rfl, q⟩
    have z' : b = s.heap.objs.size := by simpa using z
    have := Heap.lt_size hb
    rw [z'] at this; exact Nat.lt_irrefl _ this
end
end L2

namespace DL
open PySem PySem.Spec PyProof.Rows L2
variable {K : PySem.W.Frag}
/-! ### what is walked: a list, a tuple, a text -/
noncomputable def signs (z : Str) : List D := z.cps.toList.map fun c => .str ⟨#[c]⟩
theorem yields_text {z : Str} {F : Hp} : Yields K (Its z) F (signs z) := fun F' H sF sH i => by
  have hl : (signs z).length = z.length := by unfold signs; rw [List.length_map]; rfl
  refine ⟨fun d hd => ?_, fun h => by rw [hl] at h; exact h⟩
  have hi : i < z.length := by
    have := (List.getElem?_eq_some_iff.mp hd).1
    rw [hl] at this; exact this
  refine ⟨hi, fun x H' ⟨e1, c, e2, e3⟩ => ?_⟩
  subst e1 e3
  unfold signs at hd
  rw [List.getElem?_map] at hd
  have e4 : z.cps.toList[i]? = some c := by simpa using e2
  rw [e4] at hd
  cases hd
  exact ⟨Same.refl _, [], List.nodup_nil, fun _ h => (nomatch h), .str _⟩
section
variable {Z : Ent K} {H : Hp} {σ : L2.St} {Q : VK} {E : Ends}
@[simp] noncomputable def anyI (fe : FE) : FD := fun δ => (fe δ).bind fun p => (frz p.1 p.2).bind fun q => match q.1 with
  | .lst xs => some (xs, q.2)
  | .tup xs => some (xs, q.2)
  | .str z => some (signs z, q.2)
  | _ => none
theorem l_anyI {fe : FE} {R : It → Hp → Prop} (h : liftI Z (anyI fe) σ H R) : iAny K (liftE Z fe) σ H R := by
  obtain ⟨F, δ, own, ds, δ', s, e, k⟩ := h
  obtain ⟨⟨rv, δ1⟩, e1, e2⟩ := Option.bind_eq_some_iff.mp e
  obtain ⟨⟨d, δ2⟩, e3, e4⟩ := Option.bind_eq_some_iff.mp e2
  refine ⟨F, δ, own, rv, δ1, s, e1, fun v H1 F1 own1 sH sF s1 r1 => ?_⟩
  obtain ⟨F2, sF2, s2, r2⟩ := s1.settleR r1
  obtain ⟨F3, own3, sF3, s3, r3⟩ := s2.frzR r2 e3
  dsimp only at e4
  split at e4
  · cases e4
    cases r3 with
    | lst h r => exact .inl ⟨_, rfl, ⟨_, sqL_mono s3.le h⟩, k _ H1 F3 own3 sH (sF.trans (sF2.trans sF3)) s3 (yields_list h r)⟩
  · cases e4
    cases r3 with
    | tup h r => exact .inr (.inl ⟨_, rfl, ⟨_, sqT_mono s3.le (tupSq h)⟩, k _ H1 F3 own3 sH (sF.trans (sF2.trans sF3)) s3 (yields_tup (tupSq h) r)⟩)
  · cases e4
    cases r3 with
    | str x => exact .inr (.inr ⟨_, rfl, k _ H1 F3 own3 sH (sF.trans (sF2.trans sF3)) s3 yields_text⟩)
  · cases e4
/-! ### in -/
@[simp] noncomputable def inS (i j : Str) : Bool := !(Builtin.Str.occurrences j i 0 j.length 1).isEmpty
@[simp] noncomputable def inD : D → D → Option SV
  | .str i, .str j => some (.fz (.bl (inS i j)))
  | _, _ => none
@[simp] noncomputable def notinD : D → D → Option SV
  | .str i, .str j => some (.fz (.bl (!inS i j)))
  | _, _ => none
theorem p_in : Prim2 Z (fun x y H Q => ∃ i j, x = .str i ∧ y = .str j ∧ Q (.bl (!(Builtin.Str.occurrences j i 0 j.length 1).isEmpty)) H) inD := by
  intro F H σ δ own x y d1 d2 sv Q s r1 r2 e k
  unfold inD at e
  split at e
  · cases e; exact ⟨_, _, r1.str, r2.str, k.fz s (.bl _)⟩
  · cases e
theorem p_notin : Prim2 Z (fun x y H Q => ∃ i j, x = .str i ∧ y = .str j ∧ Q (.bl (!(!(Builtin.Str.occurrences j i 0 j.length 1).isEmpty))) H) notinD := by
  intro F H σ δ own x y d1 d2 sv Q s r1 r2 e k
  unfold notinD at e
  split at e
  · cases e; exact ⟨_, _, r1.str, r2.str, k.fz s (.bl _)⟩
  · cases e
/-! ### split, partition, all -/
@[simp] noncomputable def splitD : List D → Option SV
  | [.str a, .str b] => if (b.length == 0) = false ∧ a.length ≤ PySem.sizeLine ∧ (Txt.split a b).length ≤ PySem.sizeLine then some (.ol ((Txt.split a b).map D.str)) else none
  | _ => none
theorem strs_reps {F : Hp} : ∀ xs : List Str, Reps K F (xs.map D.str) (xs.map V.str)
  | [] => .nil
  | x :: r => .cons (.str x) (strs_reps r)
theorem p_split : PrimM Z rSplit splitD := by
  intro F H σ δ own vs ds sv Q s r e k
  unfold splitD at e
  split at e
  · rename_i a b
    split at e
    · rename_i h
      cases e
      cases r with
      | cons h1 t => cases t with
        | cons h2 t => cases t; exact ⟨_, _, rfl, a, b, h1.str, by rw [h2.str], h.1, h.2.1, h.2.2, fun p hp => k.lst s (strs_reps _) hp⟩
    · cases e
  · cases e
@[simp] noncomputable def partitionD : List D → Option SV
  | [.str a, .str b] => if (b.length == 0) = false ∧ a.length ≤ PySem.sizeLine then some (.fz (.tup [.str (Txt.partition a b).1, .str (Txt.partition a b).2.1, .str (Txt.partition a b).2.2])) else none
  | _ => none
theorem p_partition : PrimM Z rPart partitionD := by
  intro F H σ δ own vs ds sv Q s r e k
  unfold partitionD at e
  split at e
  · rename_i a b
    split at e
    · rename_i h
      cases e
      cases r with
      | cons h1 t => cases t with
        | cons h2 t => cases t; exact ⟨_, _, rfl, a, b, h1.str, by rw [h2.str], h.1, h.2, fun p hp => k.tup s (.cons (.str _) (.cons (.str _) (.cons (.str _) .nil))) hp⟩
    · cases e
  · cases e
@[simp] noncomputable def bools? : List D → Option (List Bool)
  | [] => some []
  | .bl x :: r => (bools? r).bind fun t => some (x :: t)
  | _ => none
theorem bools_ok {F : Hp} : ∀ {ds : List D} {xs : List Bool} {vs : List V}, bools? ds = some xs → Reps K F ds vs → vs = xs.map V.bl
  | [], _, _, e, r => by cases e; cases r; rfl
  | d :: ds, _, _, e, r => by
    cases r with
    | cons h t =>
      unfold bools? at e
      split at e
      · rename_i e0; cases e0
      · rename_i x r0 e0
        cases e0
        obtain ⟨ys, e1, e2⟩ := Option.bind_eq_some_iff.mp e
        cases e2
        cases h
        rw [bools_ok e1 t]; rfl
      · cases e
@[simp] noncomputable def allD : List D → Option SV
  | [.lst xs] => (bools? xs).bind fun bs => some (.fz (.bl (bs.all id)))
  | _ => none
theorem p_all : PrimN Z (rAll K) allD := by
  intro F H σ δ own vs ds sv Q s r e k
  unfold allD at e
  split at e
  · obtain ⟨bs, e1, e2⟩ := Option.bind_eq_some_iff.mp e
    cases e2
    cases r with
    | cons h1 t =>
      cases t
      obtain ⟨a, vs, rfl, ha, ra⟩ := h1.lst s.le
      rw [bools_ok e1 ra] at ha
      exact ⟨a, bs, rfl, ha, k.fz s (.bl _)⟩
  · cases e
/-! x.clear() -/
end
/-! ## the rules -/
section
variable {X : Cx} {Z : Ent X.K} {a b c : Expr} {fa fb fc : FE} {pos : Pos} {tg : Expr}
theorem i_any (ha : PE X a (liftE Z fa)) : PI X tg a (liftI Z (anyI fa)) := fun pins s σ H R I h => pi_any ha pins s σ H R I (l_anyI h)
theorem e_split {apos cpos : Pos} (ha : PE X a (liftE Z fa)) (hb : PE X b (liftE Z fb)) (hbase : attributeBase a "split" X.env (eval a X.env) = eval a X.env := by rfl)
    (hfew : ((backTo cpos (starEach [b] X.env)).all (fun x => !x.1) && (backToKw cpos (keywordEach [] X.env)).all (fun x => x.1.isSome) && decide ([b].length + ([] : List Keyword).length + (if ([] : List Keyword).isEmpty then 0 else 1) < 30)) = true := by rfl)
    (hline : (apos.endLine == cpos.line) = true := by rfl) (hs : starEach [b] X.env = (false, eval b X.env) :: starEach [] X.env := by rfl) (hpl : (backTo cpos (starEach [] X.env)).any (·.1) = false := by rfl) :
    PE X (.Call (.Attribute a "split" apos) [b] [] cpos) (liftE Z (bmF "str" splitD fa (argCons fb argNil))) :=
  (pe_bm PySem.F.plainAttrs_str PySem.F.slot_str_split PySem.F.type_str_split mt_split ha (a_cons hb a_nil hs) hbase hfew hline hs hpl).imp fun _ _ _ h => l_bm p_split h
theorem e_partition {apos cpos : Pos} (ha : PE X a (liftE Z fa)) (hb : PE X b (liftE Z fb)) (hbase : attributeBase a "partition" X.env (eval a X.env) = eval a X.env := by rfl)
    (hfew : ((backTo cpos (starEach [b] X.env)).all (fun x => !x.1) && (backToKw cpos (keywordEach [] X.env)).all (fun x => x.1.isSome) && decide ([b].length + ([] : List Keyword).length + (if ([] : List Keyword).isEmpty then 0 else 1) < 30)) = true := by rfl)
    (hline : (apos.endLine == cpos.line) = true := by rfl) (hs : starEach [b] X.env = (false, eval b X.env) :: starEach [] X.env := by rfl) (hpl : (backTo cpos (starEach [] X.env)).any (·.1) = false := by rfl) :
    PE X (.Call (.Attribute a "partition" apos) [b] [] cpos) (liftE Z (bmF "str" partitionD fa (argCons fb argNil))) :=
  (pe_bm PySem.F.plainAttrs_str PySem.F.slot_str_partition PySem.F.type_str_partition mt_part ha (a_cons hb a_nil hs) hbase hfew hline hs hpl).imp fun _ _ _ h => l_bm p_partition h
theorem e_all {p : Pos} (hm : X.mg "all" = none) (ha : PE X a (liftE Z fa)) (hc : X.calm = true := by rfl) (hg : Gl X "all" := by rfl) (he : starEach [a] X.env = (false, eval a X.env) :: starEach [] X.env := by rfl) (hpl : (backTo pos (starEach [] X.env)).any (·.1) = false := by rfl) : PE X (.Call (.Name "all" p) [a] [] pos) (liftE Z (primF allD (argCons fa argNil))) :=
  e_callB (call_all hc) p_all hm boot_all (a_cons ha a_nil he) hg (by decide) (by decide) he hpl
end
end DL

/-! enumerate(a tuple) -/
namespace L2
open PySem PySem.Spec PyProof.Rows
open AutoSeq1 (wpAny_loadPart')
section
variable {prog : Program} {w : World} {A : Around} {E : Value → Shared → Prop} {s : Shared}
end
section
variable {X : Cx} {tg : Expr}
end
end L2
namespace DL
open PySem PySem.Spec PyProof.Rows L2
variable {K : PySem.W.Frag}
section
variable {Z : Ent K} {H : Hp} {σ : L2.St} {Q : VK}
end
section
variable {X : Cx} {Z : Ent X.K} {a : Expr} {fa : FE} {pos : Pos}
end
end DL

/-! join of a list or a tuple -/
namespace L2
open PySem PySem.Spec PyProof.Rows
variable {X : Cx}
noncomputable def rJoinX (K : PySem.W.Frag) : V → List V → Hp → VK → Prop := fun x xs H Q => ∃ sep p ys, x = .str sep ∧ xs = [.ref p] ∧ (SqL K H p (ys.map V.str) ∨ SqT K H p (ys.map V.str)) ∧ JoinOk sep ys = true ∧ Q (.str (Txt.join sep ys)) H
theorem mt_joinX : MtR X "str.join" (rJoinX X.K) := by
  intro pins s σ H x xs v us Q I rx rs h
  obtain ⟨sep, p, ys, rfl, rfl, hq, hok, q⟩ := h
  rcases hq with hq | hq
  · exact mt_join pins s σ H _ _ v us Q I rx rs ⟨sep, p, ys, rfl, rfl, hq, hok, q⟩
  · obtain ⟨t, rfl⟩ := rx
    obtain ⟨u, rfl, ru⟩ := vals1 rs
    cases ru
    obtain ⟨its, rv, pl, hz⟩ := I.tuple hq
    obtain ⟨l, e1, e2⟩ := strs_of rv
    subst e1 e2
    have hok' := hok
    unfold JoinOk at hok'
    rw [Bool.not_eq_true'] at hok'
    obtain ⟨o, ho, hc, n, hd⟩ := (show s.heap.IsTuple p (strValues l).toArray from pl)
    exact call_meets F.slot_str_join (typeIs_str _ _ _) F.entry_str_join (F.args_str_join_2 _ _) (meets_str_join_tuple sep t p l hok') ⟨⟨o, n, ho, hc, hd⟩, post_join l ⟨joinFit_length hok', fun t' k => ⟨.str (Txt.join sep (l.map (·.1))), H, I.tok _, ⟨_, rfl⟩, q⟩⟩⟩
end L2
namespace DL
open PySem PySem.Spec PyProof.Rows L2
variable {K : PySem.W.Frag}
@[simp] noncomputable def joinXD : List D → Option SV
  | [.str sep, .lst xs] => (strs? xs).bind fun ys => if JoinOk sep ys = true then some (.fz (.str (Txt.join sep ys))) else none
  | [.str sep, .tup xs] => (strs? xs).bind fun ys => if JoinOk sep ys = true then some (.fz (.str (Txt.join sep ys))) else none
  | _ => none
theorem p_joinX {Z : Ent K} : PrimM Z (rJoinX K) joinXD := by
  intro F H σ δ own vs ds sv Q s r e k
  unfold joinXD at e
  split at e
  · obtain ⟨ys, e1, e2⟩ := Option.bind_eq_some_iff.mp e
    split at e2
    · rename_i hok
      cases e2
      cases r with
      | cons h1 t1 =>
        cases t1 with
        | cons h2 t2 =>
          cases t2
          obtain ⟨a, us, ex, ha, ra⟩ := h2.lst s.le
          rw [strs_ok e1 ra] at ha
          exact ⟨_, _, rfl, _, a, ys, h1.str, by rw [ex], .inl ha, hok, k.fz s (.str _)⟩
    · cases e2
  · obtain ⟨ys, e1, e2⟩ := Option.bind_eq_some_iff.mp e
    split at e2
    · rename_i hok
      cases e2
      cases r with
      | cons h1 t1 =>
        cases t1 with
        | cons h2 t2 =>
          cases t2
          obtain ⟨a, us, ex, ha, ra⟩ := h2.tup s.le
          rw [strs_ok e1 ra] at ha
          exact ⟨_, _, rfl, _, a, ys, h1.str, by rw [ex], .inr ha, hok, k.fz s (.str _)⟩
    · cases e2
  · cases e
section
variable {X : Cx} {Z : Ent X.K} {a b : Expr} {fa fb : FE}
theorem e_joinX {apos cpos : Pos} (ha : PE X a (liftE Z fa)) (hb : PE X b (liftE Z fb)) (hbase : attributeBase a "join" X.env (eval a X.env) = eval a X.env := by rfl)
    (hfew : ((backTo cpos (starEach [b] X.env)).all (fun x => !x.1) && (backToKw cpos (keywordEach [] X.env)).all (fun x => x.1.isSome) && decide ([b].length + ([] : List Keyword).length + (if ([] : List Keyword).isEmpty then 0 else 1) < 30)) = true := by rfl)
    (hline : (apos.endLine == cpos.line) = true := by rfl) (hs : starEach [b] X.env = (false, eval b X.env) :: starEach [] X.env := by rfl) (hpl : (backTo cpos (starEach [] X.env)).any (·.1) = false := by rfl) :
    PE X (.Call (.Attribute a "join" apos) [b] [] cpos) (liftE Z (bmF "str" joinXD fa (argCons fb argNil))) :=
  (pe_bm PySem.F.plainAttrs_str PySem.F.slot_str_join PySem.F.type_str_join mt_joinX ha (a_cons hb a_nil hs) hbase hfew hline hs hpl).imp fun _ _ _ h => l_bm p_joinX h
end
end DL

/-! DICTS: looked up, asked, got, made, put -/
namespace L2
open PySem PySem.Spec PyProof.Rows
variable {X : Cx}
end L2
namespace DL
open PySem PySem.Spec PyProof.Rows L2
variable {K : PySem.W.Frag}
@[simp] noncomputable def D.key? : D → Option Key
  | .int i => some (.inl i)
  | .str x => some (.inr x)
  | _ => none
@[simp] noncomputable def keys? : List D → Option (List Key)
  | [] => some []
  | d :: r => d.key?.bind fun k => (keys? r).bind fun t => some (k :: t)
section
variable {κ : Type} [DecidableEq κ]
@[simp] noncomputable def look (ks : List κ) (vs : List D) (k : κ) : Option D := match ks, vs with
  | a :: ks, v :: vs => if a = k then some v else look ks vs k
  | _, _ => none
@[simp] noncomputable def putA (ks : List κ) (vs : List D) (k : κ) (v : D) : List κ × List D :=
  if k ∈ ks then (ks, (ks.zip vs).map fun p => if p.1 = k then v else p.2) else (ks ++ [k], vs ++ [v])
end
@[simp] noncomputable def getO : D → D → Option (Option D)
  | .dK ks vs, d => d.key?.bind fun k => some (look ks vs k)
  | .dT ks vs, .tup xs => (keys? xs).bind fun k => some (look ks vs k)
  | _, _ => none
section
variable {Z : Ent K}
@[simp] noncomputable def inDd (d1 d2 : D) : Option SV := (getO d2 d1).bind fun o => some (.fz (.bl o.isSome))
@[simp] noncomputable def D.isD : D → Bool
  | .dK _ _ => true | .dT _ _ => true | _ => false
@[simp] noncomputable def inX (d1 d2 : D) : Option SV := if d2.isD = true then inDd d1 d2 else inD d1 d2
end
section
variable {X : Cx} {Z : Ent X.K} {a b c : Expr} {fa fb fc : FE} {pos : Pos}
end
end DL

namespace L2
open PySem PySem.Spec PyProof.Rows
variable {X : Cx}
end L2
namespace DL
open PySem PySem.Spec PyProof.Rows L2
variable {K : PySem.W.Frag}
section
variable {Z : Ent K} {H : Hp} {σ : L2.St} {Q : VK} {E : Ends}
/-! {} -/
/-! d[k] = v, of a slot's own dict -/
@[simp] noncomputable def SV.isOD : Option (Option SV) → Bool
  | some (some (.oK _ _)) => true
  | some (some (.oT _ _)) => true
  | _ => false
@[simp] noncomputable def putS (kd d : D) : Option (Option SV) → Option SV
  | some (some (.oK ks vs)) => kd.key?.bind fun k => if vs.length < PySem.sizeLine then some (.oK (putA ks vs k d).1 (putA ks vs k d).2) else none
  | some (some (.oT ks vs)) => match kd with
    | .tup xs => (keys? xs).bind fun k => if vs.length < PySem.sizeLine then some (.oT (putA ks vs k d).1 (putA ks vs k d).2) else none
    | _ => none
  | _ => none
@[simp] noncomputable def putF (i : Nat) (fk fv : FE) : FS := fun δ => (fv δ).bind fun p => (frz p.1 p.2).bind fun q => if SV.isOD (q.2[i]?) = true then (fk q.2).bind fun r => (rdv r.1 r.2).bind fun kd => (putS kd q.1 (r.2[i]?)).bind fun sv => some (.nx (r.2.set i (some sv))) else none
/-! o.m(..), the arguments frozen -/
end
section
variable {X : Cx} {Z : Ent X.K} {a b c : Expr} {fa fb fc : FE} {pos : Pos}
end
end DL

/-! dict(d); {text: name}; d.pop(k) -/
namespace L2
open PySem PySem.Spec PyProof.Rows
variable {X : Cx}
end L2
namespace DL
open PySem PySem.Spec PyProof.Rows L2
variable {K : PySem.W.Frag}
section
variable {Z : Ent K} {H : Hp} {σ : L2.St} {Q : VK} {E : Ends}
end
section
variable {X : Cx} {Z : Ent X.K} {a b c : Expr} {fa fb fc : FE} {pos : Pos}
end
end DL

/-! None looked for among texts and whole numbers -/
namespace L2
open PySem PySem.Spec PyProof.Rows
section
variable {prog : Program} {w : World} {A : Around} {E : Value → Shared → Prop} {s : Shared}
end
variable {X : Cx}
end L2

/-! == of dicts whose keys are texts: looked up by the texts alone, so it hangs on no world -/
namespace L2
open PySem PySem.Spec PyProof.Rows
section
variable {prog : Program} {w : World} {A : Around} {E : Value → Shared → Prop} {s : Shared}
end
section
variable {prog : Program} {w : World} {A : Around} {E : Value → Shared → Prop} {s : Shared}
end
section
variable {A : Around} {s : Shared} {a b : Addr} {ka kb : List (Str × Value)} {r : Bool}
end
end L2

/-! deep == with dicts of text keys, by values -/
namespace DL
open PySem PySem.Spec PyProof.Rows L2
variable {K : PySem.W.Frag}
section
variable {X : Cx} {pins : List (Addr × Obj)} {σ : L2.St} {F H : Hp} {s : Shared}
end
end DL

namespace DL
open PySem PySem.Spec PyProof.Rows L2
variable {K : PySem.W.Frag}
section
variable {X : Cx} {pins : List (Addr × Obj)} {σ : L2.St} {F H : Hp} {s : Shared}
end
end DL

namespace DL
open PySem PySem.Spec PyProof.Rows L2
variable {K : PySem.W.Frag}
@[simp] noncomputable def inY (d1 d2 : D) : Option SV := match d1, d2 with
  | .non, .dK _ _ => some (.fz (.bl false))
  | _, _ => inX d1 d2
section
variable {Z : Ent K}
end
section
variable {X : Cx} {Z : Ent X.K} {a b c : Expr} {fa fb fc : FE} {pos : Pos}
end
end DL

/-! a slot's own dict of own lists: t = {}; t[k] = []; t[k].append(x) -/
namespace DL
open PySem PySem.Spec PyProof.Rows L2
variable {K : PySem.W.Frag}
section
variable {Z : Ent K} {H : Hp} {σ : L2.St} {Q : VK} {E : Ends}
end
section
variable {Z : Ent K} {H : Hp} {σ : L2.St} {Q : VK} {E : Ends}
end
end DL

namespace DL
open PySem PySem.Spec PyProof.Rows L2
variable {K : PySem.W.Frag}
section
variable {Z : Ent K} {H : Hp} {σ : L2.St} {E : Ends}
end
section
variable {X : Cx} {Z : Ent X.K} {a b c : Expr} {fa fb fc : FE} {pos : Pos}
end
end DL

/-! in a list; list.index, str.index, rstrip; a text times a number; str of a number -/
namespace L2
open PySem PySem.Spec PyProof.Rows
variable {X : Cx}
noncomputable def rSRep : R2 := fun x y H Q => ∃ a k, x = .str a ∧ y = .int k ∧ MulOk a k ∧ Q (.str (Txt.mul a k)) H
theorem op_srep : OpR X (binaryOp .Mult) rSRep := by
  intro pins s σ H x y v u Q I rx ry h
  obtain ⟨a, k, rfl, rfl, hm, q⟩ := h
  obtain ⟨t, rfl⟩ := rx
  obtain ⟨t', rfl⟩ := ry
  exact SB.mul hm fun t' k => ⟨.str _, H, I.tok _, ⟨_, rfl⟩, q⟩
end L2

namespace DL
open PySem PySem.Spec PyProof.Rows L2
variable {K : PySem.W.Frag}
@[simp] noncomputable def D.fv : D → V
  | .bl b => .bl b
  | .int i => .int i
  | .str x => .str x
  | _ => .non
theorem fv_ok {F H : Hp} {d : D} {x : V} (r : RepN K F H d x) (h : d.isFlat = true) : x = d.fv ∧ flatV x = true := by
  cases d with
  | non => rw [r.non]; exact ⟨rfl, rfl⟩
  | bl b => rw [r.bl]; exact ⟨rfl, rfl⟩
  | int i => rw [r.int]; exact ⟨rfl, rfl⟩
  | str y => rw [r.str]; exact ⟨rfl, rfl⟩
  | _ => cases h
theorem fvs_ok {F : Hp} : ∀ {ds : List D} {vs : List V}, Reps K F ds vs → ds.all D.isFlat = true → vs = ds.map D.fv ∧ vs.all flatV = true
  | _, _, .nil, _ => ⟨rfl, rfl⟩
  | _, _, .cons h t, e => by
    rw [List.all_cons, Bool.and_eq_true] at e
    obtain ⟨a1, a2⟩ := fv_ok (H := F) (RepN.of h) e.1
    obtain ⟨b1, b2⟩ := fvs_ok t e.2
    refine ⟨by rw [List.map_cons, ← a1, ← b1], by rw [List.all_cons, a2, b2]; rfl⟩
noncomputable def eqFl (y x : D) : Bool := eqV y.fv x.fv
@[simp] theorem eqFl_str (a b : Str) : eqFl (.str a) (.str b) = decide (a = b) := by
  show (a == b) = decide (a = b)
  by_cases h : a = b
  · subst h; simp
  · rw [decide_eq_false h]; exact beq_eq_false_iff_ne.mpr h
@[simp] theorem eqFl_bl (a b : Bool) : eqFl (.bl a) (.bl b) = decide (a = b) := by cases a <;> cases b <;> rfl
@[simp] theorem eqFl_non : eqFl .non .non = true := rfl
@[simp] theorem eqFl_sn (a : Str) : eqFl (.str a) .non = false := rfl
noncomputable def inFl (x : D) (xs : List D) : Bool := xs.any fun y => eqFl y x
theorem inFl_ok {d : D} {ds : List D} : inV d.fv (ds.map D.fv) = inFl d ds := by
  unfold inV inFl
  rw [List.any_map]; rfl
noncomputable def D.seq? : D → Option (List D)
  | .lst xs => some xs
  | .tup xs => some xs
  | _ => none
@[simp] theorem seq_lst (xs : List D) : D.seq? (.lst xs) = some xs := rfl
@[simp] theorem seq_tup (xs : List D) : D.seq? (.tup xs) = some xs := rfl
@[simp] theorem seq_str (x : Str) : D.seq? (.str x) = none := rfl
@[simp] theorem seq_dK (ks : List Key) (vs : List D) : D.seq? (.dK ks vs) = none := rfl
@[simp] theorem seq_dT (ks : List (List Key)) (vs : List D) : D.seq? (.dT ks vs) = none := rfl
@[simp] noncomputable def inZ (d1 d2 : D) : Option SV := match d2.seq? with
  | some xs => if d1.isFlat = true ∧ xs.all D.isFlat = true then some (.fz (.bl (inFl d1 xs))) else none
  | none => inY d1 d2
section
variable {Z : Ent K} {H : Hp} {σ : L2.St} {Q : VK} {E : Ends}
theorem seq_ok {F : Hp} {d : D} {x : V} {xs : List D} (le : Same F H) (r : RepN K F H d x) (h : d.seq? = some xs) : ∃ a vs, x = .ref a ∧ (SqL K H a vs ∨ SqT K H a vs) ∧ Reps K F xs vs := by
  cases d with
  | lst ys => cases h; obtain ⟨a, vs, e, q, rr⟩ := r.lst le; exact ⟨a, vs, e, .inl q, rr⟩
  | tup ys => cases h; obtain ⟨a, vs, e, q, rr⟩ := r.tup le; exact ⟨a, vs, e, .inr q, rr⟩
  | _ => cases h
/-! index, rstrip -/
/-! text times number -/
open Classical in
noncomputable def mulS (a : Str) (k : Int) : Option SV := if MulOk a k then some (.fz (.str (Txt.mul a k))) else none
theorem mulS_ok {a : Str} {k : Int} (h : MulOk a k) : mulS a k = some (.fz (.str (Txt.mul a k))) := by unfold mulS; rw [if_pos h]
theorem mulS_of {a : Str} {k : Int} {sv : SV} (h : mulS a k = some sv) : MulOk a k ∧ sv = .fz (.str (Txt.mul a k)) := by
  unfold mulS at h
  split at h
  · rename_i hm; cases h; exact ⟨hm, rfl⟩
  · cases h
noncomputable def CMulP (i j : Int) : Prop := cMul i j = true
open Classical in
noncomputable def mulI (i j : Int) : Option SV := if CMulP i j then some (.fz (.int (i * j))) else none
theorem mulI_of {i j : Int} {sv : SV} (h : mulI i j = some sv) : mulD (.int i) (.int j) = some sv := by
  unfold mulI at h
  split at h
  · rename_i hc
    cases h
    unfold CMulP at hc
    simp [hc]
  · cases h
theorem mulI_r {i j : Int} (h : -(2 ^ 64) < j ∧ j < 2 ^ 64) : mulI i j = some (.fz (.int (i * j))) := by
  unfold mulI
  rw [if_pos]
  unfold CMulP cMul
  rw [decide_eq_true h.1, decide_eq_true h.2]; simp
theorem mulI_l {i j : Int} (h : -(2 ^ 64) < i ∧ i < 2 ^ 64) : mulI i j = some (.fz (.int (i * j))) := by
  unfold mulI
  rw [if_pos]
  unfold CMulP cMul
  rw [decide_eq_true h.1, decide_eq_true h.2]; simp
noncomputable def mulZ : D → D → Option SV
  | .str a, .int k => mulS a k
  | .int i, .int j => mulI i j
  | _, _ => none
@[simp] theorem mulZ_si (a : Str) (k : Int) : mulZ (.str a) (.int k) = mulS a k := rfl
@[simp] theorem mulZ_ii (i j : Int) : mulZ (.int i) (.int j) = mulI i j := rfl
theorem p_mulZ : Prim2 Z (fun x y H Q => rI CMul (fun i j => V.int (i * j)) x y H Q ∨ rSRep x y H Q) mulZ := by
  intro F H σ δ own x y d1 d2 sv Q s r1 r2 e k
  unfold mulZ at e
  split at e
  · obtain ⟨hm, rfl⟩ := mulS_of e
    exact .inr ⟨_, _, r1.str, r2.int, hm, k.fz s (.str _)⟩
  · exact .inl (p_mul F H σ δ own x y _ _ sv Q s r1 r2 (mulI_of e) k)
  · cases e
/-! str of a whole number -/
/-! x[i] = v of a slot's own list -/
/-! x.extend(new list) -/
end
section
variable {X : Cx} {Z : Ent X.K} {a b c : Expr} {fa fb fc : FE} {pos : Pos}
theorem e_mulZ (ha : PE X a (liftE Z fa)) (hb : PE X b (liftE Z fb)) : PE X (.BinOp a .Mult b pos) (liftE Z (binF mulZ fa fb)) := e_bin (op_mul.or op_srep) p_mulZ ha hb
end
end DL

namespace DL
open PySem PySem.Spec PyProof.Rows L2
end DL

/-! a test leaves all slots as they are -/
namespace DL
open PySem PySem.Spec PyProof.Rows L2
variable {K : PySem.W.Frag}
section
variable {Z : Ent K} {H : Hp} {σ : L2.St} {Q : Bool → Hp → Prop}
end
section
variable {X : Cx} {Z : Ent X.K} {a : Expr} {ft : FT}
end
end DL

/-! a new list, so many times -/
namespace DL
open PySem PySem.Spec PyProof.Rows L2
variable {K : PySem.W.Frag}
noncomputable def repP (n : Nat) (k : Int) : Prop := -(2 ^ 63) ≤ k ∧ k < 2 ^ 63 ∧ n * k.toNat ≤ PySem.sizeLine
section
variable {Z : Ent K} {H : Hp} {σ : L2.St} {Q : VK}
open Classical in
noncomputable def repI (xs : List D) : D → Option SV
  | .int k => if repP xs.length k then some (.ol (List.replicate k.toNat xs).flatten) else none
  | _ => none
@[simp] theorem repI_int {xs : List D} {k : Int} (h : repP xs.length k) : repI xs (.int k) = some (.ol (List.replicate k.toNat xs).flatten) := by
  unfold repI; dsimp only; rw [if_pos h]
end
section
variable {X : Cx} {Z : Ent X.K} {a b : Expr} {fa fb : FE} {pos : Pos}
end
end DL

/-! a part of a tuple -/
namespace DL
open PySem PySem.Spec PyProof.Rows L2
variable {K : PySem.W.Frag}
section
variable {Z : Ent K}
end
section
variable {X : Cx} {Z : Ent X.K} {a : Expr} {fa : FE} {pos : Pos}
end
end DL

/-! EXPRESSIONS THAT MAY RAISE, and what passes it on -/
namespace DL
open PySem L2
variable {K : PySem.W.Frag}
inductive RX where
  | v (rv : RV) (δ : DSt) | x (e : Exn) (δ : DSt)
inductive RL (α : Type) where
  | v (xs : List α) (δ : DSt) | x (e : Exn) (δ : DSt)
noncomputable abbrev FX := DSt → Option RX
noncomputable abbrev FAX := DSt → Option (RL RV)
noncomputable def XOk (Z : Ent K) (F : Hp) (σ : St) (e : Exn) (δ : DSt) : Prop := ∀ H' F' own' cls od, Same F F' → SR Z F' H' σ δ own' → ExcRep K F' e cls od → Z.x cls od σ H'
theorem XOk.mono {Z : Ent K} {F F' : Hp} {σ : St} {e : Exn} {δ : DSt} (s : Same F F') (h : XOk Z F σ e δ) : XOk Z F' σ e δ := fun H2 F2 own cls od a => h H2 F2 own cls od (s.trans a)
noncomputable def liftX (Z : Ent K) (f : FX) : TE := fun σ H Q => ∃ F δ own r, SR Z F H σ δ own ∧ f δ = some r ∧ match r with
  | .v rv δ' => ∀ v H' F' own', Same H H' → Same F F' → SR Z F' H' σ δ' own' → RVRep Z F' H' σ own' rv v → Q v H'
  | .x e δ' => XOk Z F σ e δ'
noncomputable def liftAX (Z : Ent K) (f : FAX) : TA := fun σ H Q => ∃ F δ own r, SR Z F H σ δ own ∧ f δ = some r ∧ match r with
  | .v rvs δ' => ∀ vs H' F' own', Same H H' → Same F F' → SR Z F' H' σ δ' own' → RVSs K F' σ rvs vs → Q vs H'
  | .x e δ' => XOk Z F σ e δ'
@[simp] noncomputable def FX.val (f : FX) : FE := fun δ => match f δ with
  | some (.v rv δ') => some (rv, δ')
  | _ => none
section
variable {Z : Ent K} {H : Hp} {σ : St} {Q : VK} {E : Ends}
theorem lift_val {f : FX} (h : liftE Z f.val σ H Q) : liftX Z f σ H Q := by
  obtain ⟨F, δ, own, rv, δ', s, e, k⟩ := h
  unfold FX.val at e
  split at e
  · rename_i rv' δ2 hf
    cases e
    exact ⟨F, δ, own, _, s, hf, k⟩
  · cases e
theorem lift_exn {f : FX} {F : Hp} {δ δ' : DSt} {own : Nat → Nodes} {x : Exn} (s : SR Z F H σ δ own) (hf : f δ = some (.x x δ')) (k : XOk Z F σ x δ') : liftX Z f σ H Q := ⟨F, δ, own, _, s, hf, k⟩
@[simp] noncomputable def pureX (fe : FE) : FX := fun δ => (fe δ).bind fun p => some (.v p.1 p.2)
theorem l_pureX {fe : FE} (h : liftX Z (pureX fe) σ H Q) : liftE Z fe σ H Q := by
  obtain ⟨F, δ, own, r, s, e, k⟩ := h
  obtain ⟨⟨rv, δ'⟩, e1, e2⟩ := Option.bind_eq_some_iff.mp e
  cases e2
  exact ⟨F, δ, own, rv, δ', s, e1, k⟩
@[simp] noncomputable def argNilX : FAX := fun δ => some (.v [] δ)
@[simp] noncomputable def argConsX (fx : FX) (fa : FAX) : FAX := fun δ => (fx δ).bind fun
  | .v rv δ1 => (fa δ1).bind fun
    | .v rvs δ2 => some (.v (rv :: rvs) δ2)
    | .x e δ2 => some (.x e δ2)
  | .x e δ1 => some (.x e δ1)
theorem l_argNilX {R : List V → Hp → Prop} (h : liftAX Z argNilX σ H R) : tNil σ H R := by
  obtain ⟨F, δ, own, r, s, e, k⟩ := h
  cases e
  exact k [] H F own (Same.refl H) (Same.refl F) s .nil
theorem l_argConsX {fx : FX} {fa : FAX} {R : List V → Hp → Prop} (h : liftAX Z (argConsX fx fa) σ H R) : tCons (liftX Z fx) (liftAX Z fa) σ H R := by
  obtain ⟨F, δ, own, r, s, e, k⟩ := h
  obtain ⟨r1, e1, e2⟩ := Option.bind_eq_some_iff.mp e
  cases r1 with
  | x x1 δ1 => cases e2; exact ⟨F, δ, own, _, s, e1, k⟩
  | v rv δ1 =>
    obtain ⟨r2, e3, e4⟩ := Option.bind_eq_some_iff.mp e2
    refine ⟨F, δ, own, _, s, e1, fun v H1 F1 own1 sH sF s1 r1 => ?_⟩
    obtain ⟨F2, sF2, s2, rr⟩ := s1.settleR r1
    cases r2 with
    | x x2 δ2 => cases e4; exact ⟨F2, δ1, own1, _, s2, e3, XOk.mono (sF.trans sF2) k⟩
    | v rvs δ2 =>
      cases e4
      exact ⟨F2, δ1, own1, _, s2, e3, fun vs H3 F3 own3 sH3 sF3 s3 r3 => k _ H3 F3 own3 (sH.trans sH3) (sF.trans (sF2.trans sF3)) s3 (.cons (rr.mono sF3) r3)⟩
@[simp] noncomputable def binX (g : D → D → Option SV) (fa fb : FX) : FX := fun δ => (fa δ).bind fun
  | .x e δ1 => some (.x e δ1)
  | .v r1 δ1 => (fb δ1).bind fun
    | .x e δ2 => some (.x e δ2)
    | .v r2 δ2 => (rdv r1 δ2).bind fun d1 => (rdv r2 δ2).bind fun d2 => (g d1 d2).bind fun sv => some (.v (.tmp sv) δ2)
end
/-! ### a def that may raise -/
inductive XO where
  | v (sv : SV) | x (e : Exn)
noncomputable def spX (K : PySem.W.Frag) (n : Nat) (g : List D → Option XO) : Sp := fun vs H Q E => ∃ F ds o, Same F H ∧ Reps K F ds vs ∧ ds.length = n ∧ g ds = some o ∧ match o with
  | .v sv => ∀ v H' F' ns, Same H H' → Same F F' → Same F' H' → (∀ (b : Addr) (o : HO), F' b = some o → F b = some o ∨ H b = none) → Shape K F' sv v ns → (adr ns).Nodup → (∀ p ∈ ns, F' p.1 = none ∧ H p.1 = none ∧ H' p.1 = some p.2) → Q v H'
  | .x e => ∀ cls od H' F', Same H H' → Same F F' → Same F' H' → (∀ (b : Addr) (o : HO), F' b = some o → F b = some o ∨ H b = none) → ExcRep K F' e cls od → E cls od H'
theorem spX_len {n : Nat} {g : List D → Option XO} {vs : List V} {H : Hp} {Q : VK} {E : XK} (h : spX K n g vs H Q E) : vs.length = n := by
  obtain ⟨F, ds, o, le, r, hn, e, k⟩ := h
  rw [← r.length]; exact hn
@[simp] noncomputable def outX (f : FS) (n : Nat) (ds : List D) : Option XO := match f (startD n ds) with
  | some (.rt sv) => some (.v sv)
  | some (.nx _) => some (.v (.fz .non))
  | some (.ex e _) => some (.x e)
  | _ => none
noncomputable abbrev entX (H F : Hp) (E : XK) : Ent K := ⟨H, F, fun cls od _ H' => E cls od H'⟩
theorem SR.ent {Z Y : Ent K} {F H : Hp} {σ : St} {δ : DSt} {own : Nat → Nodes} (s : SR Z F H σ δ own) (h1 : Z.h = Y.h := by rfl) (h2 : Z.f = Y.f := by rfl) : SR Y F H σ δ own :=
  ⟨s.le, h1 ▸ h2 ▸ s.fro, h1 ▸ s.old, s.len, s.at', s.nod, fun i p hp => h1 ▸ s.ok i p hp, s.sep⟩
theorem body_outX {N : List Str} {n : Nat} {f : FS} {vs : List V} {H : Hp} {Q : VK} {E : XK} (h : spX K n (outX f N.length) vs H Q E) : ∃ F, liftS (entX H F E : Ent K) f { nx := fun _ H' => Q .non H', rt := Q } (L2.start N vs) H := by
  obtain ⟨F, ds, o, le, r, hn, e, k⟩ := h
  have s0 : SR (entX H F E : Ent K) F H (L2.start N vs) (startD N.length ds) fun _ => [] := (sr_start (N := N) le r).ent
  unfold outX at e
  split at e
  · rename_i sw hf
    cases e
    exact ⟨F, F, _, _, .rt sw, s0, hf, fun v H' F' ns a b c d e' nd ok => k v H' F' ns d a b c e' nd ok⟩
  · rename_i δ hf
    cases e
    exact ⟨F, F, _, _, .nx δ, s0, hf, fun σ' H' F' own' a s' => k .non H' F' [] s'.old a s'.le s'.fro (.fz .non) List.nodup_nil fun _ h => (nomatch h)⟩
  · rename_i x δ hf
    cases e
    exact ⟨F, F, _, _, .ex x δ, s0, hf, fun σ' H' F' own' cls od a s' r' => k cls od H' F' s'.old a s'.le s'.fro r'⟩
  · cases e
section
variable {Z : Ent K} {H : Hp} {σ : St} {Q : VK} {E : Ends}
theorem SR.behind {F2 H1 F3 H3 : Hp} {δ2 : DSt} {own2 : Nat → Nodes} (s2 : SR Z F2 H1 σ δ2 own2) (sH3 : Same H1 H3) (sF3 : Same F2 F3) (le3 : Same F3 H3) (fro3 : ∀ (b : Addr) (o : HO), F3 b = some o → F2 b = some o ∨ H1 b = none) : SR Z F3 H3 σ δ2 own2 := by
  refine ⟨le3, fun b o e => ?_, s2.old.trans sH3, s2.len, fun i sw ei => ?_, s2.nod, fun i p hp => ?_, s2.sep⟩
  · rcases fro3 b o e with z | z
    · exact s2.fro b o z
    · exact .inr (s2.old.free z)
  · obtain ⟨w, h1, h2⟩ := s2.at' i sw ei
    exact ⟨w, h1, h2.mono sF3⟩
  · obtain ⟨a, b, c⟩ := s2.ok i p hp
    refine ⟨?_, b, sH3 _ _ c⟩
    cases z : F3 p.1 with
    | none => rfl
    | some u =>
      rcases fro3 _ u z with y | y
      · rw [a] at y; cases y
      · rw [c] at y; cases y
@[simp] noncomputable def callX (n : Nat) (g : List D → Option XO) (fa : FAX) : FX := fun δ => (fa δ).bind fun
  | .x e δ1 => some (.x e δ1)
  | .v rvs δ1 => (DL.frzAll rvs δ1).bind fun q => if q.1.length = n then (g q.1).bind (fun
    | .v sv => some (.v (.tmp sv) (if sv.scal then δ1 else q.2))
    | .x e => some (.x e q.2)) else none
theorem l_callX {n : Nat} {g : List D → Option XO} {fa : FAX} (h : liftX Z (callX n g fa) σ H Q) : tCallX (spX K n g) Z.x (liftAX Z fa) σ H Q := by
  obtain ⟨F, δ, own, rx, s, e, k⟩ := h
  obtain ⟨r1, e1, e2⟩ := Option.bind_eq_some_iff.mp e
  cases r1 with
  | x x1 δ1 => cases e2; exact ⟨F, δ, own, _, s, e1, k⟩
  | v rvs δ1 =>
    obtain ⟨⟨ds, δ2⟩, e3, e4⟩ := Option.bind_eq_some_iff.mp e2
    refine ⟨F, δ, own, _, s, e1, fun vs H1 F1 own1 sH sF s1 r1 => ?_⟩
    obtain ⟨F2, own2, sF2, s2, r2⟩ := s1.frzAll (own := own) (F := F) (δ := δ) r1 e3
    by_cases hn : ds.length = n
    · rw [if_pos hn] at e4
      obtain ⟨o, e5, e6⟩ := Option.bind_eq_some_iff.mp e4
      refine ⟨F2, ds, o, s2.le, r2, hn, e5, ?_⟩
      cases o with
      | x x2 =>
        cases e6
        exact fun cls od H3 F3 sH3 sF3 le3 fro3 rr => k H3 F3 own2 cls od (sF.trans (sF2.trans sF3)) (s2.behind sH3 sF3 le3 fro3) rr
      | v sv =>
        cases e6
        intro v H3 F3 ns sH3 sF3 le3 fro3 sh nd ok
        by_cases hs : sv.scal = true
        · rw [if_pos hs] at k
          obtain ⟨_, sh'⟩ := scal_rep (F' := F1) hs sh
          exact k v H3 F1 own1 (sH.trans sH3) sF (s1.grow sH3) ⟨[], sh', List.nodup_nil, fun _ h => (nomatch h), fun _ _ _ h => (nomatch h)⟩
        · rw [if_neg hs] at k
          exact k v H3 F3 own2 (sH.trans sH3) (sF.trans (sF2.trans sF3)) (s2.behind sH3 sF3 le3 fro3) ⟨ns, sh, nd, fun p hp => ⟨(ok p hp).1, (s2.old).free (ok p hp).2.1, (ok p hp).2.2⟩, fun i p q hp hq e => by
            have z := (s2.ok i q hq).2.2
            rw [← e, (ok p hp).2.1] at z; cases z⟩
    · rw [if_neg hn] at e4; cases e4
/-! statements -/
@[simp] noncomputable def setX (i : Nat) (fx : FX) : FS := fun δ => (fx δ).bind fun
  | .v rv δ1 => (stow i rv δ1).bind fun δ' => some (.nx δ')
  | .x e δ1 => some (.ex e δ1)
theorem XOk.of {F : Hp} {x : Exn} {δ : DSt} (k : EndsOk Z F E (.ex x δ)) : XOk Z F σ x δ := fun H' F' own' cls od a b c => k σ H' F' own' cls od a b c
theorem l_setX {i : Nat} {fx : FX} (h : liftS Z (setX i fx) E σ H) : tAsg (liftX Z fx) (gName i) E σ H := by
  obtain ⟨F, δ, own, fl, s, e, k⟩ := h
  obtain ⟨r, e1, e2⟩ := Option.bind_eq_some_iff.mp e
  cases r with
  | x x1 δ1 => cases e2; exact lift_exn s e1 (.of k)
  | v rv δ1 => exact lift_val (l_set (Z := Z) (E := E) (i := i) (fe := fx.val) ⟨F, δ, own, fl, s, by unfold setF FX.val; rw [e1]; exact e2, k⟩)
@[simp] noncomputable def retX (fx : FX) : FS := fun δ => (fx δ).bind fun
  | .v rv δ1 => (outF rv δ1).bind fun sv => some (.rt sv)
  | .x e δ1 => some (.ex e δ1)
theorem l_retX {fx : FX} (h : liftS Z (retX fx) E σ H) : tRet (liftX Z fx) E σ H := by
  obtain ⟨F, δ, own, fl, s, e, k⟩ := h
  obtain ⟨r, e1, e2⟩ := Option.bind_eq_some_iff.mp e
  cases r with
  | x x1 δ1 => cases e2; exact lift_exn s e1 (.of k)
  | v rv δ1 => exact lift_val (l_ret (Z := Z) (E := E) (fe := fx.val) ⟨F, δ, own, fl, s, by unfold retF FX.val; rw [e1]; exact e2, k⟩)
/-! raise, try -/
@[simp] noncomputable def raiseF (c : Str) : FS := fun δ => some (.ex ⟨c, [], []⟩ δ)
theorem l_raise {c : Str} {C : Addr} {x : Str} (cl : ClsIs K c C) (hx : ∀ cls od σ H', Z.x cls od σ H' → Z.x cls od [] H') (h : liftS Z (raiseF c) E σ H) : tRaise (fun cls od H' => Z.x cls od [] H') C (tCons (tC (.str x)) tNil) E σ H := by
  obtain ⟨F, δ, own, fl, s, e, k⟩ := h
  cases e
  exact ⟨by show 1 ≤ PySem.sizeLine; decide, hx _ _ _ _ (k σ H F own (.ref C) none (Same.refl F) s ⟨C, cl, rfl, rfl, rfl⟩)⟩
structure HX where
  x : Str
  np : Pos
  nm : Option (Str × Nat)
  b0 : Stmt
  suite : List Stmt
  pos : Pos
  B : Addr
  yes : List Str
  no : List Str
  f : FS
structure HX.Sub (K : PySem.W.Frag) (h : HX) : Prop where
  yes : ∀ c ∈ h.yes, ∀ C, ClsIs K c C → PySem.W.mroIn K C (.ref h.B) = some true
  no : ∀ c ∈ h.no, ∀ C, ClsIs K c C → PySem.W.mroIn K C (.ref h.B) = some false
noncomputable def HX.hd (Z : Ent K) (h : HX) : Hd := ⟨h.x, h.np, h.nm, h.b0, h.suite, h.pos, h.B, liftS Z h.f⟩
structure HF where
  i : Option Nat
  yes : List Str
  no : List Str
  f : FS
@[simp] noncomputable def HX.hf (h : HX) : HF := ⟨h.nm.map (·.2), h.yes, h.no, h.f⟩
@[simp] noncomputable def pickF (c : Str) : List HF → Option HF
  | [] => none
  | h :: r => if c ∈ h.yes then some h else if c ∈ h.no then pickF c r else none
theorem pick_same (Z : Ent K) {c : Str} {C : Addr} (cl : ClsIs K c C) : ∀ (hs : List HX) {f : HF}, (∀ h ∈ hs, h.Sub K) → pickF c (hs.map HX.hf) = some f → ∃ h : HX, h.hf = f ∧ pickH K C (hs.map (HX.hd Z)) = some (h.hd Z)
  | [], f, _, e => nomatch e
  | h :: r, f, ok, e => by
    have e : (if c ∈ h.yes then some h.hf else if c ∈ h.no then pickF c (r.map HX.hf) else none) = some f := e
    show ∃ g : HX, g.hf = f ∧ (match PySem.W.mroIn K C (.ref h.B) with | some true => some (h.hd Z) | some false => pickH K C (r.map (HX.hd Z)) | none => none) = some (g.hd Z)
    have kh := ok h List.mem_cons_self
    by_cases q : c ∈ h.yes
    · rw [if_pos q] at e; cases e; exact ⟨h, rfl, by rw [kh.yes c q C cl]⟩
    · rw [if_neg q] at e
      by_cases q2 : c ∈ h.no
      · rw [if_pos q2] at e
        obtain ⟨g, g1, g2⟩ := pick_same Z cl r (fun g hg => ok g (List.mem_cons_of_mem _ hg)) e
        exact ⟨g, g1, by rw [kh.no c q2 C cl]; exact g2⟩
      · rw [if_neg q2] at e; cases e
@[simp] noncomputable def Fl.but (i : Nat) : Fl → Fl
  | .nx δ => .nx (δ.set i none)
  | .bk δ => .bk (δ.set i none)
  | .ct δ => .ct (δ.set i none)
  | .ex e δ => .ex e (δ.set i none)
  | .rt sv => .rt sv
@[simp] noncomputable def Fl.isEx : Fl → Bool
  | .ex _ _ => true
  | _ => false
@[simp] noncomputable def HF.run (h : HF) (x : Exn) (δ : DSt) : Option Fl := match h.i with
  | none => h.f δ
  | some i => if i < δ.length then (h.f (δ.set i (some (.fz (.exc x.c x.ks x.vs))))).bind fun fl => if fl.isEx = true then none else some (fl.but i) else none
@[simp] noncomputable def tryF (fb : FS) (hs : List HF) : FS := fun δ => (fb δ).bind fun
  | .ex x δ1 => (pickF x.c hs).bind fun h => h.run x δ1
  | fl => some fl
noncomputable abbrev Ent.wish (Z : Ent K) (EX : EXT) : Ent K := ⟨Z.h, Z.f, EX⟩
theorem SR.unset {F : Hp} {δ : DSt} {own : Nat → Nodes} (s : SR Z F H σ δ own) (i : Nat) : SR Z F H (σ.set i none) (δ.set i none) (put own i []) := by
  refine ⟨s.le, s.fro, s.old, by rw [List.length_set, List.length_set]; exact s.len, fun j sw ej => ?_, fun j => ?_, fun j p hp => ?_, fun j k p q hjk hp hq => ?_⟩
  · by_cases hj : j = i
    · subst hj
      have hd : j < δ.length := by
        have := (List.getElem?_eq_some_iff.mp ej).1
        simpa using this
      rw [List.getElem?_set_self hd] at ej
      cases ej
    · rw [List.getElem?_set_ne (Ne.symm hj)] at ej
      rw [put_ne hj, List.getElem?_set_ne (Ne.symm hj)]
      exact s.at' j sw ej
  · by_cases hj : j = i
    · subst hj; rw [put_same]; exact List.nodup_nil
    · rw [put_ne hj]; exact s.nod j
  · by_cases hj : j = i
    · subst hj; rw [put_same] at hp; exact nomatch hp
    · rw [put_ne hj] at hp; exact s.ok j p hp
  · by_cases hj : j = i
    · subst hj; rw [put_same] at hp; exact nomatch hp
    · by_cases hk : k = i
      · subst hk; rw [put_same] at hq; exact nomatch hq
      · rw [put_ne hj] at hp
        rw [put_ne hk] at hq
        exact s.sep j k p q hjk hp hq
theorem ends_but {F : Hp} {i : Nat} {fl : Fl} (hx : fl.isEx = false) (k : EndsOk Z F E (fl.but i)) : EndsOk Z F (E.but i) fl := by
  cases fl with
  | nx δ => exact fun σ' H' F' own' a b => k (σ'.set i none) H' F' _ a (b.unset i)
  | bk δ => exact fun σ' H' F' own' a b => k (σ'.set i none) H' F' _ a (b.unset i)
  | ct δ => exact fun σ' H' F' own' a b => k (σ'.set i none) H' F' _ a (b.unset i)
  | rt sv => exact k
  | ex x δ => cases hx
theorem l_try {fb : FS} {hs : List HX} (hsub : ∀ h ∈ hs, h.Sub K) (h : liftS Z (tryF fb (hs.map HX.hf)) E σ H) : tTry K (fun EX => liftS (Z.wish EX) fb) (hs.map (HX.hd Z)) E σ H := by
  obtain ⟨F, δ, own, fl, s, e, k⟩ := h
  obtain ⟨f1, e1, e2⟩ := Option.bind_eq_some_iff.mp e
  refine ⟨F, δ, own, f1, s.ent, e1, ?_⟩
  cases f1 with
  | nx δ1 => cases e2; exact fun σ' H' F' own' a b => k σ' H' F' own' a b.ent
  | bk δ1 => cases e2; exact fun σ' H' F' own' a b => k σ' H' F' own' a b.ent
  | ct δ1 => cases e2; exact fun σ' H' F' own' a b => k σ' H' F' own' a b.ent
  | rt sv => cases e2; exact k
  | ex x δ1 =>
    obtain ⟨hf, e3, e4⟩ := Option.bind_eq_some_iff.mp e2
    intro σ' H' F' own' cls od sF s' r
    obtain ⟨C, cl, rc, r2⟩ := r
    obtain ⟨g, g1, g2⟩ := pick_same Z cl hs hsub e3
    subst g1
    refine ⟨C, g.hd Z, rc, g2, ?_⟩
    have s2 : SR Z F' H' σ' δ1 own' := s'.ent
    obtain ⟨gx, gnp, gnm, gb0, gsu, gpos, gB, gy, gn, gf⟩ := g
    cases gnm with
    | none => exact ⟨F', δ1, own', fl, s2, e4, k.mono sF⟩
    | some ni =>
      obtain ⟨n, i⟩ := ni
      have e4 : (if i < δ1.length then (gf (δ1.set i (some (.fz (.exc x.c x.ks x.vs))))).bind fun fl => if fl.isEx = true then none else some (fl.but i) else none) = some fl := e4
      by_cases hc : i < δ1.length
      · rw [if_pos hc] at e4
        obtain ⟨fl0, e5, e6⟩ := Option.bind_eq_some_iff.mp e4
        have hx0 : fl0.isEx = false := by
          cases z : fl0.isEx with
          | true => rw [if_pos z] at e6; cases e6
          | false => rfl
        rw [if_neg (by rw [hx0]; exact Bool.false_ne_true)] at e6
        cases e6
        intro a ha
        have ha' : H' a = none := ha
        have sm := same_new (o := .ext (excAt a C od)) ha'
        have sF2 : Same F' (addL F' [(a, .ext (excAt a C od))]) := addL_same fun q hq => by obtain rfl := List.mem_singleton.mp hq; exact s2.le.free ha'
        have s3 : SR Z (addL F' [(a, .ext (excAt a C od))]) (upd H' a (.ext (excAt a C od))) σ' δ1 own' := by
          refine (s2.grow sm).addF nd1 (fun q hq => ?_) (fun q hq => ?_) (fun q hq => ?_) fun i q u hq hu => ?_
          · obtain rfl := List.mem_singleton.mp hq; exact s2.le.free ha'
          · obtain rfl := List.mem_singleton.mp hq; exact upd_same
          · obtain rfl := List.mem_singleton.mp hq; exact s2.old.free ha'
          · obtain rfl := List.mem_singleton.mp hq
            intro e
            have e' : a = u.1 := e
            have z := (s2.ok i u hu).2.2
            rw [← e', ha'] at z; cases z
        have rp : Rep K (addL F' [(a, .ext (excAt a C od))]) (.exc x.c x.ks x.vs) (.ref a) := by
          cases od with
          | none => obtain ⟨r3, r4⟩ := r2; rw [r3, r4]; exact .exc cl upd_same
          | some dx => obtain ⟨fs, r3, r4, r5⟩ := r2; exact .exd cl upd_same (sF2 _ _ r3) r4 (r5.mono sF2)
        have s4 := s3.store (i := i) (sv := .fz (.exc x.c x.ks x.vs)) (v := .ref a) (ns := []) (.fz rp) (by rw [s3.len]; exact hc)
        exact ⟨_, _, _, fl0, s4, e5, ends_but hx0 (k.mono (sF.trans sF2))⟩
      · rw [if_neg hc] at e4; cases e4
end
end DL

/-! THE RULES for what may raise -/
namespace DL
open PySem PySem.Spec PyProof.Rows L2
section
variable {X : Cx} {Z : Ent X.K} {a b c : Expr} {fa fb : FE} {fx fy : FX} {pos : Pos}
theorem x_pure (h : PE X a (liftE Z fa)) : PE X a (liftX Z (pureX fa)) := h.imp fun _ _ _ q => l_pureX q
theorem ax_nil : PA X [] (liftAX Z argNilX) := pa_nil.imp fun _ _ _ h => l_argNilX h
theorem ax_cons {es : List Expr} {fr : FAX} (ha : PE X a (liftX Z fx)) (hr : PA X es (liftAX Z fr)) (hs : starEach (a :: es) X.env = (false, eval a X.env) :: starEach es X.env := by rfl) : PA X (a :: es) (liftAX Z (argConsX fx fr)) := (pa_cons ha hr hs).imp fun _ _ _ h => l_argConsX h
theorem x_call {k n : Nat} {f : Addr} {fd : FuncData} {ps : List Str} {g : List D → Option XO} {x : Str} {p : Pos} {es : List Expr} {fr : FAX} (F : FnOk X.prog X.w X.K X.mg X.base (CX1 X.prog X.w) k f fd ps (spX X.K n g)) (hr : Room k X.A) (hm : X.mg x = some (.ref f)) (hk : PySem.W.keepIn X.K (.ref f) = true) (hb : Binds X.K fd ps [])
    (th : PassX X Z.x) (ha : PA X (a :: es) (liftAX Z fr)) (hg : Gl X x := by rfl) (hdb : (x == ("__debug__" : Str)) = false := by decide) (he : starEach (a :: es) X.env = (false, eval a X.env) :: starEach es X.env := by rfl) (hpl : (backTo pos (starEach es X.env)).any (·.1) = false := by rfl) :
    PE X (.Call (.Name x p) (a :: es) [] pos) (liftX Z (callX n g fr)) := (pe_callX F hr hg hm hk hb th ha hdb he hpl).imp fun _ _ _ h => l_callX h
theorem Fun.okX {P : Program} {w : World} {K : PySem.W.Frag} {mg : Str → Option Value} {base : Heap} {x qual : Str} {st : Stmt} {f : Addr} {fd : FuncData} {N ps : List Str} {k : Nat} {sp : Sp} (F : Fun K x qual st f fd) (S : FnScope N ps (defScope st)) (len : ∀ vs H Q E, sp vs H Q E → vs.length = ps.length)
    (hbody : ∀ (cdv : Value) (A : Around) (outer : List Env) (s : Shared) (H : Hp) (vs : List V) (Q : VK) (E : XK), Room k (A.deeper (envOfC qual (defScope st) s.heap.objs.size f cdv)) → sp vs H Q E →
      ∃ t, PSs (cxOf (CX1 P w) P w K mg base N qual (defScope st) f cdv A outer s H E) (defBody st) t ∧ t { nx := fun _ H' => Q .non H', rt := Q } (L2.start N vs) H) : FnOk P w K mg base (CX1 P w) (k + 1) f fd ps sp := by
  obtain ⟨oc, od, kV, doc, pm, an, cdv, ct, osl, rfl, lk, hcd⟩ := F.ex
  exact fn_of lk hcd S len fun A outer s H vs Q E hr hsp => hbody cdv A outer s H vs Q E hr hsp
/-! statements -/
theorem s_retX (h : PE X a (liftX Z fx)) : PS X (.Return (some a) pos) (liftS Z (retX fx)) := (ps_ret h).imp fun _ _ _ h => l_retX h
theorem s_setX (i : Nat) {x : Str} {pos' : Pos} (hN : X.N.Nodup) (he : PE X a (liftX Z fx)) (hi : X.N[i]? = some x := by rfl) (hx : Loc X.env.scope x := by first | exact Or.inl rfl | exact Or.inr rfl) (hs : swapsWith a (some (.Name x pos')) pos.line X.env = pure false := by rfl) (hf : X.fn x = true ∨ X.env.scope.names.lookup x = some .local := by first | exact .inl rfl | exact .inr rfl) :
    PS X (.Assign [.Name x pos'] a pos) (liftS Z (setX i fx)) := (ps_set hN hi hx he hs hf).imp fun _ _ _ h => l_setX h
theorem own2_of_in {K : PySem.W.Frag} {h : Heap} {mg : Str → Option Value} {x : Str} {C : Addr} {bmB : List Value} {newId : String} (X : K.In h) (hb : mg x = some (.ref C)) (q : PySem.W.excIn K C bmB newId = true) : OwnCls x C bmB newId mg h := by
  refine ⟨hb, ?_⟩
  unfold PySem.W.excIn at q
  split at q
  · rename_i dd cd sl ho
    split at q
    · rename_i C2 bm s0 s1 s2 s3 id s5 hm hs
      simp only [Bool.and_eq_true, beq_iff_eq, Bool.not_eq_true'] at q
      obtain ⟨⟨⟨⟨⟨rfl, rfl⟩, hdl⟩, ht⟩, hok⟩, hin⟩ := q
      obtain ⟨nm, bs, mro, ns, qn, hd, sn, sub, ab, col, del⟩ := cd
      dsimp only at hm hdl hok hin
      subst hm hdl
      obtain ⟨l⟩ := sl
      simp only at hs
      subst hs
      exact ⟨bm, ns, nm, qn, bs, hd, sn, sub, ab, col, dd, s0, s1, s2, s3, s5, _, X _ _ ho,
        .of_isNs (PySem.W.isNs_of_in X hok), PySem.W.nsMap_none_of_in X hok hin, PySem.W.tail_of_in X ht⟩
    · cases q
  · cases q
theorem veb_base : ∀ h bm, OwnTail h VEB bm → bm.contains (.type "BaseException") = true := fun h bm t => t.hasType (by decide)
theorem s_raise {x : Str} {C : Addr} {np cpos cp : Pos} {y : Str} {j : Nat} (th : Throws X fun cls od H' => Z.x cls od [] H') (hc : X.calm = true) (oc : OwnCls x C VEB "ValueError.__new__" X.mg X.base) (cl : ClsIs X.K x C) (hx : ∀ cls od σ H', Z.x cls od σ H' → Z.x cls od [] H' := by exact fun _ _ _ _ h => h) (hex : X.ex = [] := by rfl) (hg : Gl X x := by rfl)
    (he : starEach [.Constant (.str y) j cp] X.env = (false, eval (.Constant (.str y) j cp) X.env) :: starEach [] X.env := by rfl) (hpl : ((backTo cpos (starEach [.Constant (.str y) j cp] X.env)).any fun x => x.1) = false := by rfl)
    (hbk : ∃ z rest, backTo cpos (starEach [.Constant (.str y) j cp] X.env) = (false, z) :: rest := by exact ⟨_, _, rfl⟩) (hd : (x == ("__debug__" : Str)) = false := by decide) :
    PS X (.Raise (some (.Call (.Name x np) [.Constant (.str y) j cp] [] cpos)) none pos) (liftS Z (raiseF x)) :=
  (ps_raise th hc hex oc hg (pa_cons pe_str pa_nil he) he hpl hbk veb_base hd).imp fun _ _ _ h => l_raise cl hx h
theorem s_try {body : List Stmt} {fb : FS} {h0 : HX} {hs : List HX} (hb : ∀ pn xe EX, ThrowsT (X.inTry pn xe) EX → PSs (X.inTry pn xe) body (liftS (Z.wish EX) fb)) (ok : ∀ h ∈ h0 :: hs, (h.hd Z).Ok X) (hsub : ∀ h ∈ h0 :: hs, h.Sub X.K) (hex : X.ex = [] := by rfl) (hst : X.stack = X.env :: X.outer := by rfl) (hfr : X.env.frame = some X.env.locals := by rfl) :
    PS X (.Try body (((h0 :: hs).map (HX.hd Z)).map Hd.ast) [] [] pos) (liftS Z (tryF fb ((h0 :: hs).map HX.hf))) :=
 
  (ps_try (tb := fun EX => liftS (Z.wish EX) fb) (h0 := h0.hd Z) (hs := hs.map (HX.hd Z)) hb (fun h hh => by
    have hh' : h ∈ (h0 :: hs).map (HX.hd Z) := hh
    obtain ⟨g, hg, rfl⟩ := List.mem_map.mp hh'
    exact ok g hg) hex hst hfr).imp fun _ _ _ h => l_try (hs := h0 :: hs) hsub h
theorem all_one {α : Type} {P : α → Prop} {a : α} (h : P a) : ∀ x ∈ [a], P x := fun x hx => by rw [List.mem_singleton.mp hx]; exact h
theorem sub_nil {P : Addr → Prop} {K : PySem.W.Frag} : ∀ c ∈ ([] : List Str), ∀ C, ClsIs K c C → P C := fun _ h => nomatch h
theorem sub_cons {P : Addr → Prop} {K : PySem.W.Frag} {c : Str} {a : Addr} {r : List Str} (x : ClsIs K c a) (m : P a) (t : ∀ c ∈ r, ∀ C, ClsIs K c C → P C) : ∀ d ∈ c :: r, ∀ C, ClsIs K d C → P C := fun d hd C cl => by
  rcases List.mem_cons.mp hd with e | e
  · subst e
    have z := x.symm.trans cl
    cases z
    exact m
  · exact t d e C cl
theorem nm_some {P : Str → Nat → Prop} {m : Str} {j : Nat} (h : P m j) : ∀ n i, some (m, j) = some (n, i) → P n i := fun _ _ e => by cases e; exact h
/-! isinstance(e, ..), e an exception -/
@[simp] noncomputable def isxD (yes no : List Str) : D → Option SV
  | .exc c _ _ => if c ∈ yes then some (.fz (.bl true)) else if c ∈ no then some (.fz (.bl false)) else none
  | _ => none
theorem RepN.exc {K : PySem.W.Frag} {F H : Hp} {c : Str} {ks : List Str} {vs : List D} {v : V} (le : Same F H) (h : RepN K F H (.exc c ks vs) v) : ∃ a C dx, v = .ref a ∧ H a = some (.ext (excAt a C dx)) ∧ ClsIs K c C := by
  obtain ⟨sv, ns, e, n, sh, hp⟩ := h
  cases sh with
  | fz r => cases e; cases r with | exc cl h => exact ⟨_, _, _, rfl, le _ _ h, cl⟩ | exd cl h _ _ _ => exact ⟨_, _, _, rfl, le _ _ h, cl⟩
  | ol r => cases e
  | oK e' r => cases e
  | oT kb e' r => cases e
  | oN e' r => cases n
theorem isx_cases {yes no : List Str} {d : D} {sv : SV} (e : isxD yes no d = some sv) : ∃ c ks vs b, d = .exc c ks vs ∧ sv = .fz (.bl b) ∧ (b = true → c ∈ yes) ∧ (b = false → c ∈ no) := by
  unfold isxD at e
  split at e
  · rename_i c ks vs
    by_cases h1 : c ∈ yes
    · rw [if_pos h1] at e; cases e; exact ⟨c, ks, vs, true, rfl, rfl, fun _ => h1, fun z => nomatch z⟩
    · rw [if_neg h1] at e
      by_cases h2 : c ∈ no
      · rw [if_pos h2] at e; cases e; exact ⟨c, ks, vs, false, rfl, rfl, (fun z => nomatch z), fun _ => h2⟩
      · rw [if_neg h2] at e; cases e
  · cases e
noncomputable def Kn (K : PySem.W.Frag) (r : Addr → Bool → Prop) (yes no : List Str) : Prop := (∀ c ∈ yes, ∀ C, ClsIs K c C → ExcKit K C ∧ r C true) ∧ ∀ c ∈ no, ∀ C, ClsIs K c C → ExcKit K C ∧ r C false
theorem Kn.at' {K : PySem.W.Frag} {r : Addr → Bool → Prop} {yes no : List Str} (k : Kn K r yes no) {c : Str} {C : Addr} {b : Bool} (h1 : b = true → c ∈ yes) (h2 : b = false → c ∈ no) (cl : ClsIs K c C) : ExcKit K C ∧ r C b := by
  cases b with
  | true => exact k.1 c (h1 rfl) C cl
  | false => exact k.2 c (h2 rfl) C cl
theorem p_isX {c : V} {cv : Value} {yes no : List Str} (kn : Kn X.K (fun C b => PySem.W.kitOne X.K (.ref C) cv = some b) yes no) : Prim1 Z (fun x H Q => rIsX X.K c cv [x, c] H Q) (isxD yes no) := by
  intro F H σ δ own x d sv Q s r e k
  obtain ⟨c', ks, vs, b, rfl, rfl, h1, h2⟩ := isx_cases e
  obtain ⟨a, C, dx, rfl, ha, cl⟩ := r.exc s.le
  obtain ⟨q1, q2⟩ := kn.at' h1 h2 cl
  exact ⟨a, C, dx, b, rfl, ha, q1, q2, k.fz s (.bl b)⟩
theorem e_isX {x : Str} {B : Addr} {p p2 : Pos} {yes no : List Str} (hm : X.mg "isinstance" = none) (hmc : X.mg x = some (.ref B)) (kn : Kn X.K (fun C b => PySem.W.kitOne X.K (.ref C) (.ref B) = some b) yes no) (ha : PE X a (liftE Z fa))
    (hg : Gl X "isinstance" := by rfl) (hgc : Gl X x := by rfl) (hdb : (x == ("__debug__" : Str)) = false := by decide) (he : starEach [a, .Name x p2] X.env = (false, eval a X.env) :: starEach [.Name x p2] X.env := by rfl) (he2 : starEach [.Name x p2] X.env = (false, eval (.Name x p2) X.env) :: starEach [] X.env := by rfl) (hpl : (backTo pos (starEach [.Name x p2] X.env)).any (·.1) = false := by rfl) :
    PE X (.Call (.Name "isinstance" p) [a, .Name x p2] [] pos) (liftE Z (unF (isxD yes no) fa)) :=
  (pe_callB (call_isX (c := .ref B) (cv := .ref B) fun u h => h) hg hm boot_isinstance (pa_cons ha (pa_cons (pe_glob (v := .ref B) hgc hmc rfl hdb) pa_nil he2) he) (by decide) (by decide) he hpl).imp fun σ H Q h => l_un (p_isX (c := .ref B) kn) h
theorem boot_VE : bootBuiltins "ValueError" = some (.type "ValueError") := by decide +kernel
theorem e_isXB {x : Str} {t : String} {p p2 : Pos} {yes no : List Str} (hm : X.mg "isinstance" = none) (hmc : X.mg x = none) (hv : bootBuiltins x = some (.type t)) (kn : Kn X.K (fun C b => PySem.W.kitOne X.K (.ref C) (.type t) = some b) yes no) (ha : PE X a (liftE Z fa))
    (hg : Gl X "isinstance" := by rfl) (hgc : Gl X x := by rfl) (hn : x ≠ "__name__" := by decide) (hdb : (x == ("__debug__" : Str)) = false := by decide) (he : starEach [a, .Name x p2] X.env = (false, eval a X.env) :: starEach [.Name x p2] X.env := by rfl) (he2 : starEach [.Name x p2] X.env = (false, eval (.Name x p2) X.env) :: starEach [] X.env := by rfl) (hpl : (backTo pos (starEach [.Name x p2] X.env)).any (·.1) = false := by rfl) :
    PE X (.Call (.Name "isinstance" p) [a, .Name x p2] [] pos) (liftE Z (unF (isxD yes no) fa)) :=
  (pe_callB (call_isX (c := .ty t) (cv := .type t) fun u h => h) hg hm boot_isinstance (pa_cons ha (pa_cons (pe_bltn (v := .ty t) hgc hmc hv rfl hn hdb) pa_nil he2) he) (by decide) (by decide) he hpl).imp fun σ H Q h => l_un (p_isX (c := .ty t) kn) h
end
end DL

/-! DICT DISPLAYS with text keys; min of two -/
namespace DL
open PySem PySem.Spec PyProof.Rows L2
section
variable {X : Cx} {pins : List (Addr × Obj)} {σ : L2.St} {H : Hp} {s : Shared}
end
section
variable {K : PySem.W.Frag} {Z : Ent K} {σ : L2.St} {H : Hp} {Q : VK}
end
section
variable {X : Cx} {Z : Ent X.K} {a b c : Expr} {fa fb fc : FE} {pos : Pos}
end
end DL

/-! MANY TEXTS in a display -/
namespace DL
open PySem PySem.Spec PyProof.Rows L2
@[simp] noncomputable def textsF (ss : List Str) (fd : FD) : FD := fun δ => (fd δ).bind fun p => some (ss.map D.str ++ p.1, p.2)
theorem l_texts {K : PySem.W.Frag} {Z : Ent K} {σ : L2.St} {H : Hp} {fd : FD} : ∀ (ss : List Str) {R : List V → Hp → Prop}, liftD Z (textsF ss fd) σ H R → liftD Z fd σ H fun vs H' => R (ss.map V.str ++ vs) H'
  | ss, R, h => by
    obtain ⟨F, δ, own, ds, δ', s, e, k⟩ := h
    obtain ⟨⟨ds1, δ1⟩, e1, e2⟩ := Option.bind_eq_some_iff.mp e
    cases e2
    refine ⟨F, δ, own, ds1, δ1, s, e1, fun vs H' F' own' a b c r => k _ H' F' own' a b c ?_⟩
    exact Reps.append (strs_rep ss) r
where strs_rep {F : Hp} : ∀ ss : List Str, Reps K F (ss.map D.str) (ss.map V.str)
  | [] => .nil
  | x :: r => .cons (.str x) (strs_rep r)
section
variable {X : Cx} {Z : Ent X.K} {pos : Pos}
noncomputable abbrev cst (x : Str × Nat × Pos) : Expr := .Constant (.str x.1) x.2.1 x.2.2
theorem pa_texts {es : List Expr} {t : TA} (h : PA X es t) : ∀ l : List (Str × Nat × Pos), PA X (l.map cst ++ es) fun σ H R => t σ H fun vs H' => R ((l.map fun x => V.str x.1) ++ vs) H'
  | [] => h
  | x :: r => (pa_cons (e := cst x) (es := r.map cst ++ es) pe_str (pa_texts h r) rfl).imp fun σ H R q => q
theorem d_texts {es : List Expr} {fd : FD} (l : List (Str × Nat × Pos)) (h : PA X es (liftD Z fd)) : PA X (l.map cst ++ es) (liftD Z (textsF (l.map (·.1)) fd)) :=
  (pa_texts h l).imp fun σ H R q => by
    have := l_texts (l.map (·.1)) q
    rw [List.map_map] at this
    exact this
end
end DL

/-! A COMPREHENSION whose items may raise -/
namespace DL
open PySem PySem.Spec PyProof.Rows L2
section
variable {K : PySem.W.Frag}
inductive RC where
  | v (δ : DSt) | x (e : Exn)
noncomputable def xX (K : PySem.W.Frag) (f : FX) (EX : EXT) : TE := fun σ H Q => ∃ Z : Ent K, Z.x = EX ∧ liftX Z f σ H Q
@[simp] noncomputable def compXD (src : List BSrc) (k : Nat) (g : FG) (tt : FT) (te : FX) : List D → DSt → Option RC
  | [], δ => some (.v δ)
  | d :: ds, δ => (g.run d δ).bind fun δ1 => (tt δ1).bind fun p => if p.1 = true then (te p.2).bind (fun
    | .x e _ => some (.x e)
    | .v rv δ2 => (frz rv δ2).bind fun r => match r.2[k]? with
      | some (some (.ol zs)) => if zs.length < PySem.sizeLine then compXD src k g tt te ds (reset src (r.2.set k (some (.ol (zs ++ [r.1]))))) else none
      | _ => none)
    else compXD src k g tt te ds (reset src p.2)
@[simp] noncomputable def compX (src : List BSrc) (k : Nat) (fi : FD) (g : FG) (tt : FT) (te : FX) : FX := fun δ => (fi δ).bind fun p => (frzAll (caps src) p.2).bind fun c => (compXD src k g tt te p.1 (bD src c.2)).bind fun
  | .x e => some (.x e c.2)
  | .v δb => match δb[k]? with
    | some (some (.ol ys)) => some (.v (.tmp (.ol ys)) c.2)
    | _ => none
theorem l_compX {Z : Ent K} {H : Hp} {σ : L2.St} {Q : VK} {src : List BSrc} {k : Nat} {fi : FD} {g : FG} {tt : FT} {te : FX} (S : SrcOk src k) (hk : k ∉ g.tch) (h : liftX Z (compX src k fi g tt te) σ H Q) :
    tCompX src (liftI Z fi) (xG K g) (xT K tt) (xX K te) Z.x σ H Q := by
  obtain ⟨F, δ, own, rx, s, e, k0⟩ := h
  obtain ⟨⟨ds, δ1⟩, e1, e2⟩ := Option.bind_eq_some_iff.mp e
  obtain ⟨⟨cs, δ2⟩, e3, e4⟩ := Option.bind_eq_some_iff.mp e2
  obtain ⟨δf, e5, e6⟩ := Option.bind_eq_some_iff.mp e4
  refine ⟨F, δ, own, ds, δ1, s, e1, fun J H1 F1 own1 sH sF s1 yl acc ha => ?_⟩
  obtain ⟨F2, own2, sF2, s2⟩ := s1.caps (fun rv hr => by
    unfold DL.caps at hr
    obtain ⟨b, _, hb⟩ := List.mem_filterMap.mp hr
    cases b with
    | own => cases hb
    | acc => cases hb
    | cap j => cases hb; exact ⟨j, rfl⟩) e3
  have s3 : SR (⟨H1, F2, fun cls od _ H' => Z.x cls od σ H'⟩ : Ent K) F2 (upd H1 acc (.lst [])) (bSt src σ acc) (bD src δ2) (fun i => if i = k then [(acc, .lst [])] else []) := (block_sr S s2 ha).ent
  have hacc0 : (bSt src σ acc)[k]? = some (some (.ref acc)) := by unfold bSt; rw [List.getElem?_map, S.acc]; rfl
  refine ⟨fun i m σ' H => m = ds.length - i ∧ i ≤ ds.length ∧ σ'[k]? = some (some (.ref acc)) ∧ ∃ F δ own, Same F2 F ∧ SR (⟨H1, F2, fun cls od _ H' => Z.x cls od σ H'⟩ : Ent K) F H σ' δ own ∧ compXD src k g tt te (ds.drop i) δ = some δf,
    ⟨ds.length, by simp, Nat.zero_le _, hacc0, F2, _, _, Same.refl F2, s3, e5⟩, ?_⟩
  rintro i m σ4 H4 ⟨rfl, hi, hacc, F4, δ4, own4, sF4, s4, ef⟩
  by_cases hlt : i < ds.length
  · have hd : ds[i]? = some ds[i] := by simp [hlt]
    obtain ⟨go, yy⟩ := (yl F4 H4 (sF2.trans sF4) s4.le i).1 _ hd
    rw [List.drop_eq_getElem_cons hlt] at ef
    obtain ⟨δ5, e7, e8⟩ := Option.bind_eq_some_iff.mp ef
    obtain ⟨⟨b, δ6⟩, e9, e10⟩ := Option.bind_eq_some_iff.mp e8
    refine .inr ⟨go, fun x H5 hy => ?_⟩
    obtain ⟨sm, ns, nd, hn, rp⟩ := yy x H5 hy
    obtain ⟨sFn, sn⟩ := s4.fresh sm nd hn
    refine ⟨(⟨H1, F2, fun cls od _ H' => Z.x cls od σ H'⟩ : Ent K), addL F4 ns, δ4, own4, _, δ5, sn, rp, e7, fun σ6 own6 s6 t6 => ⟨(⟨H1, F2, fun cls od _ H' => Z.x cls od σ H'⟩ : Ent K), addL F4 ns, δ5, own6, b, δ6, s6, e9, fun H7 F7 own7 sH7 sF7 s7 => ?_⟩⟩
    have hacc6 : σ6[k]? = some (some (.ref acc)) := (t6 k hk).trans hacc
    cases b with
    | false =>
      dsimp only
      rw [if_neg Bool.false_ne_true] at e10 ⊢
      exact ⟨ds.length - (i + 1), by omega, rfl, hlt, hacc6, F7, _, own7, sF4.trans (sFn.trans sF7), s7.forget (reset_len src δ6) (fun j sv hj => reset_get hj), e10⟩
    | true =>
      dsimp only
      rw [if_pos rfl] at e10 ⊢
      obtain ⟨r1, e11, e12⟩ := Option.bind_eq_some_iff.mp e10
      cases r1 with
      | x x8 δ8 =>
        cases e12
        cases e6
        exact ⟨(⟨H1, F2, fun cls od _ H' => Z.x cls od σ H'⟩ : Ent K), rfl, F7, δ6, own7, _, s7, e11, fun H' F' own' cls od sF' s' r' => k0 H' F' own2 cls od (sF.trans (sF2.trans (sF4.trans (sFn.trans (sF7.trans sF'))))) (s2.after s'.old (sF4.trans (sFn.trans (sF7.trans sF'))) s'.le fun b o e => s'.fro b o e) r'⟩
      | v rv8 δ8 =>
        obtain ⟨⟨d9, δ9⟩, e13, e14⟩ := Option.bind_eq_some_iff.mp e12
        refine ⟨(⟨H1, F2, fun cls od _ H' => Z.x cls od σ H'⟩ : Ent K), rfl, F7, δ6, own7, _, s7, e11, fun y H8 F8 own8 sH8 sF8 s8 r8 => ?_⟩
        obtain ⟨F9, sF9, s9, r9⟩ := s8.settleR r8
        obtain ⟨F10, own10, sF10, s10, r10⟩ := s9.frzR r9 e13
        dsimp only at e14
        split at e14
        · rename_i zs hz
          by_cases hzl : zs.length < PySem.sizeLine
          · rw [if_pos hzl] at e14
            obtain ⟨v', hv', sh'⟩ := s10.at' k _ hz
            rw [hacc6] at hv'; cases hv'
            obtain ⟨b, vs, eb, en', r'⟩ := shape_ol sh'
            cases eb
            have mb : (acc, HO.lst vs) ∈ own10 k := by rw [en']; exact List.mem_cons_self
            refine ⟨acc, vs, y, rfl, rfl, (s10.ok k _ mb).2.2, by rw [← r'.length]; exact hzl, ?_⟩
            have s11 := s10.change (sv' := .ol (zs ++ [d9])) (o' := .lst (vs ++ [y])) (ns' := [(acc, .lst (vs ++ [y]))]) hz hacc6 mb (.ol (r'.snoc r10)) (fun p hp => .inl (List.mem_singleton.mp hp)) nd1
            exact ⟨ds.length - (i + 1), by omega, rfl, hlt, hacc6, F10, _, _, sF4.trans (sFn.trans (sF7.trans (sF8.trans (sF9.trans sF10)))), s11.forget (reset_len src _) (fun j sv hj => reset_get hj), e14⟩
          · rw [if_neg hzl] at e14; cases e14
        · cases e14
  · have hz : i = ds.length := by omega
    subst hz
    rw [List.drop_length] at ef
    cases ef
    refine .inl ⟨(yl F4 H4 (sF2.trans sF4) s4.le _).2 (Nat.le_refl _), ?_⟩
    dsimp only at e6
    split at e6
    · rename_i ys hys
      cases e6
      obtain ⟨v', hv', sh'⟩ := s4.at' k _ hys
      rw [hacc] at hv'; cases hv'
      obtain ⟨b, vs, eb, en', r'⟩ := shape_ol sh'
      cases eb
      have mb : (acc, HO.lst vs) ∈ own4 k := by rw [en']; exact List.mem_cons_self
      obtain ⟨o1, o2, o3⟩ := s4.ok k _ mb
      refine k0 (.ref acc) H4 F4 own2 (sH.trans s4.old) (sF.trans (sF2.trans sF4)) (s2.after s4.old sF4 s4.le fun b o e => s4.fro b o e) ⟨[(acc, .lst vs)], .ol r', nd1, fun p hp => ?_, fun j p q hp hq e => ?_⟩
      · obtain rfl := List.mem_singleton.mp hp
        exact ⟨o1, s2.old.free ha, o3⟩
      · obtain rfl := List.mem_singleton.mp hp
        have z := (s2.ok j q hq).2.2
        have e' : acc = q.1 := e
        rw [← e', ha] at z; cases z
    · cases e6
end
section
variable {X : Cx} {Z : Ent X.K} {pos : Pos}
theorem xx {elt : Expr} {f : FX} {EX : EXT} (h : ∀ Z : Ent X.K, Z.x = EX → PE X elt (liftX Z f)) : PE X elt (xX X.K f EX) := fun pins s σ H Q I ⟨Z, e, q⟩ => h Z e pins s σ H Q I q
theorem pass_eq {EX : EXT} (h : Z.x = EX) (t : PassX X EX) : PassX X Z.x := by rw [h]; exact t
theorem x_comp {N' : List Str} {scope : Scope} {src : List BSrc} {k : Nat} {tg elt iter : Expr} {ifs : List Expr} {fi : FD} {g : FG} {tt : FT} {te : FX} (hc : X.calm = true) (th : ThrowsT X Z.x) (S : CompScope X N' scope src) (So : SrcOk src k) (hk : k ∉ g.tch) (hi : PI X tg iter (liftI Z fi))
    (hg : ∀ (C : Addr) (s₀ : Shared) (H₀ : Hp) (ex : List Addr), PG (X.block N' scope C s₀ H₀ ex) tg (xG X.K g)) (ht : ∀ (C : Addr) (s₀ : Shared) (H₀ : Hp) (ex : List Addr), PTs (X.block N' scope C s₀ H₀ ex) ifs (xT X.K tt))
    (he : ∀ (C : Addr) (s₀ : Shared) (H₀ : Hp) (ex : List Addr) (xe : Value → Shared → Prop) (EX : EXT), PassX (X.blockX N' scope C s₀ H₀ ex xe) EX → PE (X.blockX N' scope C s₀ H₀ ex xe) elt (xX X.K te EX))
    (hex : X.ex = [] := by rfl) (hst : X.stack = X.env :: X.outer := by rfl) (hfr : X.env.frame = some X.env.locals := by rfl)
    (hs : ∀ x, foldedSetIterable iter X.env x = pure x := by intro _; rfl) : PE X (.ListComp elt [⟨tg, iter, ifs, 0⟩] scope pos) (liftX Z (compX src k fi g tt te)) := (pe_compX hc hex hst hfr th S hi hg ht he hs).imp fun _ _ _ h => l_compX So hk h
theorem throwsT_fn {P : Program} {w : World} {K : PySem.W.Frag} {mg : Str → Option Value} {base : Heap} {N : List Str} {qual : Str} {scope : Scope} {f : Addr} {cd : Value} {A : Around} {outer : List Env} {s : Shared} {H : Hp} {E : XK} :
    ThrowsT (cxOf (CX1 P w) P w K mg base N qual scope f cd A outer s H E) fun cls od _ H' => E cls od H' := throws_fn.t
theorem s_try1s {body : List Stmt} {fb f : FS} {x n : Str} {i : Nat} {np hp : Pos} {b0 : Stmt} {suite : List Stmt} {B : Addr} {yes no : List Str} (hb : ∀ pn xe EX, ThrowsT (X.inTry pn xe) EX → PSs (X.inTry pn xe) body (liftS (Z.wish EX) fb)) (mg : X.mg x = some (.ref B))
    (ck : PySem.W.typeIn X.K (.ref B) = some (.type "type") ∧ PySem.W.isClsIn X.K B = true ∧ PySem.W.mroIn X.K B (.type "BaseException") = some true) (nd : X.N.Nodup) (su : ∀ a, PSs (X.inSuite a) (b0 :: suite) (liftS Z f))
    (hy : ∀ c ∈ yes, ∀ C, ClsIs X.K c C → PySem.W.mroIn X.K C (.ref B) = some true) (hn : ∀ c ∈ no, ∀ C, ClsIs X.K c C → PySem.W.mroIn X.K C (.ref B) = some false)
    (ni : X.N[i]? = some n := by rfl) (lc : X.env.scope.names.lookup n = some .local := by rfl) (gl : Gl X x := by rfl) (db : (x == ("__debug__" : Str)) = false := by decide) (hex : X.ex = [] := by rfl) (hst : X.stack = X.env :: X.outer := by rfl) (hfr : X.env.frame = some X.env.locals := by rfl) :
    PS X (.Try body [.ExceptHandler (some (.Name x np)) (some n) (b0 :: suite) hp] [] [] pos) (liftS Z (tryF fb [⟨some i, yes, no, f⟩])) :=
  s_try (h0 := ⟨x, np, some (n, i), b0, suite, hp, B, yes, no, f⟩) (hs := []) hb (all_one ⟨gl, mg, ck.1, ck.2.1, ck.2.2, db, nm_some ⟨nd, ni, .inl lc, lc, lc⟩, su⟩) (all_one ⟨hy, hn⟩) hex hst hfr
end
end DL

/-! slices with a step -/
namespace L2
open PySem PySem.Spec PyProof.Rows
section
variable {X : Cx} {e st : Expr} {te : TE} {lo hi : Option Expr} {tl th ts : TO} {pos p2 : Pos}
end
end L2
namespace DL
open PySem PySem.Spec PyProof.Rows L2
section
variable {K : PySem.W.Frag} {Z : Ent K} {H : Hp} {σ : L2.St} {Q : VK}
end
end DL

/-! lists of a known length, without a match of their own -/
namespace DL
section
variable {α : Type} {P : List α → Prop}
@[elab_as_elim] theorem of0 (h : P []) (us : List α) (hl : us.length = 0) : P us := by
  have : us = [] := List.eq_nil_of_length_eq_zero hl
  rw [this]; exact h
@[elab_as_elim] theorem of1 (h : ∀ a, P [a]) (us : List α) (hl : us.length = 1) : P us := by
  obtain ⟨a, e⟩ := List.length_eq_one_iff.mp hl
  rw [e]; exact h a
theorem ofC {n : Nat} (h : ∀ a (us : List α), us.length = n → P (a :: us)) (us : List α) (hl : us.length = n + 1) : P us := by
  cases us with
  | nil => exact absurd hl (by simp)
  | cons a r => exact h a r (by simpa using hl)
@[elab_as_elim] theorem of2 (h : ∀ a b, P [a, b]) (us : List α) (hl : us.length = 2) : P us := ofC (fun a => of1 (P := fun us => P (a :: us)) (h a)) us hl
@[elab_as_elim] theorem of3 (h : ∀ a b c, P [a, b, c]) (us : List α) (hl : us.length = 3) : P us := ofC (fun a => of2 (P := fun us => P (a :: us)) (h a)) us hl
@[elab_as_elim] theorem of4 (h : ∀ a b c d, P [a, b, c, d]) (us : List α) (hl : us.length = 4) : P us := ofC (fun a => of3 (P := fun us => P (a :: us)) (h a)) us hl
@[elab_as_elim] theorem of5 (h : ∀ a b c d e, P [a, b, c, d, e]) (us : List α) (hl : us.length = 5) : P us := ofC (fun a => of4 (P := fun us => P (a :: us)) (h a)) us hl
@[elab_as_elim] theorem of6 (h : ∀ a b c d e f, P [a, b, c, d, e, f]) (us : List α) (hl : us.length = 6) : P us := ofC (fun a => of5 (P := fun us => P (a :: us)) (h a)) us hl
end
end DL

/-! A DICT, WALKED: for k in d -/
namespace L2
open PySem PySem.Spec PyProof.Rows
section
variable {prog : Program} {w : World} {A : Around} {E : Value → Shared → Prop} {s : Shared} {q d : Addr} {i n ep : Nat} {od : Obj} {es : Array DictEntry}
end
section
variable {X : Cx} {tg : Expr}
end
end L2
namespace DL
open PySem PySem.Spec PyProof.Rows L2
variable {K : PySem.W.Frag}
section
variable {Z : Ent K} {H : Hp} {σ : L2.St}
end
end DL

/-! in, where no dict is met: a text, a list or tuple of flat things -/
namespace DL
open PySem PySem.Spec PyProof.Rows L2
variable {K : PySem.W.Frag}
@[simp] noncomputable def inW (d1 d2 : D) : Option SV := match d2.seq? with
  | some xs => if d1.isFlat = true ∧ xs.all D.isFlat = true then some (.fz (.bl (inFl d1 xs))) else none
  | none => inD d1 d2
@[simp] noncomputable def notinW (d1 d2 : D) : Option SV := match d2.seq? with
  | some xs => if d1.isFlat = true ∧ xs.all D.isFlat = true then some (.fz (.bl (!inFl d1 xs))) else none
  | none => notinD d1 d2
section
variable {Z : Ent K}
theorem p_inW : Prim2 Z (fun x y H Q => (∃ i j, x = .str i ∧ y = .str j ∧ Q (.bl (!(Builtin.Str.occurrences j i 0 j.length 1).isEmpty)) H) ∨ rIn K false x y H Q) inW := by
  intro F H σ δ own x y d1 d2 sv Q s r1 r2 e k
  unfold inW at e
  split at e
  · rename_i xs hx
    split at e
    · rename_i hf
      cases e
      obtain ⟨a, vs, rfl, hq, rr⟩ := seq_ok s.le r2 hx
      obtain ⟨e1, f1⟩ := fv_ok r1 hf.1
      obtain ⟨e2, f2⟩ := fvs_ok rr hf.2
      refine .inr ⟨a, vs, rfl, hq, f1, f2, ?_⟩
      rw [e1, e2, inFl_ok]
      exact k.fz s (.bl _)
    · cases e
  · exact .inl (p_in F H σ δ own x y d1 d2 sv Q s r1 r2 e k)
theorem p_notinW : Prim2 Z (fun x y H Q => (∃ i j, x = .str i ∧ y = .str j ∧ Q (.bl (!(!(Builtin.Str.occurrences j i 0 j.length 1).isEmpty))) H) ∨ rIn K true x y H Q) notinW := by
  intro F H σ δ own x y d1 d2 sv Q s r1 r2 e k
  unfold notinW at e
  split at e
  · rename_i xs hx
    split at e
    · rename_i hf
      cases e
      obtain ⟨a, vs, rfl, hq, rr⟩ := seq_ok s.le r2 hx
      obtain ⟨e1, f1⟩ := fv_ok r1 hf.1
      obtain ⟨e2, f2⟩ := fvs_ok rr hf.2
      refine .inr ⟨a, vs, rfl, hq, f1, f2, ?_⟩
      rw [e1, e2, inFl_ok]
      exact k.fz s (.bl _)
    · cases e
  · exact .inl (p_notin F H σ δ own x y d1 d2 sv Q s r1 r2 e k)
end
section
variable {X : Cx} {Z : Ent X.K} {a b : Expr} {fa fb : FE} {pos : Pos}
theorem e_inW (hu : X.A.units + 1 < cLine) (ha : PE X a (liftE Z fa)) (hb : PE X b (liftE Z fb)) (hm : behindInMarks .In b = false := by rfl) : PE X (.Compare a [.In] [b] pos) (liftE Z (binF inW fa fb)) := e_cmp (op_in_str.or op_in_seq) p_inW ha hb hm
theorem e_notinW (hu : X.A.units + 1 < cLine) (ha : PE X a (liftE Z fa)) (hb : PE X b (liftE Z fb)) (hm : behindInMarks .NotIn b = false := by rfl) : PE X (.Compare a [.NotIn] [b] pos) (liftE Z (binF notinW fa fb)) := e_cmp (op_notIn_str.or op_notIn_seq) p_notinW ha hb hm
theorem t_notinW (hu : X.A.units + 1 < cLine) (ha : PE X a (liftE Z fa)) (hb : PE X b (liftE Z fb)) (hm : behindInMarks .NotIn b = false := by rfl) : PT X (.Compare a [.NotIn] [b] pos) (liftT Z (testF (binF notinW fa fb))) := t_cmp (op_notIn_str.or op_notIn_seq) p_notinW ha hb hm
end
end DL

/-! MATHEMATICS OF TEXTS AND LISTS, of no law alone -/
namespace My
open DL PySem
theorem line_of {n : Nat} (h : n ≤ 16777216) : n ≤ PySem.sizeLine := h
theorem line_lt {n : Nat} (h : n < 16777216) : n < PySem.sizeLine := h
noncomputable abbrev LET : Str := "ABCDEFGHIJKLMNOPQRSTUVWXYZabcdefghijklmnopqrstuvwxyz"
theorem let_len : LET.cps.toList.length = 52 := by decide +kernel
theorem let_size : LET.length ≤ PySem.sizeLine := by decide +kernel
theorem letter (i : Int) : ∃ c, L2.atI LET.cps.toList (i % 52) = some c ∧ c ∈ LET.cps.toList := by
  have h0 : 0 ≤ i % 52 := Int.emod_nonneg _ (by decide)
  have h1 : i % 52 < 52 := Int.emod_lt_of_pos _ (by decide)
  unfold L2.atI L2.ixN
  rw [let_len, if_pos h0, if_pos (by exact h1)]
  have hj : (i % 52).toNat < LET.cps.toList.length := by rw [let_len]; omega
  exact ⟨LET.cps.toList[(i % 52).toNat], by simp [hj], List.getElem_mem hj⟩
theorem app_len (a b : Str) : (a ++ b).length = a.length + b.length := by
  show (a.cps ++ b.cps).size = a.cps.size + b.cps.size
  simp
theorem one_len (c : Nat) : (⟨#[c]⟩ : Str).length = 1 := rfl
theorem ints_map (n : Nat) : intsD 0 n = ((List.range n).map fun i : Nat => (0 + (i : Int))).map D.int := by unfold intsD; simp
theorem ints_len (n : Nat) : (intsD 0 n).length = n := by unfold intsD; simp
theorem strs_map : ∀ xs : List Str, strs? (xs.map D.str) = some xs
  | [] => rfl
  | x :: r => by simp [strs_map r]
theorem cut_map (ns : List Int) (lo hi : Option Int) : ∃ ms : List Int, cutD (ns.map D.int) lo hi = ms.map D.int ∧ ms.length ≤ ns.length := by
  unfold cutD
  refine ⟨(ns.drop _).take _, by rw [List.map_take, List.map_drop], ?_⟩
  rw [List.length_take, List.length_drop]; omega
/-! texts one behind another -/
noncomputable def cat : List Str → Str
  | [] => ""
  | x :: r => x ++ cat r
theorem join_cat : ∀ xs : List Str, Str.join (Str.ofString "") xs = cat xs
  | [] => rfl
  | [x] => by show x = x ++ Str.empty; rw [Str.append_empty]
  | x :: y :: r => by
    show x ++ Str.empty ++ Str.join (Str.ofString "") (y :: r) = x ++ cat (y :: r)
    rw [Str.append_empty, join_cat (y :: r)]
theorem tjoin0 (xs : List Str) : Txt.join (Str.ofString "") xs = cat xs := (StrLaws.glued_eq_join _ xs).trans (join_cat xs)
theorem tjoin (sep : Str) (xs : List Str) : Txt.join sep xs = Str.join sep xs := StrLaws.glued_eq_join _ xs
theorem joinOk {sep : Str} {xs : List Str} {B : Nat} (h : ∀ x ∈ xs, x.length ≤ B) (hz : xs.length * B + xs.length * sep.length ≤ 16777216) : JoinOk sep xs = true := by
  unfold JoinOk
  rw [StrLaws.joinFits h hz]; rfl
/-! comprehensions that only look at their items -/
theorem comp_own {te : FE} {f : D → D} : ∀ (xs ys : List D), (∀ x ∈ xs, ∀ zs, te [some (.fz x), some (.ol zs)] = some (.tmp (.fz (f x)), [some (.fz x), some (.ol zs)])) → ys.length + xs.length ≤ 16777216 →
    compD [.own, .acc] 1 (gNameF 0) trueT te xs [none, some (.ol ys)] = some [none, some (.ol (ys ++ xs.map f))]
  | [], ys, _, _ => by simp
  | x :: xs, ys, h, hl => by
    rw [List.length_cons] at hl
    have ih := comp_own (te := te) (f := f) xs (ys ++ [f x]) (fun y hy => h y (List.mem_cons_of_mem _ hy)) (by rw [List.length_append]; simp; omega)
    have e1 := h x List.mem_cons_self ys
    have h4 : ys.length < PySem.sizeLine := line_lt (by omega)
    simp [e1, h4]
    simpa using ih
theorem comp_cap {te : FE} {f : D → D} {c : Option SV} {j : Nat} : ∀ (xs ys : List D), (∀ x ∈ xs, ∀ zs, te [some (.fz x), c, some (.ol zs)] = some (.tmp (.fz (f x)), [some (.fz x), c, some (.ol zs)])) → ys.length + xs.length ≤ 16777216 →
    compD [.own, .cap j, .acc] 2 (gNameF 0) trueT te xs [none, c, some (.ol ys)] = some [none, c, some (.ol (ys ++ xs.map f))]
  | [], ys, _, _ => by simp
  | x :: xs, ys, h, hl => by
    rw [List.length_cons] at hl
    have ih := comp_cap (te := te) (f := f) (c := c) (j := j) xs (ys ++ [f x]) (fun y hy => h y (List.mem_cons_of_mem _ hy)) (by rw [List.length_append]; simp; omega)
    have e1 := h x List.mem_cons_self ys
    have h4 : ys.length < PySem.sizeLine := line_lt (by omega)
    simp [e1, h4]
    simpa using ih
/-! deep == of one and the same -/
end My

/-! A TEXT THAT WAS JOINED, CUT AGAIN -/
namespace My
open DL PySem StrLaws Builtin.Str
noncomputable def gap (n : Nat) : Nat → List Nat → Prop
  | _, [] => True
  | a, p :: r => a ≤ p ∧ gap n (p + n) r
theorem gap_le {n : Nat} : ∀ {a : Nat} {P : List Nat}, gap n a P → ∀ i ∈ P, a ≤ i
  | _, [], _, i, h => nomatch h
  | a, p :: r, g, i, h => by
    rcases List.mem_cons.mp h with e | e
    · rw [e]; exact g.1
    · have := gap_le g.2 i e
      have := g.1
      omega
/-! the places where a joined text was joined -/
noncomputable def jl (y : List Nat) : List (List Nat) → List Nat
  | [] => []
  | [p] => p
  | p :: q :: r => p ++ y ++ jl y (q :: r)
noncomputable def pos (n : Nat) : Nat → List (List Nat) → List Nat
  | _, [] => []
  | _, [_] => []
  | a, p :: q :: r => (a + p.length) :: pos n (a + p.length + n) (q :: r)
theorem pos_gap (n : Nat) : ∀ (a : Nat) (ps : List (List Nat)), gap n a (pos n a ps)
  | _, [] => True.intro
  | _, [_] => True.intro
  | a, p :: q :: r => ⟨Nat.le_add_right _ _, pos_gap n _ (q :: r)⟩
theorem at_pos {y : List Nat} : ∀ (ps : List (List Nat)) (a i : Nat), i ∈ pos y.length a ps → a ≤ i ∧ i - a + y.length ≤ (jl y ps).length ∧ ((jl y ps).drop (i - a)).take y.length = y
  | [], _, _, h => nomatch h
  | [_], _, _, h => nomatch h
  | p :: q :: r, a, i, h => by
    show a ≤ i ∧ i - a + y.length ≤ (p ++ y ++ jl y (q :: r)).length ∧ ((p ++ y ++ jl y (q :: r)).drop (i - a)).take y.length = y
    rcases List.mem_cons.mp h with e | e
    · subst e
      rw [List.length_append, List.length_append, show a + p.length - a = p.length by omega]
      refine ⟨by omega, by omega, ?_⟩
      rw [List.append_assoc, List.drop_left, List.take_left]
    · obtain ⟨z1, z2, z3⟩ := at_pos (q :: r) (a + p.length + y.length) i e
      rw [List.length_append, List.length_append]
      refine ⟨by omega, by omega, ?_⟩
      rw [show i - a = (p ++ y).length + (i - (a + p.length + y.length)) by rw [List.length_append]; omega, ← List.drop_drop, List.drop_left]
      exact z3
theorem join_list (y : Str) : ∀ ps : List Str, (Str.join y ps).cps.toList = jl y.cps.toList (ps.map fun p => p.cps.toList)
  | [] => rfl
  | [p] => rfl
  | p :: q :: r => by
    show (p ++ y ++ Str.join y (q :: r)).cps.toList = p.cps.toList ++ y.cps.toList ++ jl y.cps.toList ((q :: r).map fun p => p.cps.toList)
    rw [← join_list y (q :: r)]
    simp [Str.cps_append]
theorem len_list (x : Str) : x.cps.toList.length = x.length := by simp [Str.length]
theorem sub_list (x : Str) (l : List Nat) (i j : Nat) (h : (x.cps.toList.drop i).take (j - i) = l) : strSub x i j = ⟨l.toArray⟩ := by
  apply Str.ext'
  apply Array.toList_inj.mp
  rw [strSub_toList, h]
theorem parts_of {y : List Nat} (x : Str) : ∀ (ps : List (List Nat)) (a : Nat), ps ≠ [] → x.cps.toList.drop a = jl y ps → a ≤ x.length → partsFrom x y.length a (pos y.length a ps) = ps.map fun p => ⟨p.toArray⟩
  | [], _, h, _, _ => absurd rfl h
  | [p], a, _, e, ha => by
    show [strSub x a x.length] = [⟨p.toArray⟩]
    rw [sub_list x p a x.length (by
      rw [e]
      show p.take _ = p
      have := congrArg List.length e
      rw [List.length_drop, len_list] at this
      have e2 : (jl y [p]).length = p.length := rfl
      rw [e2] at this
      rw [this]; exact List.take_length)]
  | p :: q :: r, a, _, e, ha => by
    have e : x.cps.toList.drop a = p ++ y ++ jl y (q :: r) := e
    show strSub x a (a + p.length) :: partsFrom x y.length (a + p.length + y.length) (pos y.length (a + p.length + y.length) (q :: r)) = ⟨p.toArray⟩ :: ((q :: r).map fun p => ⟨p.toArray⟩)
    have l1 := congrArg List.length e
    rw [List.length_drop, len_list, List.length_append, List.length_append] at l1
    rw [sub_list x p a (a + p.length) (by rw [e, show a + p.length - a = p.length by omega, List.append_assoc, List.take_left])]
    rw [parts_of x (q :: r) (a + p.length + y.length) (by simp) (by
      rw [show a + p.length + y.length = a + (p ++ y).length by rw [List.length_append]; omega, ← List.drop_drop, e, List.drop_left]) (by omega)]
theorem kind_pos (x : Str) : 1 ≤ Builtin.Str.strKind x := by unfold Builtin.Str.strKind; split <;> (try split) <;> decide
theorem pos_nil {n a : Nat} : ∀ {ps : List (List Nat)}, pos n a ps = [] → ps = [] ∨ ∃ p, ps = [p]
  | [], _ => .inl rfl
  | [p], _ => .inr ⟨p, rfl⟩
end My

/-! LOOPS; TEXTS AS LISTS OF SIGNS -/
namespace My
open DL PySem
theorem forD_nx {tg : FG} {body : FS} {d : D} {ds : List D} {δ δ1 δ2 : DSt} (h1 : tg.run d δ = some δ1) (h2 : body δ1 = some (.nx δ2)) : forD tg body (d :: ds) δ = forD tg body ds δ2 := by
  show (tg.run d δ).bind _ = _
  rw [h1, Option.bind_some, h2, Option.bind_some]
theorem forD_rt {tg : FG} {body : FS} {d : D} {ds : List D} {δ δ1 : DSt} {sv : SV} (h1 : tg.run d δ = some δ1) (h2 : body δ1 = some (.rt sv)) : forD tg body (d :: ds) δ = some (.rt sv) := by
  show (tg.run d δ).bind _ = _
  rw [h1, Option.bind_some, h2, Option.bind_some]
/-! texts as lists -/
noncomputable abbrev S (l : List Nat) : Str := ⟨l.toArray⟩
theorem S_len (l : List Nat) : (S l).length = l.length := by show l.toArray.size = _; simp
theorem S_app (a b : List Nat) : S a ++ S b = S (a ++ b) := by
  show (⟨a.toArray ++ b.toArray⟩ : Str) = ⟨(a ++ b).toArray⟩
  simp
theorem S_inj {a b : List Nat} (h : S a = S b) : a = b := by
  have : a.toArray = b.toArray := congrArg Str.cps h
  simpa using this
theorem S_ne {a b : List Nat} (h : a ≠ b) : S a ≠ S b := fun e => h (S_inj e)
theorem S_of (x : Str) : x = S x.cps.toList := by cases x; simp
theorem S_list (l : List Nat) : (S l).cps.toList = l := by simp
theorem slice_but (p : List Nat) (c : Nat) : Txt.slice (S (p ++ [c])) none (some (-1)) = S p := by
  have hl := S_len (p ++ [c])
  rw [List.length_append, List.length_singleton] at hl
  refine (StrLaws.sliceText_to_neg (by decide) (by rw [hl]; omega)).trans ?_
  rw [hl, S_list]
  have e : (-1 + ((p.length + 1 : Nat) : Int) - 0).toNat = p.length := by omega
  rw [e, List.drop_zero, List.take_left']
  rfl
theorem at_nat {α : Type} (p : List α) (i : Nat) (c : α) (h : p[i]? = some c) : L2.atI p (i : Int) = some c := by
  have hl := (List.getElem?_eq_some_iff.mp h).1
  unfold L2.atI L2.ixN
  rw [if_pos (by omega), if_pos (by omega)]
  simpa using h
/-! dicts -/
section
variable {κ : Type} [DecidableEq κ]
end
end My

/-! RANGES, LISTS OF TEXTS -/
namespace My
open DL PySem
noncomputable abbrev nats (s n : Nat) : List D := (List.range' s n).map fun i : Nat => D.int (i : Int)
theorem ints_nats (n : Nat) : intsD 0 n = nats 0 n := by
  unfold intsD
  rw [List.range_eq_range']
  refine List.map_congr_left fun i _ => ?_
  simp
theorem comp_ex {src : List L2.BSrc} {k : Nat} {g : FG} {tt : FT} {te : FE} {st : List D → DSt} {R : D → Prop} : ∀ (ds ys : List D),
    (∀ d ∈ ds, ∀ (zs ds' : List D), zs.length < PySem.sizeLine → ∃ v, R v ∧ compD src k g tt te (d :: ds') (st zs) = compD src k g tt te ds' (st (zs ++ [v]))) → ys.length + ds.length ≤ 16777216 →
    ∃ vs, compD src k g tt te ds (st ys) = some (st (ys ++ vs)) ∧ (∀ v ∈ vs, R v) ∧ vs.length = ds.length
  | [], ys, _, _ => ⟨[], by simp, (fun _ h => nomatch h), rfl⟩
  | d :: ds, ys, h, hl => by
    rw [List.length_cons] at hl
    obtain ⟨v, hv, e⟩ := h d List.mem_cons_self ys ds (line_lt (by omega))
    obtain ⟨vs, e2, h2, h3⟩ := comp_ex ds (ys ++ [v]) (fun x hx => h x (List.mem_cons_of_mem _ hx)) (by rw [List.length_append, List.length_singleton]; omega)
    refine ⟨v :: vs, by rw [e, e2]; simp, fun x hx => ?_, by simp [h3]⟩
    rcases List.mem_cons.mp hx with hx | hx
    · rw [hx]; exact hv
    · exact h2 x hx
theorem strs_of {P : Str → Prop} : ∀ (vs : List D), (∀ v ∈ vs, ∃ s, v = .str s ∧ P s) → ∃ ts : List Str, vs = ts.map D.str ∧ ∀ t ∈ ts, P t
  | [], _ => ⟨[], rfl, (fun _ h => nomatch h)⟩
  | v :: vs, h => by
    obtain ⟨s, e, hs⟩ := h v List.mem_cons_self
    obtain ⟨ts, e2, h2⟩ := strs_of vs fun x hx => h x (List.mem_cons_of_mem _ hx)
    refine ⟨s :: ts, by rw [e, e2]; rfl, fun t ht => ?_⟩
    rcases List.mem_cons.mp ht with ht | ht
    · rw [ht]; exact hs
    · exact h2 t ht
theorem cut_from (xs : List D) (m : Nat) (h : m ≤ xs.length) : cutD xs (some (m : Int)) none = xs.drop m := by
  unfold cutD HT.sIx
  dsimp only
  rw [if_neg (by omega), show min ((m : Int)).toNat xs.length = m by omega]
  rw [List.take_of_length_le (by rw [List.length_drop]; omega)]
theorem at_mod {α : Type} (l : List α) (x n : Int) (hl : (l.length : Int) = n) (hn : 0 < n) : ∃ c, c ∈ l ∧ L2.atI l (x % n) = some c := by
  have h0 : 0 ≤ x % n := Int.emod_nonneg _ (by omega)
  have h1 : x % n < n := Int.emod_lt_of_pos _ hn
  obtain ⟨j, hj⟩ := Int.eq_ofNat_of_zero_le h0
  have hjl : j < l.length := by omega
  rw [hj]
  exact ⟨l[j], List.getElem_mem hjl, at_nat _ _ _ (List.getElem?_eq_getElem hjl)⟩
end My

/-! CUT AT THE FIRST PLACE; JOINED TEXTS -/
namespace My
open DL PySem StrLaws Builtin.Str
end My

/-! ANY TEXT, CUT AT A SEPARATOR THAT MAY STAND ANYWHERE -/
namespace My
open DL PySem StrLaws Builtin.Str
theorem occ_gr (s sub : Str) (hi limit : Nat) (hn : 1 ≤ sub.length) : ∀ (m a : Nat) (found : Array Nat) (free : Nat) (P : List Nat), gap sub.length free P → (∀ i ∈ P, a ≤ i ∧ i < a + m) → (∀ i ∈ P, At s sub hi i) →
    (∀ i, a ≤ i → free ≤ i → At s sub hi i → (i ∈ P ∨ ∃ p ∈ P, p < i ∧ i < p + sub.length)) →
    (forIn (List.range' a m) (found, free) (occBody s sub hi limit)).run.fst.toList = found.toList ++ P.take (limit - found.size)
  | 0, a, found, free, P, g, hb, hA, hm => by
    have : P = [] := by
      cases P with
      | nil => rfl
      | cons p r => have := hb p List.mem_cons_self; omega
    subst this
    simp
  | m + 1, a, found, free, P, g, hb, hA, hm => by
    rw [List.range'_succ, List.forIn_cons]
    unfold occBody
    by_cases hl : found.size < limit
    · by_cases ha : a ∈ P
      · have h1 := gap_le g a ha
        obtain ⟨h2, h3⟩ := hA a ha
        rw [if_pos ⟨⟨⟨hl, h1⟩, h2⟩, h3⟩]
        obtain ⟨P', rfl⟩ : ∃ P', P = a :: P' := by
          cases P with
          | nil => cases ha
          | cons p r =>
            rcases List.mem_cons.mp ha with e | e
            · exact ⟨r, by rw [e]⟩
            · have := gap_le g.2 a e
              have := (hb p List.mem_cons_self).1
              omega
        have ih := occ_gr s sub hi limit hn m (a + 1) (found.push a) (a + sub.length) P' g.2 (fun i hi' => by
            have z1 := gap_le g.2 i hi'
            have z2 := (hb i (List.mem_cons_of_mem _ hi')).2
            omega) (fun i hi' => hA i (List.mem_cons_of_mem _ hi')) (fun i hi' hf z => by
            rcases hm i (by omega) (by omega) z with e | ⟨p, hp, e⟩
            · rcases List.mem_cons.mp e with e | e
              · omega
              · exact .inl e
            · rcases List.mem_cons.mp hp with e1 | e1
              · omega
              · exact .inr ⟨p, e1, e⟩)
        refine Eq.trans ih ?_
        rw [Array.toList_push, Array.size_push, show limit - found.size = (limit - (found.size + 1)) + 1 by omega, List.take_succ_cons, List.append_assoc]
        rfl
      · rw [if_neg fun z => by
          rcases hm a (Nat.le_refl _) z.1.1.2 ⟨z.1.2, z.2⟩ with e | ⟨p, hp, e⟩
          · exact ha e
          · have := (hb p hp).1; omega]
        refine occ_gr s sub hi limit hn m (a + 1) found free P g (fun i hi' => ?_) hA (fun i hi' => hm i (by omega))
        have z := hb i hi'
        have : i ≠ a := fun e => ha (by rw [← e]; exact hi')
        omega
    · rw [if_neg fun z => hl z.1.1.1]
      have e0 : limit - found.size = 0 := by omega
      have ih : ∀ (l : List Nat) (st : Array Nat × Nat), ¬ st.fst.size < limit → (forIn l st (occBody s sub hi limit)).run.fst = st.fst := by
        intro l
        induction l with
        | nil => intro st _; rfl
        | cons x l ih =>
          intro st hst
          rw [List.forIn_cons]
          unfold occBody
          rw [if_neg fun z => hst z.1.1.1]
          exact ih _ hst
      have := ih (List.range' (a + 1) m) (found, free) hl
      refine Eq.trans (congrArg Array.toList this) ?_
      rw [e0]; simp
noncomputable def stands (y l : List Nat) (i : Nat) : Prop := i + y.length ≤ l.length ∧ (l.drop i).take y.length = y
noncomputable def Fits (y : List Nat) : List (List Nat) → Prop
  | [] => False
  | [p] => ∀ i, ¬ stands y p i
  | p :: q :: r => (∀ i, i < p.length → ¬ stands y (p ++ y ++ jl y (q :: r)) i) ∧ Fits y (q :: r)
theorem at_stands (x y : Str) (i : Nat) : At x y x.length i ↔ stands y.cps.toList x.cps.toList i := by
  unfold At stands
  rw [subAt_eq, len_list, len_list]
  constructor
  · rintro ⟨h1, h2⟩; exact ⟨h1, eq_of_beq h2⟩
  · rintro ⟨h1, h2⟩; exact ⟨h1, by rw [h2]; exact beq_self_eq_true _⟩
theorem fits_at {y : List Nat} : ∀ (ps : List (List Nat)) (a i : Nat), Fits y ps → a ≤ i → stands y (jl y ps) (i - a) → (i ∈ pos y.length a ps ∨ ∃ p ∈ pos y.length a ps, p < i ∧ i < p + y.length)
  | [], _, _, h, _, _ => h.elim
  | [p], a, i, h, _, s => (h _ s).elim
  | p :: q :: r, a, i, h, ha, s => by
    have s : stands y (p ++ y ++ jl y (q :: r)) (i - a) := s
    show i ∈ (a + p.length) :: pos y.length (a + p.length + y.length) (q :: r) ∨ _
    by_cases h1 : i - a < p.length
    · exact (h.1 _ h1 s).elim
    by_cases h2 : i = a + p.length
    · exact .inl (by rw [h2]; exact List.mem_cons_self)
    by_cases h3 : i < a + p.length + y.length
    · exact .inr ⟨a + p.length, List.mem_cons_self, by omega, h3⟩
    · have e : i - a = (p ++ y).length + (i - (a + p.length + y.length)) := by rw [List.length_append]; omega
      obtain ⟨s1, s2⟩ := s
      rw [e, ← List.drop_drop, List.drop_left] at s2
      rw [List.length_append] at s1
      have := fits_at (q :: r) (a + p.length + y.length) i h.2 (by omega) ⟨by rw [e, List.length_append] at s1; omega, s2⟩
      rcases this with z | ⟨p', hp, z⟩
      · exact .inl (List.mem_cons_of_mem _ z)
      · exact .inr ⟨p', List.mem_cons_of_mem _ hp, z⟩
theorem occ_fits (x y : Str) (hn : 1 ≤ y.length) (ps : List (List Nat)) (h : Fits y.cps.toList ps) (e : x.cps.toList = jl y.cps.toList ps) (limit : Nat) :
    occurrences x y 0 x.length limit = (pos y.length 0 ps).take limit := by
  rw [occ_eq]
  have hA : ∀ i ∈ pos y.length 0 ps, At x y x.length i := fun i hi => by
    rw [at_stands, e]
    rw [← len_list y] at hi
    have := at_pos ps 0 i hi
    exact ⟨by simpa using this.2.1, by simpa using this.2.2⟩
  have := occ_gr x y x.length limit hn (x.length + 1 - 0) 0 #[] 0 (pos y.length 0 ps) (pos_gap _ _ _) (fun i hi => by
    have := (hA i hi).1
    omega) hA (fun i _ _ z => by
    rw [at_stands, e] at z
    have := fits_at ps 0 i h (Nat.zero_le _) (by simpa using z)
    rwa [len_list] at this)
  simpa using this
theorem split_fits (x y : Str) (hn : 1 ≤ y.length) (hk : Builtin.Str.strKind y = 1) (ps : List (List Nat)) (h : Fits y.cps.toList ps) (e : x.cps.toList = jl y.cps.toList ps) : Txt.split x y = ps.map S := by
  have hP : occurrences x y 0 x.length (x.length + 1) = pos y.length 0 ps := by
    have h1 := occ_fits x y hn ps h e (x.length + 1)
    have h2 := occ_fits x y hn ps h e ((x.length + 1) + (pos y.length 0 ps).length)
    rw [List.take_of_length_le (Nat.le_add_left _ _)] at h2
    have h3 := occ_length_le_len x y 0 x.length ((x.length + 1) + (pos y.length 0 ps).length)
    rw [h2] at h3
    rw [h1, List.take_of_length_le (by omega)]
  have h0 : ps ≠ [] := fun z => by rw [z] at h; exact h
  have one : pos y.length 0 ps = [] → [x] = ps.map S := fun z => by
    rcases pos_nil z with z | ⟨p, z⟩
    · exact absurd z h0
    · rw [z] at e ⊢
      rw [S_of x, e]; rfl
  unfold Txt.split
  by_cases hs : (decide (x.length < y.length) || decide (Builtin.Str.strKind x < Builtin.Str.strKind y)) = true
  · rw [if_pos hs]
    have hlt : x.length < y.length := by
      rw [hk] at hs
      have := kind_pos x
      rcases Bool.or_eq_true_iff.mp hs with z | z
      · exact of_decide_eq_true z
      · have := of_decide_eq_true z; omega
    refine one ?_
    cases hq : pos y.length 0 ps with
    | nil => rfl
    | cons i r =>
      have hi : i ∈ pos y.length 0 ps := by rw [hq]; exact List.mem_cons_self
      rw [← len_list y] at hi
      have := (at_pos ps 0 i hi).2.1
      rw [← e, len_list, len_list] at this
      omega
  · rw [if_neg hs, hP]
    by_cases he : (pos y.length 0 ps).isEmpty = true
    · rw [if_pos he]
      exact one (List.isEmpty_iff.mp he)
    · rw [if_neg he, partsBetween_eq]
      have z := parts_of (y := y.cps.toList) x ps 0 h0 (by rw [List.drop_zero]; exact e) (Nat.zero_le _)
      rw [len_list] at z
      exact z
theorem part_none (x y : Str) (hn : 1 ≤ y.length) (h : ∀ i, ¬ stands y.cps.toList x.cps.toList i) : Txt.partition x y = (x, Str.empty, Str.empty) := by
  have h1 := occ_fits x y hn [x.cps.toList] h rfl 1
  unfold Txt.partition
  rw [h1]; rfl
theorem jl_cons2 (y p : List Nat) (q : List Nat) (r : List (List Nat)) : jl y (p :: q :: r) = p ++ y ++ jl y (q :: r) := rfl
theorem part_some (y : Str) (hn : 1 ≤ y.length) (p q : List Nat) (r : List (List Nat)) (h : Fits y.cps.toList (p :: q :: r)) :
    Txt.partition (S (jl y.cps.toList (p :: q :: r))) y = (S p, y, S (jl y.cps.toList (q :: r))) := by
  have h1 := occ_fits (S (jl y.cps.toList (p :: q :: r))) y hn (p :: q :: r) h (S_list _) 1
  have e : (pos y.length 0 (p :: q :: r)).take 1 = [p.length] := by
    show [0 + p.length] = [p.length]
    rw [Nat.zero_add]
  rw [e] at h1
  have eL : (S (jl y.cps.toList (p :: q :: r))).cps.toList = p ++ y.cps.toList ++ jl y.cps.toList (q :: r) := S_list _
  unfold Txt.partition
  rw [h1]
  have a1 := sub_list (S (jl y.cps.toList (p :: q :: r))) p 0 p.length (by rw [List.drop_zero, Nat.sub_zero, eL, List.append_assoc, List.take_left])
  have hl : (S (jl y.cps.toList (p :: q :: r))).length = p.length + y.length + (jl y.cps.toList (q :: r)).length := by
    rw [← len_list, eL, List.length_append, List.length_append, len_list]
  have a2 := sub_list (S (jl y.cps.toList (p :: q :: r))) (jl y.cps.toList (q :: r)) (p.length + y.length) (S (jl y.cps.toList (p :: q :: r))).length (by
    rw [eL, show p.length + y.length = (p ++ y.cps.toList).length by rw [List.length_append, len_list], List.drop_left, hl, List.length_append, len_list]
    exact List.take_of_length_le (by omega))
  show (strSub _ 0 p.length, y, strSub _ (p.length + y.length) _) = _
  rw [a1, a2]
theorem stands_dec (y l : List Nat) : (∃ i, stands y l i) → ∃ i, stands y l i ∧ ∀ j, j < i → ¬ stands y l j := by
  rintro ⟨i, h⟩
  induction i using Nat.strongRecOn with
  | _ i ih =>
    by_cases z : ∃ j, j < i ∧ stands y l j
    · obtain ⟨j, h1, h2⟩ := z; exact ih j h1 h2
    · exact ⟨i, h, fun j h1 h2 => z ⟨j, h1, h2⟩⟩
theorem fits_all (y : List Nat) (hy : 1 ≤ y.length) : ∀ (n : Nat) (l : List Nat), l.length ≤ n → ∃ ps, Fits y ps ∧ jl y ps = l ∧ ps.length ≤ l.length + 1
  | n, l, hn => by
    by_cases z : ∃ i, stands y l i
    · obtain ⟨i, ⟨h1, h2⟩, h3⟩ := stands_dec y l z
      cases n with
      | zero => omega
      | succ n =>
        obtain ⟨ps, f, e, hl⟩ := fits_all y hy n (l.drop (i + y.length)) (by rw [List.length_drop]; omega)
        rw [List.length_drop] at hl
        have el : l.take i ++ y ++ l.drop (i + y.length) = l := by
          conv => rhs; rw [← List.take_append_drop i l]
          rw [List.append_assoc]
          congr 1
          conv => rhs; rw [← List.take_append_drop y.length (l.drop i)]
          rw [h2, List.drop_drop]
        cases ps with
        | nil => exact f.elim
        | cons q r =>
          refine ⟨l.take i :: q :: r, ⟨fun j hj => ?_, f⟩, ?_, ?_⟩
          · rw [e, el]
            rw [List.length_take] at hj
            exact h3 j (by omega)
          · rw [jl_cons2, e, el]
          · show (q :: r).length + 1 ≤ _
            omega
    · exact ⟨[l], fun i h => z ⟨i, h⟩, rfl, by simp⟩
theorem fits_cons {y : List Nat} {c : Nat} {y' : List Nat} (ey : y = c :: y') (p : List Nat) (hp : c ∉ p) (q : List Nat) (r : List (List Nat)) (h : Fits y (q :: r)) : Fits y (p :: q :: r) := by
  refine ⟨fun i hi s => ?_, h⟩
  have z := congrArg List.head? s.2
  rw [ey, List.head?_cons] at z
  rw [← ey, List.append_assoc, List.head?_take, List.head?_drop, List.getElem?_append_left hi] at z
  rw [if_neg (by rw [ey]; simp)] at z
  exact hp (List.mem_of_getElem? z)
theorem fits_one {y : List Nat} {c : Nat} (hc : c ∈ y) (p : List Nat) (hp : c ∉ p) : Fits y [p] := fun i s => by
  have : c ∈ (p.drop i).take y.length := by rw [s.2]; exact hc
  exact hp (List.mem_of_mem_drop (List.mem_of_mem_take this))
theorem fits_words {c : Nat} : ∀ ps : List (List Nat), ps ≠ [] → (∀ p ∈ ps, c ∉ p) → Fits [c] ps
  | [], h, _ => (h rfl).elim
  | [p], _, h => fits_one (c := c) (by simp) p (h p List.mem_cons_self)
  | p :: q :: r, _, h => fits_cons (c := c) rfl p (h p List.mem_cons_self) q r (fits_words (q :: r) (by simp) fun x hx => h x (List.mem_cons_of_mem _ hx))
end My

noncomputable section
namespace Gen
open PySem PySem.Spec PyProof.Rows L2 DL
/-! the text by places -/
noncomputable def top (i : Nat) : Stmt := PySem.Challenge.pw_citeward_k02_whole_any_text_of_hands.main.body.getD i (.Pass ⟨0, 0, 0, 0⟩)
noncomputable abbrev st_law_numbers : Stmt := top 26
noncomputable abbrev st_law_free : Stmt := top 29
noncomputable abbrev st_is_all_of : Stmt := top 14
noncomputable abbrev st_is_text_of : Stmt := top 15
noncomputable abbrev st_read_hand : Stmt := top 21
noncomputable abbrev st_read_hands : Stmt := top 20
noncomputable abbrev st_law_told : Stmt := top 34
noncomputable abbrev st_law_is_word : Stmt := top 31
noncomputable abbrev st_law_is_hand : Stmt := top 32
noncomputable abbrev st_law_due : Stmt := top 33
noncomputable abbrev st_law_cell_at : Stmt := top 25
noncomputable abbrev st_law_spoiled : Stmt := top 30
noncomputable abbrev st_law_word : Stmt := top 27
noncomputable abbrev st_law_text : Stmt := top 28
noncomputable abbrev st_show_hand : Stmt := top 23
noncomputable abbrev st_show_hands : Stmt := top 22
noncomputable abbrev st_law : Stmt := top 35
/-! what each def tells -/
noncomputable def b_law_numbers_1 : FS :=
  seqF (appF 2 (binF modD (nameF 3) (constF (.int 5040)))) (setF 3 (binF fdivD (nameF 3) (constF (.int 5040))))
noncomputable def b_law_numbers_2 : FS :=
  seqF (setF 3 (binF modD (binF mulZ (binF addD (binF addD (nameF 3) (nameF 4)) (constF (.int 1))) (constF (.int 48271))) (constF (.int 2147483647)))) (appF 2 (binF modD (binF mulZ (nameF 3) (constF (.int 69621))) (constF (.int 2147483629))))
noncomputable def f_law_numbers : FS :=
  seqF (setF 2 (lstF (dispNil))) (seqF (setF 3 (binF fdivD (nameF 0) (constF (.int 2)))) (seqF (ifS (testF (binF eqX (binF modD (nameF 0) (constF (.int 2))) (constF (.int 1)))) (seqF (forF (rngI (argCons (nameF 1) argNil)) (gNameF 4) b_law_numbers_1) (retF (nameF 2))) (nextF)) (seqF (setF 3 (binF modD (nameF 3) (constF (.int 2147483647)))) (seqF (forF (rngI (argCons (nameF 1) argNil)) (gNameF 4) b_law_numbers_2) (retF (nameF 2))))))
noncomputable def g_law_numbers : List D → Option SV := outOf f_law_numbers 5
noncomputable def e_law_free_1 : FE :=
  binF ixD (nameF 1) (binF modD (binF ixD (nameF 2) (binF addD (constF (.int 1)) (nameF 0))) (constF (.int 14)))
noncomputable def f_law_free : FS :=
  seqF (setF 1 (lstF (textsF ["A", "bo", "Lee"] (dispCons (binF mulZ (constF (.str "x")) (constF (.int 15))) (dispCons (binF mulZ (constF (.str "y")) (constF (.int 16))) (textsF ["Ann", " ", ", ", " & ", "&", ",", ".", "9", "-"] (dispNil))))))) (retF (bmF "str" joinXD (constF (.str "")) (argCons (compF [.own, .cap 1, .cap 0, .acc] 3 (rngI (argCons (binF modD (binF ixD (nameF 0) (constF (.int 0))) (constF (.int 25))) argNil)) (gNameF 0) (trueT) e_law_free_1) argNil)))
noncomputable def g_law_free : List D → Option SV := outOf f_law_free 2
noncomputable def e_is_all_of_1 : FE :=
  binF inW (nameF 0) (nameF 1)
noncomputable def f_is_all_of : FS :=
  retF (primF allD (argCons (compF [.own, .cap 1, .acc] 2 (anyI (nameF 0)) (gNameF 0) (trueT) e_is_all_of_1) argNil))
noncomputable def g_is_all_of : List D → Option SV := outOf f_is_all_of 2
noncomputable def f_is_text_of : FS :=
  seqF (ifS (notF (testF (unF (isiD "str") (nameF 0)))) (retF (constF (.bl false))) (nextF)) (retF (andV (chainF leD leD (constF (.int 1)) (primF lenD (argCons (nameF 0) argNil)) (nameF 2)) (callF 2 g_is_all_of (argCons (nameF 0) (argCons (nameF 1) (argNil))))))
noncomputable def g_is_text_of : List D → Option SV := outOf f_is_text_of 3
noncomputable def b_read_hand_1 : FS :=
  ifS (notF (testF (callF 3 g_is_text_of (argCons (nameF 3) (argCons (constF (.str "ABCDEFGHIJKLMNOPQRSTUVWXYZabcdefghijklmnopqrstuvwxyz")) (argCons (constF (.int 15)) (argNil))))))) (raiseF "NoHands") (nextF)
noncomputable def f_read_hand : FS :=
  seqF (setF 1 (bmF "str" partitionD (nameF 0) (argCons (constF (.str ", ")) argNil))) (seqF (setF 2 (ifF (testF (binF eqX (binF ixD (nameF 1) (constF (.int 1))) (constF (.str ", ")))) (bmF "str" splitD (binF ixD (nameF 1) (constF (.int 2))) (argCons (constF (.str " ")) argNil)) (lstF (dispNil)))) (seqF (ifS (testF (binF gtD (primF lenD (argCons (nameF 2) argNil)) (constF (.int 4)))) (raiseF "NoHands") (nextF)) (seqF (forF (anyI (binF addD (lstF (dispCons (binF ixD (nameF 1) (constF (.int 0))) (dispNil))) (nameF 2))) (gNameF 3) b_read_hand_1) (retF (tupF (dispCons (binF ixD (nameF 1) (constF (.int 0))) (dispCons (primF tupleD (argCons (nameF 2) argNil)) (dispNil))))))))
noncomputable def h_read_hand : List D → Option XO := outX f_read_hand 4
noncomputable def e_read_hands_1 : FX :=
  callX 1 h_read_hand (argConsX (pureX (nameF 0)) (argNilX))
noncomputable def f_read_hands : FS :=
  seqF (ifS (notF (testF (unF (isiD "str") (nameF 0)))) (raiseF "NoHands") (nextF)) (seqF (setF 1 (bmF "str" splitD (nameF 0) (argCons (constF (.str " & ")) argNil))) (seqF (ifS (testF (binF gtD (primF lenD (argCons (nameF 1) argNil)) (constF (.int 6)))) (raiseF "NoHands") (nextF)) (retX (compX [.own, .acc] 1 (anyI (nameF 1)) (gNameF 0) (trueT) e_read_hands_1))))
noncomputable def h_read_hands : List D → Option XO := outX f_read_hands 2
noncomputable def s_law_told_1 : FS :=
  seqF (setF 3 (lstF (dispCons (unF (isxD [] ["NoHands"]) (nameF 2)) (dispCons (unF (isxD [] ["NoHands"]) (nameF 2)) (dispCons (unF (isxD [] ["NoHands"]) (nameF 2)) (dispCons (unF (isxD [] ["NoHands"]) (nameF 2)) (dispNil))))))) (seqF (setF 3 (binF addD (nameF 3) (lstF (dispCons (unF (isxD [] ["NoHands"]) (nameF 2)) (dispCons (unF (isxD [] ["NoHands"]) (nameF 2)) (dispCons (unF (isxD [] ["NoHands"]) (nameF 2)) (dispCons (unF (isxD [] ["NoHands"]) (nameF 2)) (dispNil)))))))) (seqF (setF 4 (andV (binF notinW (constF (.bl true)) (nameF 3)) (notV (unF (isxD [] ["NoHands"]) (nameF 2))))) (setF 1 (tupF (dispCons (constF (.str "refused")) (dispCons (andV (unF (isxD ["NoHands"] []) (nameF 2)) (andV (unF (isxD ["NoHands"] []) (nameF 2)) (nameF 4))) (dispNil)))))))
noncomputable def f_law_told : FS :=
  seqF (setF 1 (constF .non)) (seqF (tryF (setX 1 (callX 1 h_read_hands (argConsX (pureX (nameF 0)) (argNilX)))) [⟨some 2, ["NoHands"], [], s_law_told_1⟩]) (retF (nameF 1)))
noncomputable def g_law_told : List D → Option SV := outOf f_law_told 5
noncomputable def b_law_is_word_1 : FS :=
  ifS (testF (binF notinW (nameF 1) (constF (.str "ABCDEFGHIJKLMNOPQRSTUVWXYZabcdefghijklmnopqrstuvwxyz")))) (retF (constF (.bl false))) (nextF)
noncomputable def f_law_is_word : FS :=
  seqF (ifS (orF (testF (binF ltD (primF lenD (argCons (nameF 0) argNil)) (constF (.int 1)))) (testF (binF gtD (primF lenD (argCons (nameF 0) argNil)) (constF (.int 15))))) (retF (constF (.bl false))) (nextF)) (seqF (forF (anyI (nameF 0)) (gNameF 1) b_law_is_word_1) (retF (constF (.bl true))))
noncomputable def g_law_is_word : List D → Option SV := outOf f_law_is_word 2
noncomputable def e_law_is_hand_1 : FE :=
  callF 1 g_law_is_word (argCons (nameF 0) (argNil))
noncomputable def f_law_is_hand : FS :=
  seqF (setF 1 (bmF "str" splitD (nameF 0) (argCons (constF (.str " ")) argNil))) (seqF (ifS (testF (binF gtD (primF lenD (argCons (nameF 1) argNil)) (constF (.int 5)))) (retF (constF (.bl false))) (nextF)) (seqF (ifS (testF (binF eqX (primF lenD (argCons (nameF 1) argNil)) (constF (.int 1)))) (retF (callF 1 g_law_is_word (argCons (nameF 0) (argNil)))) (nextF)) (seqF (ifS (orF (testF (binF neX (slF slD (binF ixD (nameF 1) (constF (.int 0))) (partF (unF negD (constF (.int 1)))) (noPart)) (constF (.str ",")))) (notF (testF (callF 1 g_law_is_word (argCons (slF slD (binF ixD (nameF 1) (constF (.int 0))) (noPart) (partF (unF negD (constF (.int 1))))) (argNil)))))) (retF (constF (.bl false))) (nextF)) (retF (binF notinW (constF (.bl false)) (compF [.own, .acc] 1 (anyI (slF slD (nameF 1) (partF (constF (.int 1))) (noPart))) (gNameF 0) (trueT) e_law_is_hand_1))))))
noncomputable def g_law_is_hand : List D → Option SV := outOf f_law_is_hand 2
noncomputable def b_law_due_1 : FS :=
  seqF (unpackF (gTupF 3 (gConsF (gNameF 3) (gConsF (gNameF 4) (gConsF (gNameF 1) (gNilF))))) (bmF "str" partitionD (nameF 1) (argCons (constF (.str " & ")) argNil))) (seqF (ifS (notF (testF (callF 1 g_law_is_hand (argCons (nameF 3) (argNil))))) (retF (constF (.bl false))) (nextF)) (ifS (testF (binF eqX (nameF 4) (constF (.str "")))) (retF (constF (.bl true))) (nextF)))
noncomputable def f_law_due : FS :=
  seqF (ifS (notF (testF (unF (isiD "str") (nameF 0)))) (retF (constF (.bl false))) (nextF)) (seqF (setF 1 (nameF 0)) (seqF (forF (rngI (argCons (constF (.int 6)) argNil)) (gNameF 2) b_law_due_1) (retF (constF (.bl false)))))
noncomputable def g_law_due : List D → Option SV := outOf f_law_due 5
noncomputable def f_law_cell_at : FS :=
  seqF (ifS (testF (binF ltD (nameF 1) (primF lenD (argCons (nameF 0) argNil)))) (retF (binF ixD (nameF 0) (nameF 1))) (nextF)) (retF (constF (.int 0)))
noncomputable def g_law_cell_at : List D → Option SV := outOf f_law_cell_at 2
noncomputable def f_law_spoiled : FS :=
  seqF (setF 2 (binF modD (nameF 1) (binF addD (primF lenD (argCons (nameF 0) argNil)) (constF (.int 1))))) (seqF (setF 3 (binF ixD (constF (.str " ,&.-aZ0;\n\t")) (binF modD (binF fdivD (nameF 1) (constF (.int 64))) (constF (.int 11))))) (seqF (setF 4 (binF modD (binF fdivD (nameF 1) (constF (.int 1024))) (constF (.int 10)))) (seqF (ifS (testF (binF eqX (nameF 4) (constF (.int 0)))) (retF (binF addD (binF addD (slF slD (nameF 0) (noPart) (partF (nameF 2))) (nameF 3)) (slF slD (nameF 0) (partF (nameF 2)) (noPart)))) (nextF)) (seqF (ifS (testF (binF eqX (nameF 4) (constF (.int 1)))) (retF (binF addD (slF slD (nameF 0) (noPart) (partF (nameF 2))) (slF slD (nameF 0) (partF (binF addD (nameF 2) (constF (.int 1)))) (noPart)))) (nextF)) (seqF (ifS (testF (binF eqX (nameF 4) (constF (.int 2)))) (retF (binF addD (binF addD (slF slD (nameF 0) (noPart) (partF (nameF 2))) (nameF 3)) (slF slD (nameF 0) (partF (binF addD (nameF 2) (constF (.int 1)))) (noPart)))) (nextF)) (seqF (ifS (testF (binF eqX (nameF 4) (constF (.int 3)))) (retF (binF addD (binF addD (slF slD (nameF 0) (noPart) (partF (nameF 2))) (slF slD (nameF 0) (partF (nameF 2)) (partF (binF addD (nameF 2) (constF (.int 1)))))) (slF slD (nameF 0) (partF (nameF 2)) (noPart)))) (nextF)) (seqF (ifS (testF (binF eqX (nameF 4) (constF (.int 4)))) (seqF (setF 5 (binF addD (slF slD (nameF 0) (partF (binF addD (nameF 2) (constF (.int 1)))) (partF (binF addD (nameF 2) (constF (.int 2))))) (slF slD (nameF 0) (partF (nameF 2)) (partF (binF addD (nameF 2) (constF (.int 1))))))) (retF (binF addD (binF addD (slF slD (nameF 0) (noPart) (partF (nameF 2))) (nameF 5)) (slF slD (nameF 0) (partF (binF addD (nameF 2) (constF (.int 2)))) (noPart))))) (nextF)) (seqF (ifS (testF (binF eqX (nameF 4) (constF (.int 5)))) (retF (binF ixD (lstF (dispCons (constF .non) (dispCons (nameF 1) (dispCons (lstF (dispCons (nameF 0) (dispNil))) (dispCons (tupF (dispCons (nameF 0) (dispCons (tupF (dispNil)) (dispNil)))) (dispCons (constF (.str "")) (dispNil))))))) (binF modD (binF fdivD (nameF 1) (constF (.int 64))) (constF (.int 5))))) (nextF)) (retF (nameF 0))))))))))
noncomputable def g_law_spoiled : List D → Option SV := outOf f_law_spoiled 6
noncomputable def b_law_word_1 : FS :=
  seqF (setF 0 (binF modD (binF addD (binF mulZ (nameF 0) (constF (.int 48271))) (constF (.int 11))) (constF (.int 2147483647)))) (setF 2 (binF addD (nameF 2) (binF ixD (nameF 1) (binF modD (binF fdivD (nameF 0) (constF (.int 8))) (constF (.int 52))))))
noncomputable def f_law_word : FS :=
  seqF (setF 1 (constF (.str "ABCDEFGHIJKLMNOPQRSTUVWXYZabcdefghijklmnopqrstuvwxyz"))) (seqF (setF 2 (constF (.str ""))) (seqF (forF (rngI (argCons (binF addD (constF (.int 1)) (binF ixD (lstF (dispCons (binF modD (nameF 0) (constF (.int 4))) (dispCons (binF modD (nameF 0) (constF (.int 4))) (dispCons (binF modD (nameF 0) (constF (.int 4))) (dispCons (binF addD (constF (.int 12)) (binF modD (nameF 0) (constF (.int 4)))) (dispNil)))))) (binF modD (binF fdivD (nameF 0) (constF (.int 16))) (constF (.int 4))))) argNil)) (gNameF 3) b_law_word_1) (retF (nameF 2))))
noncomputable def g_law_word : List D → Option SV := outOf f_law_word 4
noncomputable def b_law_text_1 : FS :=
  setF 3 (binF addD (binF addD (nameF 3) (binF ixD (lstF (textsF [", ", " "] (dispNil))) (primF intD (argCons (binF gtD (nameF 4) (constF (.int 0))) argNil)))) (callF 1 g_law_word (argCons (binF addD (binF ixD (nameF 0) (binF addD (constF (.int 4)) (binF mulZ (constF (.int 6)) (nameF 2)))) (binF mulZ (constF (.int 997)) (nameF 4))) (argNil))))
noncomputable def b_law_text_2 : FS :=
  seqF (setF 3 (callF 1 g_law_word (argCons (binF ixD (nameF 0) (binF addD (constF (.int 2)) (binF mulZ (constF (.int 6)) (nameF 2)))) (argNil)))) (seqF (forF (rngI (argCons (binF ixD (lstF (dispCons (constF (.int 0)) (dispCons (constF (.int 1)) (dispCons (constF (.int 2)) (dispCons (constF (.int 1)) (dispCons (constF (.int 4)) (dispCons (constF (.int 5)) (dispNil)))))))) (binF modD (binF ixD (nameF 0) (binF addD (constF (.int 3)) (binF mulZ (constF (.int 6)) (nameF 2)))) (constF (.int 6)))) argNil)) (gNameF 4) b_law_text_1) (appF 1 (nameF 3)))
noncomputable def f_law_text : FS :=
  seqF (setF 1 (lstF (dispNil))) (seqF (forF (rngI (argCons (binF addD (constF (.int 1)) (binF ixD (lstF (dispCons (binF modD (binF ixD (nameF 0) (constF (.int 0))) (constF (.int 2))) (dispCons (binF modD (binF ixD (nameF 0) (constF (.int 0))) (constF (.int 7))) (dispNil)))) (binF fdivD (binF modD (binF ixD (nameF 0) (constF (.int 1))) (constF (.int 4))) (constF (.int 3))))) argNil)) (gNameF 2) b_law_text_2) (retF (bmF "str" joinXD (constF (.str " & ")) (argCons (nameF 1) argNil))))
noncomputable def g_law_text : List D → Option SV := outOf f_law_text 5
noncomputable def f_show_hand : FS :=
  seqF (ifS (testF (binF eqX (primF lenD (argCons (binF ixD (nameF 0) (constF (.int 1))) argNil)) (constF (.int 0)))) (retF (binF ixD (nameF 0) (constF (.int 0)))) (nextF)) (retF (binF addD (binF addD (binF ixD (nameF 0) (constF (.int 0))) (constF (.str ", "))) (bmF "str" joinXD (constF (.str " ")) (argCons (binF ixD (nameF 0) (constF (.int 1))) argNil))))
noncomputable def g_show_hand : List D → Option SV := outOf f_show_hand 1
noncomputable def e_show_hands_1 : FE :=
  callF 1 g_show_hand (argCons (nameF 0) (argNil))
noncomputable def f_show_hands : FS :=
  retF (bmF "str" joinXD (constF (.str " & ")) (argCons (compF [.own, .acc] 1 (anyI (nameF 0)) (gNameF 0) (trueT) e_show_hands_1) argNil))
noncomputable def g_show_hands : List D → Option SV := outOf f_show_hands 1
noncomputable def b_law_1 : FS :=
  seqF (setF 2 (callF 2 g_law_numbers (argCons (nameF 1) (argCons (constF (.int 46)) (argNil))))) (seqF (setF 3 (callF 1 g_law_free (argCons (nameF 2) (argNil)))) (seqF (ifS (testF (binF eqX (binF modD (nameF 1) (constF (.int 2))) (constF (.int 0)))) (setF 3 (callF 2 g_law_spoiled (argCons (callF 1 g_law_text (argCons (nameF 2) (argNil))) (argCons (binF ixD (nameF 2) (constF (.int 45))) (argNil))))) (nextF)) (seqF (setF 4 (callF 1 g_law_told (argCons (nameF 3) (argNil)))) (seqF (ifS (andF (notF (testF (callF 1 g_law_due (argCons (nameF 3) (argNil))))) (testF (binF neX (nameF 4) (tupF (dispCons (constF (.str "refused")) (dispCons (constF (.bl true)) (dispNil))))))) (retF (constF (.bl false))) (nextF)) (ifS (testF (callF 1 g_law_due (argCons (nameF 3) (argNil)))) (ifS (orF (notF (testF (unF (isiD "list") (nameF 4)))) (orF (notF (testF (chainF leD leD (constF (.int 1)) (primF lenD (argCons (nameF 4) argNil)) (constF (.int 6))))) (testF (binF neX (callF 1 g_show_hands (argCons (nameF 4) (argNil))) (nameF 3))))) (retF (constF (.bl false))) (nextF)) (nextF))))))
noncomputable def f_law : FS :=
  seqF (forF (anyI (binF addD (lstF (dispCons (callF 2 g_law_cell_at (argCons (nameF 0) (argCons (constF (.int 0)) (argNil)))) (dispNil))) (slF slD (nameF 0) (partF (constF (.int 1))) (partF (constF (.int 16)))))) (gNameF 1) b_law_1) (retF (constF (.bl true)))
noncomputable def g_law : List D → Option SV := outOf f_law 5
end Gen

namespace Gen
open PySem PySem.Spec PyProof.Rows L2 DL
structure Txt (K : PySem.W.Frag) (mg : Str → Option Value) (tLETTERS : Tok) (tMOST_GIVENS : Tok) (tMOST_HANDS : Tok) (tWORD_LENGTH : Tok) (flaw_numbers flaw_free fis_all_of fis_text_of fread_hand fread_hands flaw_told flaw_is_word flaw_is_hand flaw_due flaw_cell_at flaw_spoiled flaw_word flaw_text fshow_hand fshow_hands flaw aCiteError aNoHands aNoList aNoName aNoNumber aNoPlain aNoRow aNoStyle aNoText aNoWork aRing : Addr) : Prop where
  x_CiteError : mg "CiteError" = some (.ref aCiteError)
  x_NoHands : mg "NoHands" = some (.ref aNoHands)
  x_NoList : mg "NoList" = some (.ref aNoList)
  x_NoName : mg "NoName" = some (.ref aNoName)
  x_NoNumber : mg "NoNumber" = some (.ref aNoNumber)
  x_NoPlain : mg "NoPlain" = some (.ref aNoPlain)
  x_NoRow : mg "NoRow" = some (.ref aNoRow)
  x_NoStyle : mg "NoStyle" = some (.ref aNoStyle)
  x_NoText : mg "NoText" = some (.ref aNoText)
  x_NoWork : mg "NoWork" = some (.ref aNoWork)
  x_Ring : mg "Ring" = some (.ref aRing)
  n_NoHands : ClsIs K "NoHands" aNoHands
  ek_NoHands : ExcKit K aNoHands
  ty_NoHands : PySem.W.typeIn K (.ref aNoHands) = some (.type "type")
  ic_NoHands : PySem.W.isClsIn K aNoHands = true
  be_NoHands : PySem.W.mroIn K aNoHands (.type "BaseException") = some true
  h_NoHands_NoHands : PySem.W.mroIn K aNoHands (.ref aNoHands) = some true
  q0_NoHands : PySem.W.kitOne K (.ref aNoHands) (.ref aNoPlain) = some false
  q1_NoHands : PySem.W.kitOne K (.ref aNoHands) (.ref aNoName) = some false
  q2_NoHands : PySem.W.kitOne K (.ref aNoHands) (.ref aNoText) = some false
  q3_NoHands : PySem.W.kitOne K (.ref aNoHands) (.ref aNoStyle) = some false
  q4_NoHands : PySem.W.kitOne K (.ref aNoHands) (.ref aNoList) = some false
  q5_NoHands : PySem.W.kitOne K (.ref aNoHands) (.ref aNoNumber) = some false
  q6_NoHands : PySem.W.kitOne K (.ref aNoHands) (.ref aNoRow) = some false
  q7_NoHands : PySem.W.kitOne K (.ref aNoHands) (.ref aNoWork) = some false
  q8_NoHands : PySem.W.kitOne K (.ref aNoHands) (.ref aRing) = some false
  q9_NoHands : PySem.W.kitOne K (.ref aNoHands) (.ref aCiteError) = some true
  q10_NoHands : PySem.W.kitOne K (.ref aNoHands) (.type "ValueError") = some true
  z_ValueError : mg "ValueError" = none
  z_all : mg "all" = none
  z_int : mg "int" = none
  z_isinstance : mg "isinstance" = none
  z_len : mg "len" = none
  z_list : mg "list" = none
  z_range : mg "range" = none
  z_str : mg "str" = none
  z_tuple : mg "tuple" = none
  c_LETTERS : mg "LETTERS" = some (.str "ABCDEFGHIJKLMNOPQRSTUVWXYZabcdefghijklmnopqrstuvwxyz" tLETTERS)
  c_MOST_GIVENS : mg "MOST_GIVENS" = some (.int 4 tMOST_GIVENS)
  c_MOST_HANDS : mg "MOST_HANDS" = some (.int 6 tMOST_HANDS)
  c_WORD_LENGTH : mg "WORD_LENGTH" = some (.int 15 tWORD_LENGTH)
  m_law_numbers : mg "_law_numbers" = some (.ref flaw_numbers)
  k_law_numbers : PySem.W.keepIn K (.ref flaw_numbers) = true
  m_law_free : mg "_law_free" = some (.ref flaw_free)
  k_law_free : PySem.W.keepIn K (.ref flaw_free) = true
  m_is_all_of : mg "is_all_of" = some (.ref fis_all_of)
  k_is_all_of : PySem.W.keepIn K (.ref fis_all_of) = true
  m_is_text_of : mg "is_text_of" = some (.ref fis_text_of)
  k_is_text_of : PySem.W.keepIn K (.ref fis_text_of) = true
  m_read_hand : mg "read_hand" = some (.ref fread_hand)
  k_read_hand : PySem.W.keepIn K (.ref fread_hand) = true
  m_read_hands : mg "read_hands" = some (.ref fread_hands)
  k_read_hands : PySem.W.keepIn K (.ref fread_hands) = true
  m_law_told : mg "_law_told" = some (.ref flaw_told)
  k_law_told : PySem.W.keepIn K (.ref flaw_told) = true
  m_law_is_word : mg "_law_is_word" = some (.ref flaw_is_word)
  k_law_is_word : PySem.W.keepIn K (.ref flaw_is_word) = true
  m_law_is_hand : mg "_law_is_hand" = some (.ref flaw_is_hand)
  k_law_is_hand : PySem.W.keepIn K (.ref flaw_is_hand) = true
  m_law_due : mg "_law_due" = some (.ref flaw_due)
  k_law_due : PySem.W.keepIn K (.ref flaw_due) = true
  m_law_cell_at : mg "_law_cell_at" = some (.ref flaw_cell_at)
  k_law_cell_at : PySem.W.keepIn K (.ref flaw_cell_at) = true
  m_law_spoiled : mg "_law_spoiled" = some (.ref flaw_spoiled)
  k_law_spoiled : PySem.W.keepIn K (.ref flaw_spoiled) = true
  m_law_word : mg "_law_word" = some (.ref flaw_word)
  k_law_word : PySem.W.keepIn K (.ref flaw_word) = true
  m_law_text : mg "_law_text" = some (.ref flaw_text)
  k_law_text : PySem.W.keepIn K (.ref flaw_text) = true
  m_show_hand : mg "show_hand" = some (.ref fshow_hand)
  k_show_hand : PySem.W.keepIn K (.ref fshow_hand) = true
  m_show_hands : mg "show_hands" = some (.ref fshow_hands)
  k_show_hands : PySem.W.keepIn K (.ref fshow_hands) = true
  m_law : mg "law" = some (.ref flaw)
  k_law : PySem.W.keepIn K (.ref flaw) = true
section
variable {P : Program} {w : World} {K : PySem.W.Frag} {mg : Str → Option Value} {base : Heap} {tLETTERS : Tok} {tMOST_GIVENS : Tok} {tMOST_HANDS : Tok} {tWORD_LENGTH : Tok} {flaw_numbers flaw_free fis_all_of fis_text_of fread_hand fread_hands flaw_told flaw_is_word flaw_is_hand flaw_due flaw_cell_at flaw_spoiled flaw_word flaw_text fshow_hand fshow_hands flaw aCiteError aNoHands aNoList aNoName aNoNumber aNoPlain aNoRow aNoStyle aNoText aNoWork aRing : Addr}
theorem sc_law_numbers : FnScope ["_law_cell", "_law_many", "_law_found", "_law_number", "_law_k"] ["_law_cell", "_law_many"] (defScope st_law_numbers) := ⟨rfl, rfl, rfl, by decide +kernel, rfl, by decide +kernel, by decide +kernel⟩
theorem ok_law_numbers {fd : FuncData} (F : Fun K "_law_numbers" "_law_numbers" st_law_numbers flaw_numbers fd) (T : Txt K mg tLETTERS tMOST_GIVENS tMOST_HANDS tWORD_LENGTH flaw_numbers flaw_free fis_all_of fis_text_of fread_hand fread_hands flaw_told flaw_is_word flaw_is_hand flaw_due flaw_cell_at flaw_spoiled flaw_word flaw_text fshow_hand fshow_hands flaw aCiteError aNoHands aNoList aNoName aNoNumber aNoPlain aNoRow aNoStyle aNoText aNoWork aRing) :
    FnOk P w K mg base CX0 1 flaw_numbers fd ["_law_cell", "_law_many"] (spOf K 2 g_law_numbers) := by
  refine F.ok sc_law_numbers (fun vs H Q E h => spOf_len h) (fun cdv A outer s H vs Q E hr h => ?_)
  obtain ⟨F0, h⟩ := body_out (N := ["_law_cell", "_law_many", "_law_found", "_law_number", "_law_k"]) (f := f_law_numbers) h
  have hu := hu_of hr
  have hv := hr.units
  refine ⟨liftS (ent H F0 : Ent K) f_law_numbers, ?_, h⟩
  exact (@ss_cons _ _ _ _ _ _ (@s_set _ _ _ _ _ 2 _ _ sc_law_numbers.nd (@e_lst _ _ _ _ _ d_nil) (by rfl) (by first | exact Or.inl rfl | exact Or.inr rfl) (by rfl) (by first | exact .inl rfl | exact .inr rfl)) (@ss_cons _ _ _ _ _ _ (@s_set _ _ _ _ _ 3 _ _ sc_law_numbers.nd (@e_fdiv _ _ _ _ _ _ _ (@e_var _ _ 0 _ _ (by rfl) (by first | exact Or.inl rfl | exact Or.inr (Or.inl rfl) | exact Or.inr (Or.inr rfl)) (by decide) (by decide)) e_int) (by rfl) (by first | exact Or.inl rfl | exact Or.inr rfl) (by rfl) (by first | exact .inl rfl | exact .inr rfl)) (@ss_cons _ _ _ _ _ _ (@s_if _ _ _ _ _ _ _ _ _ (@t_eqX _ _ _ _ _ _ _ hv (@e_mod _ _ _ _ _ _ _ (@e_var _ _ 0 _ _ (by rfl) (by first | exact Or.inl rfl | exact Or.inr (Or.inl rfl) | exact Or.inr (Or.inr rfl)) (by decide) (by decide)) e_int) e_int) (@ss_cons _ _ _ _ _ _ (@s_for _ _ _ _ _ _ _ _ _ PassesOwn.never rfl (@i_rng _ _ _ _ _ _ _ T.z_range (@e_var _ _ 1 _ _ (by rfl) (by first | exact Or.inl rfl | exact Or.inr (Or.inl rfl) | exact Or.inr (Or.inr rfl)) (by decide) (by decide)) (by rfl) (by rfl)) (@g_name _ _ _ 4 _ sc_law_numbers.nd (by rfl) (by first | exact Or.inl rfl | exact Or.inr rfl) (by first | exact .inl rfl | exact .inr rfl)) (@ss_cons _ _ _ _ _ _ (@s_app _ _ _ _ _ 2 _ _ _ _ (@e_mod _ _ _ _ _ _ _ (@e_var _ _ 3 _ _ (by rfl) (by first | exact Or.inl rfl | exact Or.inr (Or.inl rfl) | exact Or.inr (Or.inr rfl)) (by decide) (by decide)) e_int) (by rfl) (by first | exact Or.inl rfl | exact Or.inr (Or.inl rfl) | exact Or.inr (Or.inr rfl)) (by decide) (by decide) (by rfl) (by rfl) (by rfl) (by rfl) (by rfl) (by rfl)) (@ss_one _ _ _ _ (@s_set _ _ _ _ _ 3 _ _ sc_law_numbers.nd (@e_fdiv _ _ _ _ _ _ _ (@e_var _ _ 3 _ _ (by rfl) (by first | exact Or.inl rfl | exact Or.inr (Or.inl rfl) | exact Or.inr (Or.inr rfl)) (by decide) (by decide)) e_int) (by rfl) (by first | exact Or.inl rfl | exact Or.inr rfl) (by rfl) (by first | exact .inl rfl | exact .inr rfl)))) (by intro _; rfl)) (@ss_one _ _ _ _ (@s_ret _ _ _ _ _ (@e_var _ _ 2 _ _ (by rfl) (by first | exact Or.inl rfl | exact Or.inr (Or.inl rfl) | exact Or.inr (Or.inr rfl)) (by decide) (by decide))))) ss_nil) (@ss_cons _ _ _ _ _ _ (@s_set _ _ _ _ _ 3 _ _ sc_law_numbers.nd (@e_mod _ _ _ _ _ _ _ (@e_var _ _ 3 _ _ (by rfl) (by first | exact Or.inl rfl | exact Or.inr (Or.inl rfl) | exact Or.inr (Or.inr rfl)) (by decide) (by decide)) e_int) (by rfl) (by first | exact Or.inl rfl | exact Or.inr rfl) (by rfl) (by first | exact .inl rfl | exact .inr rfl)) (@ss_cons _ _ _ _ _ _ (@s_for _ _ _ _ _ _ _ _ _ PassesOwn.never rfl (@i_rng _ _ _ _ _ _ _ T.z_range (@e_var _ _ 1 _ _ (by rfl) (by first | exact Or.inl rfl | exact Or.inr (Or.inl rfl) | exact Or.inr (Or.inr rfl)) (by decide) (by decide)) (by rfl) (by rfl)) (@g_name _ _ _ 4 _ sc_law_numbers.nd (by rfl) (by first | exact Or.inl rfl | exact Or.inr rfl) (by first | exact .inl rfl | exact .inr rfl)) (@ss_cons _ _ _ _ _ _ (@s_set _ _ _ _ _ 3 _ _ sc_law_numbers.nd (@e_mod _ _ _ _ _ _ _ (@e_mulZ _ _ _ _ _ _ _ (@e_add _ _ _ _ _ _ _ (@e_add _ _ _ _ _ _ _ (@e_var _ _ 3 _ _ (by rfl) (by first | exact Or.inl rfl | exact Or.inr (Or.inl rfl) | exact Or.inr (Or.inr rfl)) (by decide) (by decide)) (@e_var _ _ 4 _ _ (by rfl) (by first | exact Or.inl rfl | exact Or.inr (Or.inl rfl) | exact Or.inr (Or.inr rfl)) (by decide) (by decide))) e_int) e_int) e_int) (by rfl) (by first | exact Or.inl rfl | exact Or.inr rfl) (by rfl) (by first | exact .inl rfl | exact .inr rfl)) (@ss_one _ _ _ _ (@s_app _ _ _ _ _ 2 _ _ _ _ (@e_mod _ _ _ _ _ _ _ (@e_mulZ _ _ _ _ _ _ _ (@e_var _ _ 3 _ _ (by rfl) (by first | exact Or.inl rfl | exact Or.inr (Or.inl rfl) | exact Or.inr (Or.inr rfl)) (by decide) (by decide)) e_int) e_int) (by rfl) (by first | exact Or.inl rfl | exact Or.inr (Or.inl rfl) | exact Or.inr (Or.inr rfl)) (by decide) (by decide) (by rfl) (by rfl) (by rfl) (by rfl) (by rfl) (by rfl)))) (by intro _; rfl)) (@ss_one _ _ _ _ (@s_ret _ _ _ _ _ (@e_var _ _ 2 _ _ (by rfl) (by first | exact Or.inl rfl | exact Or.inr (Or.inl rfl) | exact Or.inr (Or.inr rfl)) (by decide) (by decide)))))))))
theorem sc_law_free : FnScope ["_law_some", "_law_menu"] ["_law_some"] (defScope st_law_free) := ⟨rfl, rfl, rfl, by decide +kernel, rfl, by decide +kernel, by decide +kernel⟩
theorem ok_law_free {fd : FuncData} (F : Fun K "_law_free" "_law_free" st_law_free flaw_free fd) (T : Txt K mg tLETTERS tMOST_GIVENS tMOST_HANDS tWORD_LENGTH flaw_numbers flaw_free fis_all_of fis_text_of fread_hand fread_hands flaw_told flaw_is_word flaw_is_hand flaw_due flaw_cell_at flaw_spoiled flaw_word flaw_text fshow_hand fshow_hands flaw aCiteError aNoHands aNoList aNoName aNoNumber aNoPlain aNoRow aNoStyle aNoText aNoWork aRing) :
    FnOk P w K mg base CX0 1 flaw_free fd ["_law_some"] (spOf K 1 g_law_free) := by
  refine F.ok sc_law_free (fun vs H Q E h => spOf_len h) (fun cdv A outer s H vs Q E hr h => ?_)
  obtain ⟨F0, h⟩ := body_out (N := ["_law_some", "_law_menu"]) (f := f_law_free) h
  have hu := hu_of hr
  have hv := hr.units
  refine ⟨liftS (ent H F0 : Ent K) f_law_free, ?_, h⟩
  exact (@ss_cons _ _ _ _ _ _ (@s_set _ _ _ _ _ 1 _ _ sc_law_free.nd (@e_lst _ _ _ _ _ (@d_texts _ _ _ _ [("A", _, _), ("bo", _, _), ("Lee", _, _)] (@d_cons _ _ _ _ _ _ (@e_mulZ _ _ _ _ _ _ _ e_str e_int) (@d_cons _ _ _ _ _ _ (@e_mulZ _ _ _ _ _ _ _ e_str e_int) (@d_texts _ _ _ _ [("Ann", _, _), (" ", _, _), (", ", _, _), (" & ", _, _), ("&", _, _), (",", _, _), (".", _, _), ("9", _, _), ("-", _, _)] d_nil) (by rfl)) (by rfl)))) (by rfl) (by first | exact Or.inl rfl | exact Or.inr rfl) (by rfl) (by first | exact .inl rfl | exact .inr rfl)) (@ss_one _ _ _ _ (@s_ret _ _ _ _ _ (@e_joinX _ _ _ _ _ _ _ _ e_str (@e_comp _ _ _ _ _ _ _ _ _ _ _ _ _ _ _ rfl (compScope (N' := ["_law_k", "_law_menu", "_law_some", ".acc"]) (src := [.own, .cap 1, .cap 0, .acc]) (by rfl) (by rfl) (by rfl) (by rfl) (by rfl) (by rfl)) (srcOk 3 (by rfl) (by rfl)) (by decide) (@i_rng _ _ _ _ _ _ _ T.z_range (@e_mod _ _ _ _ _ _ _ (@e_ix _ _ _ _ _ _ _ hu (@e_var _ _ 0 _ _ (by rfl) (by first | exact Or.inl rfl | exact Or.inr (Or.inl rfl) | exact Or.inr (Or.inr rfl)) (by decide) (by decide)) e_int (by intro _ _; rfl)) e_int) (by rfl) (by rfl)) (fun _ _ _ _ => @xg _ _ _ (fun _ => (@g_name _ _ _ 0 _ (show (["_law_k", "_law_menu", "_law_some", ".acc"] : List Str).Nodup by decide +kernel) (by rfl) (by first | exact Or.inl rfl | exact Or.inr rfl) (by first | exact .inl rfl | exact .inr rfl)))) (fun _ _ _ _ => xt0) (fun _ _ _ _ => @xe _ _ _ (fun _ => (@e_ix _ _ _ _ _ _ _ hu (@e_var _ _ 1 _ _ (by rfl) (by first | exact Or.inl rfl | exact Or.inr (Or.inl rfl) | exact Or.inr (Or.inr rfl)) (by decide) (by decide)) (@e_mod _ _ _ _ _ _ _ (@e_ix _ _ _ _ _ _ _ hu (@e_var _ _ 2 _ _ (by rfl) (by first | exact Or.inl rfl | exact Or.inr (Or.inl rfl) | exact Or.inr (Or.inr rfl)) (by decide) (by decide)) (@e_add _ _ _ _ _ _ _ e_int (@e_var _ _ 0 _ _ (by rfl) (by first | exact Or.inl rfl | exact Or.inr (Or.inl rfl) | exact Or.inr (Or.inr rfl)) (by decide) (by decide))) (by intro _ _; rfl)) e_int) (by intro _ _; rfl)))) (by intro _; rfl)) (by rfl) (by rfl) (by rfl) (by rfl) (by rfl)))))
theorem sc_is_all_of : FnScope ["text", "signs"] ["text", "signs"] (defScope st_is_all_of) := ⟨rfl, rfl, rfl, by decide +kernel, rfl, by decide +kernel, by decide +kernel⟩
theorem ok_is_all_of {fd : FuncData} (F : Fun K "is_all_of" "is_all_of" st_is_all_of fis_all_of fd) (T : Txt K mg tLETTERS tMOST_GIVENS tMOST_HANDS tWORD_LENGTH flaw_numbers flaw_free fis_all_of fis_text_of fread_hand fread_hands flaw_told flaw_is_word flaw_is_hand flaw_due flaw_cell_at flaw_spoiled flaw_word flaw_text fshow_hand fshow_hands flaw aCiteError aNoHands aNoList aNoName aNoNumber aNoPlain aNoRow aNoStyle aNoText aNoWork aRing) :
    FnOk P w K mg base CX0 1 fis_all_of fd ["text", "signs"] (spOf K 2 g_is_all_of) := by
  refine F.ok sc_is_all_of (fun vs H Q E h => spOf_len h) (fun cdv A outer s H vs Q E hr h => ?_)
  obtain ⟨F0, h⟩ := body_out (N := ["text", "signs"]) (f := f_is_all_of) h
  have hu := hu_of hr
  have hv := hr.units
  refine ⟨liftS (ent H F0 : Ent K) f_is_all_of, ?_, h⟩
  exact (@ss_one _ _ _ _ (@s_ret _ _ _ _ _ (@e_all _ _ _ _ _ _ T.z_all (@e_comp _ _ _ _ _ _ _ _ _ _ _ _ _ _ _ rfl (compScope (N' := ["sign", "signs", ".acc"]) (src := [.own, .cap 1, .acc]) (by rfl) (by rfl) (by rfl) (by rfl) (by rfl) (by rfl)) (srcOk 2 (by rfl) (by rfl)) (by decide) (@i_any _ _ _ _ _ (@e_var _ _ 0 _ _ (by rfl) (by first | exact Or.inl rfl | exact Or.inr (Or.inl rfl) | exact Or.inr (Or.inr rfl)) (by decide) (by decide))) (fun _ _ _ _ => @xg _ _ _ (fun _ => (@g_name _ _ _ 0 _ (show (["sign", "signs", ".acc"] : List Str).Nodup by decide +kernel) (by rfl) (by first | exact Or.inl rfl | exact Or.inr rfl) (by first | exact .inl rfl | exact .inr rfl)))) (fun _ _ _ _ => xt0) (fun _ _ _ _ => @xe _ _ _ (fun _ => (@e_inW _ _ _ _ _ _ _ hu (@e_var _ _ 0 _ _ (by rfl) (by first | exact Or.inl rfl | exact Or.inr (Or.inl rfl) | exact Or.inr (Or.inr rfl)) (by decide) (by decide)) (@e_var _ _ 1 _ _ (by rfl) (by first | exact Or.inl rfl | exact Or.inr (Or.inl rfl) | exact Or.inr (Or.inr rfl)) (by decide) (by decide)) (by rfl)))) (by intro _; rfl)) (by rfl) (by rfl) (by rfl) (by rfl))))
theorem sc_is_text_of : FnScope ["value", "signs", "most"] ["value", "signs", "most"] (defScope st_is_text_of) := ⟨rfl, rfl, rfl, by decide +kernel, rfl, by decide +kernel, by decide +kernel⟩
theorem ok_is_text_of {fd : FuncData} (F : Fun K "is_text_of" "is_text_of" st_is_text_of fis_text_of fd) (T : Txt K mg tLETTERS tMOST_GIVENS tMOST_HANDS tWORD_LENGTH flaw_numbers flaw_free fis_all_of fis_text_of fread_hand fread_hands flaw_told flaw_is_word flaw_is_hand flaw_due flaw_cell_at flaw_spoiled flaw_word flaw_text fshow_hand fshow_hands flaw aCiteError aNoHands aNoList aNoName aNoNumber aNoPlain aNoRow aNoStyle aNoText aNoWork aRing) {fd_is_all_of : FuncData} (G_is_all_of : FnOk P w K mg base CX0 1 fis_all_of fd_is_all_of ["text", "signs"] (spOf K 2 g_is_all_of)) (B_is_all_of : Binds K fd_is_all_of ["text", "signs"] []) :
    FnOk P w K mg base CX0 2 fis_text_of fd ["value", "signs", "most"] (spOf K 3 g_is_text_of) := by
  refine F.ok sc_is_text_of (fun vs H Q E h => spOf_len h) (fun cdv A outer s H vs Q E hr h => ?_)
  obtain ⟨F0, h⟩ := body_out (N := ["value", "signs", "most"]) (f := f_is_text_of) h
  have hu := hu_of hr
  have hv := hr.units
  refine ⟨liftS (ent H F0 : Ent K) f_is_text_of, ?_, h⟩
  exact (@ss_cons _ _ _ _ _ _ (@s_if _ _ _ _ _ _ _ _ _ (@t_not _ _ _ _ _ (@t_val _ _ _ _ (@e_isi _ _ _ _ _ _ _ _ _ T.z_isinstance T.z_str boot_str (kit_str _) (@e_var _ _ 0 _ _ (by rfl) (by first | exact Or.inl rfl | exact Or.inr (Or.inl rfl) | exact Or.inr (Or.inr rfl)) (by decide) (by decide)) (by rfl) (by rfl) (by decide) (by decide) (by rfl) (by rfl) (by rfl)) (by intro _; rfl))) (@ss_one _ _ _ _ (@s_ret _ _ _ _ _ e_bl)) ss_nil) (@ss_one _ _ _ _ (@s_ret _ _ _ _ _ (@e_and _ _ _ _ _ _ _ _ (@e_chain _ _ _ _ _ _ _ _ _ _ _ _ _ _ _ op_le p_le op_le p_le e_int (@e_len _ _ _ _ _ _ T.z_len (@e_var _ _ 0 _ _ (by rfl) (by first | exact Or.inl rfl | exact Or.inr (Or.inl rfl) | exact Or.inr (Or.inr rfl)) (by decide) (by decide)) (by rfl) (by rfl) (by rfl)) (@e_var _ _ 2 _ _ (by rfl) (by first | exact Or.inl rfl | exact Or.inr (Or.inl rfl) | exact Or.inr (Or.inr rfl)) (by decide) (by decide)) (by with_unfolding_all rfl)) (@e_one _ _ _ _ _ _ (@e_call _ _ _ _ _ _ _ _ _ _ _ _ _ _ G_is_all_of (hr.mono (by decide)) T.m_is_all_of T.k_is_all_of B_is_all_of (@a_cons _ _ _ _ _ _ (@e_var _ _ 0 _ _ (by rfl) (by first | exact Or.inl rfl | exact Or.inr (Or.inl rfl) | exact Or.inr (Or.inr rfl)) (by decide) (by decide)) (@a_cons _ _ _ _ _ _ (@e_var _ _ 1 _ _ (by rfl) (by first | exact Or.inl rfl | exact Or.inr (Or.inl rfl) | exact Or.inr (Or.inr rfl)) (by decide) (by decide)) a_nil (by rfl)) (by rfl)) (by rfl) (by decide) (by rfl) (by rfl)))))))
theorem sc_read_hand : FnScope ["text", "halves", "givens", "word"] ["text"] (defScope st_read_hand) := ⟨rfl, rfl, rfl, by decide +kernel, rfl, by decide +kernel, by decide +kernel⟩
theorem ok_read_hand {fd : FuncData} (F : Fun K "read_hand" "read_hand" st_read_hand fread_hand fd) (T : Txt K mg tLETTERS tMOST_GIVENS tMOST_HANDS tWORD_LENGTH flaw_numbers flaw_free fis_all_of fis_text_of fread_hand fread_hands flaw_told flaw_is_word flaw_is_hand flaw_due flaw_cell_at flaw_spoiled flaw_word flaw_text fshow_hand fshow_hands flaw aCiteError aNoHands aNoList aNoName aNoNumber aNoPlain aNoRow aNoStyle aNoText aNoWork aRing) (O_NoHands : OwnCls "NoHands" aNoHands VEB "ValueError.__new__" mg base) {fd_is_text_of : FuncData} (G_is_text_of : FnOk P w K mg base CX0 2 fis_text_of fd_is_text_of ["value", "signs", "most"] (spOf K 3 g_is_text_of)) (B_is_text_of : Binds K fd_is_text_of ["value", "signs", "most"] []) :
    FnOk P w K mg base (CX1 P w) 3 fread_hand fd ["text"] (spX K 1 h_read_hand) := by
  refine Fun.okX F sc_read_hand (fun vs H Q E h => spX_len h) (fun cdv A outer s H vs Q E hr h => ?_)
  obtain ⟨F0, h⟩ := body_outX (N := ["text", "halves", "givens", "word"]) (f := f_read_hand) h
  have hu := hu_of hr
  have hv := hr.units
  refine ⟨liftS (entX H F0 E : Ent K) f_read_hand, ?_, h⟩
  exact (@ss_cons _ _ _ _ _ _ (@s_set _ _ _ _ _ 1 _ _ sc_read_hand.nd (@e_partition _ _ _ _ _ _ _ _ (@e_var _ _ 0 _ _ (by rfl) (by first | exact Or.inl rfl | exact Or.inr (Or.inl rfl) | exact Or.inr (Or.inr rfl)) (by decide) (by decide)) e_str (by rfl) (by rfl) (by rfl) (by rfl) (by rfl)) (by rfl) (by first | exact Or.inl rfl | exact Or.inr rfl) (by rfl) (by first | exact .inl rfl | exact .inr rfl)) (@ss_cons _ _ _ _ _ _ (@s_set _ _ _ _ _ 2 _ _ sc_read_hand.nd (@e_if _ _ _ _ _ _ _ _ _ (@t_eqX _ _ _ _ _ _ _ hv (@e_ix _ _ _ _ _ _ _ hu (@e_var _ _ 1 _ _ (by rfl) (by first | exact Or.inl rfl | exact Or.inr (Or.inl rfl) | exact Or.inr (Or.inr rfl)) (by decide) (by decide)) e_int (by intro _ _; rfl)) e_str) (@e_split _ _ _ _ _ _ _ _ (@e_ix _ _ _ _ _ _ _ hu (@e_var _ _ 1 _ _ (by rfl) (by first | exact Or.inl rfl | exact Or.inr (Or.inl rfl) | exact Or.inr (Or.inr rfl)) (by decide) (by decide)) e_int (by intro _ _; rfl)) e_str (by rfl) (by rfl) (by rfl) (by rfl) (by rfl)) (@e_lst _ _ _ _ _ d_nil)) (by rfl) (by first | exact Or.inl rfl | exact Or.inr rfl) (by rfl) (by first | exact .inl rfl | exact .inr rfl)) (@ss_cons _ _ _ _ _ _ (@s_if _ _ _ _ _ _ _ _ _ (@t_gt _ _ _ _ _ _ _ (@e_len _ _ _ _ _ _ T.z_len (@e_var _ _ 2 _ _ (by rfl) (by first | exact Or.inl rfl | exact Or.inr (Or.inl rfl) | exact Or.inr (Or.inr rfl)) (by decide) (by decide)) (by rfl) (by rfl) (by rfl)) (@e_globI _ _ _ _ _ _ T.c_MOST_GIVENS (by rfl) (by decide))) (@ss_one _ _ _ _ (@s_raise _ _ _ _ _ _ _ _ _ _ throws_fn rfl O_NoHands T.n_NoHands (by exact fun _ _ _ _ h => h) (by rfl) (by rfl) (by rfl) (by rfl) (by exact ⟨_, _, rfl⟩) (by decide))) ss_nil) (@ss_cons _ _ _ _ _ _ (@s_for _ _ _ _ _ _ _ _ _ PassesOwn.leaving rfl (@i_any _ _ _ _ _ (@e_add _ _ _ _ _ _ _ (@e_lst _ _ _ _ _ (@d_cons _ _ _ _ _ _ (@e_ix _ _ _ _ _ _ _ hu (@e_var _ _ 1 _ _ (by rfl) (by first | exact Or.inl rfl | exact Or.inr (Or.inl rfl) | exact Or.inr (Or.inr rfl)) (by decide) (by decide)) e_int (by intro _ _; rfl)) d_nil (by rfl))) (@e_var _ _ 2 _ _ (by rfl) (by first | exact Or.inl rfl | exact Or.inr (Or.inl rfl) | exact Or.inr (Or.inr rfl)) (by decide) (by decide)))) (@g_name _ _ _ 3 _ sc_read_hand.nd (by rfl) (by first | exact Or.inl rfl | exact Or.inr rfl) (by first | exact .inl rfl | exact .inr rfl)) (@ss_one _ _ _ _ (@s_if _ _ _ _ _ _ _ _ _ (@t_not _ _ _ _ _ (@t_val _ _ _ _ (@e_call _ _ _ _ _ _ _ _ _ _ _ _ _ _ G_is_text_of (hr.mono (by decide)) T.m_is_text_of T.k_is_text_of B_is_text_of (@a_cons _ _ _ _ _ _ (@e_var _ _ 3 _ _ (by rfl) (by first | exact Or.inl rfl | exact Or.inr (Or.inl rfl) | exact Or.inr (Or.inr rfl)) (by decide) (by decide)) (@a_cons _ _ _ _ _ _ (@e_globS _ _ _ _ _ _ T.c_LETTERS (by rfl) (by decide)) (@a_cons _ _ _ _ _ _ (@e_globI _ _ _ _ _ _ T.c_WORD_LENGTH (by rfl) (by decide)) a_nil (by rfl)) (by rfl)) (by rfl)) (by rfl) (by decide) (by rfl) (by rfl)) (by intro _; rfl))) (@ss_one _ _ _ _ (@s_raise _ _ _ _ _ _ _ _ _ _ throws_fn rfl O_NoHands T.n_NoHands (by exact fun _ _ _ _ h => h) (by rfl) (by rfl) (by rfl) (by rfl) (by exact ⟨_, _, rfl⟩) (by decide))) ss_nil)) (by intro _; rfl)) (@ss_one _ _ _ _ (@s_ret _ _ _ _ _ (@e_tup _ _ _ _ _ _ (@d_cons _ _ _ _ _ _ (@e_ix _ _ _ _ _ _ _ hu (@e_var _ _ 1 _ _ (by rfl) (by first | exact Or.inl rfl | exact Or.inr (Or.inl rfl) | exact Or.inr (Or.inr rfl)) (by decide) (by decide)) e_int (by intro _ _; rfl)) (@d_cons _ _ _ _ _ _ (@e_tuple _ _ _ _ _ _ T.z_tuple (@e_var _ _ 2 _ _ (by rfl) (by first | exact Or.inl rfl | exact Or.inr (Or.inl rfl) | exact Or.inr (Or.inr rfl)) (by decide) (by decide)) (by rfl) (by rfl) (by rfl)) d_nil (by rfl)) (by rfl)))))))))
theorem sc_read_hands : FnScope ["text", "parts"] ["text"] (defScope st_read_hands) := ⟨rfl, rfl, rfl, by decide +kernel, rfl, by decide +kernel, by decide +kernel⟩
theorem ok_read_hands {fd : FuncData} (F : Fun K "read_hands" "read_hands" st_read_hands fread_hands fd) (T : Txt K mg tLETTERS tMOST_GIVENS tMOST_HANDS tWORD_LENGTH flaw_numbers flaw_free fis_all_of fis_text_of fread_hand fread_hands flaw_told flaw_is_word flaw_is_hand flaw_due flaw_cell_at flaw_spoiled flaw_word flaw_text fshow_hand fshow_hands flaw aCiteError aNoHands aNoList aNoName aNoNumber aNoPlain aNoRow aNoStyle aNoText aNoWork aRing) (O_NoHands : OwnCls "NoHands" aNoHands VEB "ValueError.__new__" mg base) {fd_read_hand : FuncData} (G_read_hand : FnOk P w K mg base (CX1 P w) 3 fread_hand fd_read_hand ["text"] (spX K 1 h_read_hand)) (B_read_hand : Binds K fd_read_hand ["text"] []) :
    FnOk P w K mg base (CX1 P w) 4 fread_hands fd ["text"] (spX K 1 h_read_hands) := by
  refine Fun.okX F sc_read_hands (fun vs H Q E h => spX_len h) (fun cdv A outer s H vs Q E hr h => ?_)
  obtain ⟨F0, h⟩ := body_outX (N := ["text", "parts"]) (f := f_read_hands) h
  have hu := hu_of hr
  have hv := hr.units
  refine ⟨liftS (entX H F0 E : Ent K) f_read_hands, ?_, h⟩
  exact (@ss_cons _ _ _ _ _ _ (@s_if _ _ _ _ _ _ _ _ _ (@t_not _ _ _ _ _ (@t_val _ _ _ _ (@e_isi _ _ _ _ _ _ _ _ _ T.z_isinstance T.z_str boot_str (kit_str _) (@e_var _ _ 0 _ _ (by rfl) (by first | exact Or.inl rfl | exact Or.inr (Or.inl rfl) | exact Or.inr (Or.inr rfl)) (by decide) (by decide)) (by rfl) (by rfl) (by decide) (by decide) (by rfl) (by rfl) (by rfl)) (by intro _; rfl))) (@ss_one _ _ _ _ (@s_raise _ _ _ _ _ _ _ _ _ _ throws_fn rfl O_NoHands T.n_NoHands (by exact fun _ _ _ _ h => h) (by rfl) (by rfl) (by rfl) (by rfl) (by exact ⟨_, _, rfl⟩) (by decide))) ss_nil) (@ss_cons _ _ _ _ _ _ (@s_set _ _ _ _ _ 1 _ _ sc_read_hands.nd (@e_split _ _ _ _ _ _ _ _ (@e_var _ _ 0 _ _ (by rfl) (by first | exact Or.inl rfl | exact Or.inr (Or.inl rfl) | exact Or.inr (Or.inr rfl)) (by decide) (by decide)) e_str (by rfl) (by rfl) (by rfl) (by rfl) (by rfl)) (by rfl) (by first | exact Or.inl rfl | exact Or.inr rfl) (by rfl) (by first | exact .inl rfl | exact .inr rfl)) (@ss_cons _ _ _ _ _ _ (@s_if _ _ _ _ _ _ _ _ _ (@t_gt _ _ _ _ _ _ _ (@e_len _ _ _ _ _ _ T.z_len (@e_var _ _ 1 _ _ (by rfl) (by first | exact Or.inl rfl | exact Or.inr (Or.inl rfl) | exact Or.inr (Or.inr rfl)) (by decide) (by decide)) (by rfl) (by rfl) (by rfl)) (@e_globI _ _ _ _ _ _ T.c_MOST_HANDS (by rfl) (by decide))) (@ss_one _ _ _ _ (@s_raise _ _ _ _ _ _ _ _ _ _ throws_fn rfl O_NoHands T.n_NoHands (by exact fun _ _ _ _ h => h) (by rfl) (by rfl) (by rfl) (by rfl) (by exact ⟨_, _, rfl⟩) (by decide))) ss_nil) (@ss_one _ _ _ _ (@s_retX _ _ _ _ _ (@x_comp _ _ _ _ _ _ _ _ _ _ _ _ _ _ _ rfl throwsT_fn (compScope (N' := ["part", ".acc"]) (src := [.own, .acc]) (by rfl) (by rfl) (by rfl) (by rfl) (by rfl) (by rfl)) (srcOk 1 (by rfl) (by rfl)) (by decide) (@i_any _ _ _ _ _ (@e_var _ _ 1 _ _ (by rfl) (by first | exact Or.inl rfl | exact Or.inr (Or.inl rfl) | exact Or.inr (Or.inr rfl)) (by decide) (by decide))) (fun _ _ _ _ => @xg _ _ _ (fun _ => (@g_name _ _ _ 0 _ (show (["part", ".acc"] : List Str).Nodup by decide +kernel) (by rfl) (by first | exact Or.inl rfl | exact Or.inr rfl) (by first | exact .inl rfl | exact .inr rfl)))) (fun _ _ _ _ => xt0) (fun _ _ _ _ _ _ tq => @xx _ _ _ _ (fun _ zq => (@x_call _ _ _ _ _ _ _ _ _ _ _ _ _ _ G_read_hand (hr.mono (by decide)) T.m_read_hand T.k_read_hand B_read_hand (pass_eq zq tq) (@ax_cons _ _ _ _ _ _ (@x_pure _ _ _ _ (@e_var _ _ 0 _ _ (by rfl) (by first | exact Or.inl rfl | exact Or.inr (Or.inl rfl) | exact Or.inr (Or.inr rfl)) (by decide) (by decide))) ax_nil (by rfl)) (by rfl) (by decide) (by rfl) (by rfl)))) (by rfl) (by rfl) (by rfl) (by intro _; rfl)))))))
theorem sc_law_told : FnScope ["_law_text_here", "_law_found", "e", "_law_some", "_law_apart"] ["_law_text_here"] (defScope st_law_told) := ⟨rfl, rfl, rfl, by decide +kernel, rfl, by decide +kernel, by decide +kernel⟩
theorem ok_law_told {fd : FuncData} (F : Fun K "_law_told" "_law_told" st_law_told flaw_told fd) (T : Txt K mg tLETTERS tMOST_GIVENS tMOST_HANDS tWORD_LENGTH flaw_numbers flaw_free fis_all_of fis_text_of fread_hand fread_hands flaw_told flaw_is_word flaw_is_hand flaw_due flaw_cell_at flaw_spoiled flaw_word flaw_text fshow_hand fshow_hands flaw aCiteError aNoHands aNoList aNoName aNoNumber aNoPlain aNoRow aNoStyle aNoText aNoWork aRing) {fd_read_hands : FuncData} (G_read_hands : FnOk P w K mg base (CX1 P w) 4 fread_hands fd_read_hands ["text"] (spX K 1 h_read_hands)) (B_read_hands : Binds K fd_read_hands ["text"] []) :
    FnOk P w K mg base CX0 5 flaw_told fd ["_law_text_here"] (spOf K 1 g_law_told) := by
  refine F.ok sc_law_told (fun vs H Q E h => spOf_len h) (fun cdv A outer s H vs Q E hr h => ?_)
  obtain ⟨F0, h⟩ := body_out (N := ["_law_text_here", "_law_found", "e", "_law_some", "_law_apart"]) (f := f_law_told) h
  have hu := hu_of hr
  have hv := hr.units
  refine ⟨liftS (ent H F0 : Ent K) f_law_told, ?_, h⟩
  exact (@ss_cons _ _ _ _ _ _ (@s_set _ _ _ _ _ 1 _ _ sc_law_told.nd e_non (by rfl) (by first | exact Or.inl rfl | exact Or.inr rfl) (by rfl) (by first | exact .inl rfl | exact .inr rfl)) (@ss_cons _ _ _ _ _ _ (@s_try1s _ _ _ _ _ _ _ _ _ _ _ _ _ _ _ _ (fun _ _ _ tq => (@ss_one _ _ _ _ (@s_setX _ _ _ _ _ 1 _ _ sc_law_told.nd (@x_call _ _ _ _ _ _ _ _ _ _ _ _ _ _ G_read_hands (hr.mono (by decide)) T.m_read_hands T.k_read_hands B_read_hands (tq.pass rfl) (@ax_cons _ _ _ _ _ _ (@x_pure _ _ _ _ (@e_var _ _ 0 _ _ (by rfl) (by first | exact Or.inl rfl | exact Or.inr (Or.inl rfl) | exact Or.inr (Or.inr rfl)) (by decide) (by decide))) ax_nil (by rfl)) (by rfl) (by decide) (by rfl) (by rfl)) (by rfl) (by first | exact Or.inl rfl | exact Or.inr rfl) (by rfl) (by first | exact .inl rfl | exact .inr rfl)))) T.x_NoHands ⟨T.ty_NoHands, T.ic_NoHands, T.be_NoHands⟩ sc_law_told.nd (fun _ => (@ss_cons _ _ _ _ _ _ (@s_set _ _ _ _ _ 3 _ _ sc_law_told.nd (@e_lst _ _ _ _ _ (@d_cons _ _ _ _ _ _ (@e_isX _ _ _ _ _ _ _ _ _ _ _ T.z_isinstance T.x_NoPlain ⟨sub_nil, (sub_cons T.n_NoHands ⟨T.ek_NoHands, T.q0_NoHands⟩ sub_nil)⟩ (@e_var _ _ 2 _ _ (by rfl) (by first | exact Or.inl rfl | exact Or.inr (Or.inl rfl) | exact Or.inr (Or.inr rfl)) (by decide) (by decide)) (by rfl) (by rfl) (by decide) (by rfl) (by rfl) (by rfl)) (@d_cons _ _ _ _ _ _ (@e_isX _ _ _ _ _ _ _ _ _ _ _ T.z_isinstance T.x_NoName ⟨sub_nil, (sub_cons T.n_NoHands ⟨T.ek_NoHands, T.q1_NoHands⟩ sub_nil)⟩ (@e_var _ _ 2 _ _ (by rfl) (by first | exact Or.inl rfl | exact Or.inr (Or.inl rfl) | exact Or.inr (Or.inr rfl)) (by decide) (by decide)) (by rfl) (by rfl) (by decide) (by rfl) (by rfl) (by rfl)) (@d_cons _ _ _ _ _ _ (@e_isX _ _ _ _ _ _ _ _ _ _ _ T.z_isinstance T.x_NoText ⟨sub_nil, (sub_cons T.n_NoHands ⟨T.ek_NoHands, T.q2_NoHands⟩ sub_nil)⟩ (@e_var _ _ 2 _ _ (by rfl) (by first | exact Or.inl rfl | exact Or.inr (Or.inl rfl) | exact Or.inr (Or.inr rfl)) (by decide) (by decide)) (by rfl) (by rfl) (by decide) (by rfl) (by rfl) (by rfl)) (@d_cons _ _ _ _ _ _ (@e_isX _ _ _ _ _ _ _ _ _ _ _ T.z_isinstance T.x_NoStyle ⟨sub_nil, (sub_cons T.n_NoHands ⟨T.ek_NoHands, T.q3_NoHands⟩ sub_nil)⟩ (@e_var _ _ 2 _ _ (by rfl) (by first | exact Or.inl rfl | exact Or.inr (Or.inl rfl) | exact Or.inr (Or.inr rfl)) (by decide) (by decide)) (by rfl) (by rfl) (by decide) (by rfl) (by rfl) (by rfl)) d_nil (by rfl)) (by rfl)) (by rfl)) (by rfl))) (by rfl) (by first | exact Or.inl rfl | exact Or.inr rfl) (by rfl) (by first | exact .inl rfl | exact .inr rfl)) (@ss_cons _ _ _ _ _ _ (@s_set _ _ _ _ _ 3 _ _ sc_law_told.nd (@e_add _ _ _ _ _ _ _ (@e_var _ _ 3 _ _ (by rfl) (by first | exact Or.inl rfl | exact Or.inr (Or.inl rfl) | exact Or.inr (Or.inr rfl)) (by decide) (by decide)) (@e_lst _ _ _ _ _ (@d_cons _ _ _ _ _ _ (@e_isX _ _ _ _ _ _ _ _ _ _ _ T.z_isinstance T.x_NoList ⟨sub_nil, (sub_cons T.n_NoHands ⟨T.ek_NoHands, T.q4_NoHands⟩ sub_nil)⟩ (@e_var _ _ 2 _ _ (by rfl) (by first | exact Or.inl rfl | exact Or.inr (Or.inl rfl) | exact Or.inr (Or.inr rfl)) (by decide) (by decide)) (by rfl) (by rfl) (by decide) (by rfl) (by rfl) (by rfl)) (@d_cons _ _ _ _ _ _ (@e_isX _ _ _ _ _ _ _ _ _ _ _ T.z_isinstance T.x_NoNumber ⟨sub_nil, (sub_cons T.n_NoHands ⟨T.ek_NoHands, T.q5_NoHands⟩ sub_nil)⟩ (@e_var _ _ 2 _ _ (by rfl) (by first | exact Or.inl rfl | exact Or.inr (Or.inl rfl) | exact Or.inr (Or.inr rfl)) (by decide) (by decide)) (by rfl) (by rfl) (by decide) (by rfl) (by rfl) (by rfl)) (@d_cons _ _ _ _ _ _ (@e_isX _ _ _ _ _ _ _ _ _ _ _ T.z_isinstance T.x_NoRow ⟨sub_nil, (sub_cons T.n_NoHands ⟨T.ek_NoHands, T.q6_NoHands⟩ sub_nil)⟩ (@e_var _ _ 2 _ _ (by rfl) (by first | exact Or.inl rfl | exact Or.inr (Or.inl rfl) | exact Or.inr (Or.inr rfl)) (by decide) (by decide)) (by rfl) (by rfl) (by decide) (by rfl) (by rfl) (by rfl)) (@d_cons _ _ _ _ _ _ (@e_isX _ _ _ _ _ _ _ _ _ _ _ T.z_isinstance T.x_NoWork ⟨sub_nil, (sub_cons T.n_NoHands ⟨T.ek_NoHands, T.q7_NoHands⟩ sub_nil)⟩ (@e_var _ _ 2 _ _ (by rfl) (by first | exact Or.inl rfl | exact Or.inr (Or.inl rfl) | exact Or.inr (Or.inr rfl)) (by decide) (by decide)) (by rfl) (by rfl) (by decide) (by rfl) (by rfl) (by rfl)) d_nil (by rfl)) (by rfl)) (by rfl)) (by rfl)))) (by rfl) (by first | exact Or.inl rfl | exact Or.inr rfl) (by rfl) (by first | exact .inl rfl | exact .inr rfl)) (@ss_cons _ _ _ _ _ _ (@s_set _ _ _ _ _ 4 _ _ sc_law_told.nd (@e_and _ _ _ _ _ _ _ _ (@e_notinW _ _ _ _ _ _ _ hu e_bl (@e_var _ _ 3 _ _ (by rfl) (by first | exact Or.inl rfl | exact Or.inr (Or.inl rfl) | exact Or.inr (Or.inr rfl)) (by decide) (by decide)) (by rfl)) (@e_one _ _ _ _ _ _ (@e_not _ _ _ _ _ (@e_isX _ _ _ _ _ _ _ _ _ _ _ T.z_isinstance T.x_Ring ⟨sub_nil, (sub_cons T.n_NoHands ⟨T.ek_NoHands, T.q8_NoHands⟩ sub_nil)⟩ (@e_var _ _ 2 _ _ (by rfl) (by first | exact Or.inl rfl | exact Or.inr (Or.inl rfl) | exact Or.inr (Or.inr rfl)) (by decide) (by decide)) (by rfl) (by rfl) (by decide) (by rfl) (by rfl) (by rfl))))) (by rfl) (by first | exact Or.inl rfl | exact Or.inr rfl) (by rfl) (by first | exact .inl rfl | exact .inr rfl)) (@ss_one _ _ _ _ (@s_set _ _ _ _ _ 1 _ _ sc_law_told.nd (@e_tup _ _ _ _ _ _ (@d_cons _ _ _ _ _ _ e_str (@d_cons _ _ _ _ _ _ (@e_and _ _ _ _ _ _ _ _ (@e_isX _ _ _ _ _ _ _ _ _ _ _ T.z_isinstance T.x_CiteError ⟨(sub_cons T.n_NoHands ⟨T.ek_NoHands, T.q9_NoHands⟩ sub_nil), sub_nil⟩ (@e_var _ _ 2 _ _ (by rfl) (by first | exact Or.inl rfl | exact Or.inr (Or.inl rfl) | exact Or.inr (Or.inr rfl)) (by decide) (by decide)) (by rfl) (by rfl) (by decide) (by rfl) (by rfl) (by rfl)) (@e_and _ _ _ _ _ _ _ _ (@e_isXB _ _ _ _ _ _ _ _ _ _ _ T.z_isinstance T.z_ValueError boot_VE ⟨(sub_cons T.n_NoHands ⟨T.ek_NoHands, T.q10_NoHands⟩ sub_nil), sub_nil⟩ (@e_var _ _ 2 _ _ (by rfl) (by first | exact Or.inl rfl | exact Or.inr (Or.inl rfl) | exact Or.inr (Or.inr rfl)) (by decide) (by decide)) (by rfl) (by rfl) (by decide) (by decide) (by rfl) (by rfl) (by rfl)) (@e_one _ _ _ _ _ _ (@e_var _ _ 4 _ _ (by rfl) (by first | exact Or.inl rfl | exact Or.inr (Or.inl rfl) | exact Or.inr (Or.inr rfl)) (by decide) (by decide))))) d_nil (by rfl)) (by rfl))) (by rfl) (by first | exact Or.inl rfl | exact Or.inr rfl) (by rfl) (by first | exact .inl rfl | exact .inr rfl))))))) (sub_cons T.n_NoHands T.h_NoHands_NoHands sub_nil) sub_nil (by rfl) (by rfl) (by rfl) (by decide) (by rfl) (by rfl) (by rfl)) (@ss_one _ _ _ _ (@s_ret _ _ _ _ _ (@e_var _ _ 1 _ _ (by rfl) (by first | exact Or.inl rfl | exact Or.inr (Or.inl rfl) | exact Or.inr (Or.inr rfl)) (by decide) (by decide))))))
theorem sc_law_is_word : FnScope ["_law_text_here", "_law_sign"] ["_law_text_here"] (defScope st_law_is_word) := ⟨rfl, rfl, rfl, by decide +kernel, rfl, by decide +kernel, by decide +kernel⟩
theorem ok_law_is_word {fd : FuncData} (F : Fun K "_law_is_word" "_law_is_word" st_law_is_word flaw_is_word fd) (T : Txt K mg tLETTERS tMOST_GIVENS tMOST_HANDS tWORD_LENGTH flaw_numbers flaw_free fis_all_of fis_text_of fread_hand fread_hands flaw_told flaw_is_word flaw_is_hand flaw_due flaw_cell_at flaw_spoiled flaw_word flaw_text fshow_hand fshow_hands flaw aCiteError aNoHands aNoList aNoName aNoNumber aNoPlain aNoRow aNoStyle aNoText aNoWork aRing) :
    FnOk P w K mg base CX0 1 flaw_is_word fd ["_law_text_here"] (spOf K 1 g_law_is_word) := by
  refine F.ok sc_law_is_word (fun vs H Q E h => spOf_len h) (fun cdv A outer s H vs Q E hr h => ?_)
  obtain ⟨F0, h⟩ := body_out (N := ["_law_text_here", "_law_sign"]) (f := f_law_is_word) h
  have hu := hu_of hr
  have hv := hr.units
  refine ⟨liftS (ent H F0 : Ent K) f_law_is_word, ?_, h⟩
  exact (@ss_cons _ _ _ _ _ _ (@s_if _ _ _ _ _ _ _ _ _ (@PW.pt _ _ _ (@w_or _ _ _ _ _ _ _ _ (@t_lt _ _ _ _ _ _ _ (@e_len _ _ _ _ _ _ T.z_len (@e_var _ _ 0 _ _ (by rfl) (by first | exact Or.inl rfl | exact Or.inr (Or.inl rfl) | exact Or.inr (Or.inr rfl)) (by decide) (by decide)) (by rfl) (by rfl) (by rfl)) e_int) (@w_or1 _ _ _ _ _ (@t_gt _ _ _ _ _ _ _ (@e_len _ _ _ _ _ _ T.z_len (@e_var _ _ 0 _ _ (by rfl) (by first | exact Or.inl rfl | exact Or.inr (Or.inl rfl) | exact Or.inr (Or.inr rfl)) (by decide) (by decide)) (by rfl) (by rfl) (by rfl)) e_int)))) (@ss_one _ _ _ _ (@s_ret _ _ _ _ _ e_bl)) ss_nil) (@ss_cons _ _ _ _ _ _ (@s_for _ _ _ _ _ _ _ _ _ PassesOwn.never rfl (@i_any _ _ _ _ _ (@e_var _ _ 0 _ _ (by rfl) (by first | exact Or.inl rfl | exact Or.inr (Or.inl rfl) | exact Or.inr (Or.inr rfl)) (by decide) (by decide))) (@g_name _ _ _ 1 _ sc_law_is_word.nd (by rfl) (by first | exact Or.inl rfl | exact Or.inr rfl) (by first | exact .inl rfl | exact .inr rfl)) (@ss_one _ _ _ _ (@s_if _ _ _ _ _ _ _ _ _ (@t_notinW _ _ _ _ _ _ _ hu (@e_var _ _ 1 _ _ (by rfl) (by first | exact Or.inl rfl | exact Or.inr (Or.inl rfl) | exact Or.inr (Or.inr rfl)) (by decide) (by decide)) e_str (by rfl)) (@ss_one _ _ _ _ (@s_ret _ _ _ _ _ e_bl)) ss_nil)) (by intro _; rfl)) (@ss_one _ _ _ _ (@s_ret _ _ _ _ _ e_bl))))
theorem sc_law_is_hand : FnScope ["_law_text_here", "_law_words"] ["_law_text_here"] (defScope st_law_is_hand) := ⟨rfl, rfl, rfl, by decide +kernel, rfl, by decide +kernel, by decide +kernel⟩
theorem ok_law_is_hand {fd : FuncData} (F : Fun K "_law_is_hand" "_law_is_hand" st_law_is_hand flaw_is_hand fd) (T : Txt K mg tLETTERS tMOST_GIVENS tMOST_HANDS tWORD_LENGTH flaw_numbers flaw_free fis_all_of fis_text_of fread_hand fread_hands flaw_told flaw_is_word flaw_is_hand flaw_due flaw_cell_at flaw_spoiled flaw_word flaw_text fshow_hand fshow_hands flaw aCiteError aNoHands aNoList aNoName aNoNumber aNoPlain aNoRow aNoStyle aNoText aNoWork aRing) {fd_law_is_word : FuncData} (G_law_is_word : FnOk P w K mg base CX0 1 flaw_is_word fd_law_is_word ["_law_text_here"] (spOf K 1 g_law_is_word)) (B_law_is_word : Binds K fd_law_is_word ["_law_text_here"] []) :
    FnOk P w K mg base CX0 2 flaw_is_hand fd ["_law_text_here"] (spOf K 1 g_law_is_hand) := by
  refine F.ok sc_law_is_hand (fun vs H Q E h => spOf_len h) (fun cdv A outer s H vs Q E hr h => ?_)
  obtain ⟨F0, h⟩ := body_out (N := ["_law_text_here", "_law_words"]) (f := f_law_is_hand) h
  have hu := hu_of hr
  have hv := hr.units
  refine ⟨liftS (ent H F0 : Ent K) f_law_is_hand, ?_, h⟩
  exact (@ss_cons _ _ _ _ _ _ (@s_set _ _ _ _ _ 1 _ _ sc_law_is_hand.nd (@e_split _ _ _ _ _ _ _ _ (@e_var _ _ 0 _ _ (by rfl) (by first | exact Or.inl rfl | exact Or.inr (Or.inl rfl) | exact Or.inr (Or.inr rfl)) (by decide) (by decide)) e_str (by rfl) (by rfl) (by rfl) (by rfl) (by rfl)) (by rfl) (by first | exact Or.inl rfl | exact Or.inr rfl) (by rfl) (by first | exact .inl rfl | exact .inr rfl)) (@ss_cons _ _ _ _ _ _ (@s_if _ _ _ _ _ _ _ _ _ (@t_gt _ _ _ _ _ _ _ (@e_len _ _ _ _ _ _ T.z_len (@e_var _ _ 1 _ _ (by rfl) (by first | exact Or.inl rfl | exact Or.inr (Or.inl rfl) | exact Or.inr (Or.inr rfl)) (by decide) (by decide)) (by rfl) (by rfl) (by rfl)) e_int) (@ss_one _ _ _ _ (@s_ret _ _ _ _ _ e_bl)) ss_nil) (@ss_cons _ _ _ _ _ _ (@s_if _ _ _ _ _ _ _ _ _ (@t_eqX _ _ _ _ _ _ _ hv (@e_len _ _ _ _ _ _ T.z_len (@e_var _ _ 1 _ _ (by rfl) (by first | exact Or.inl rfl | exact Or.inr (Or.inl rfl) | exact Or.inr (Or.inr rfl)) (by decide) (by decide)) (by rfl) (by rfl) (by rfl)) e_int) (@ss_one _ _ _ _ (@s_ret _ _ _ _ _ (@e_call _ _ _ _ _ _ _ _ _ _ _ _ _ _ G_law_is_word (hr.mono (by decide)) T.m_law_is_word T.k_law_is_word B_law_is_word (@a_cons _ _ _ _ _ _ (@e_var _ _ 0 _ _ (by rfl) (by first | exact Or.inl rfl | exact Or.inr (Or.inl rfl) | exact Or.inr (Or.inr rfl)) (by decide) (by decide)) a_nil (by rfl)) (by rfl) (by decide) (by rfl) (by rfl)))) ss_nil) (@ss_cons _ _ _ _ _ _ (@s_if _ _ _ _ _ _ _ _ _ (@PW.pt _ _ _ (@w_or _ _ _ _ _ _ _ _ (@t_neX _ _ _ _ _ _ _ hv (@e_sl _ _ _ _ _ _ _ _ _ _ (@e_ix _ _ _ _ _ _ _ hu (@e_var _ _ 1 _ _ (by rfl) (by first | exact Or.inl rfl | exact Or.inr (Or.inl rfl) | exact Or.inr (Or.inr rfl)) (by decide) (by decide)) e_int (by intro _ _; rfl)) (@o_some _ _ _ _ (@e_neg _ _ _ _ _ e_int)) o_none) e_str) (@w_or1 _ _ _ _ _ (@t_not _ _ _ _ _ (@t_val _ _ _ _ (@e_call _ _ _ _ _ _ _ _ _ _ _ _ _ _ G_law_is_word (hr.mono (by decide)) T.m_law_is_word T.k_law_is_word B_law_is_word (@a_cons _ _ _ _ _ _ (@e_sl _ _ _ _ _ _ _ _ _ _ (@e_ix _ _ _ _ _ _ _ hu (@e_var _ _ 1 _ _ (by rfl) (by first | exact Or.inl rfl | exact Or.inr (Or.inl rfl) | exact Or.inr (Or.inr rfl)) (by decide) (by decide)) e_int (by intro _ _; rfl)) o_none (@o_some _ _ _ _ (@e_neg _ _ _ _ _ e_int))) a_nil (by rfl)) (by rfl) (by decide) (by rfl) (by rfl)) (by intro _; rfl)))))) (@ss_one _ _ _ _ (@s_ret _ _ _ _ _ e_bl)) ss_nil) (@ss_one _ _ _ _ (@s_ret _ _ _ _ _ (@e_notinW _ _ _ _ _ _ _ hu e_bl (@e_comp _ _ _ _ _ _ _ _ _ _ _ _ _ _ _ rfl (compScope (N' := ["_law_word_here", ".acc"]) (src := [.own, .acc]) (by rfl) (by rfl) (by rfl) (by rfl) (by rfl) (by rfl)) (srcOk 1 (by rfl) (by rfl)) (by decide) (@i_any _ _ _ _ _ (@e_sl _ _ _ _ _ _ _ _ _ _ (@e_var _ _ 1 _ _ (by rfl) (by first | exact Or.inl rfl | exact Or.inr (Or.inl rfl) | exact Or.inr (Or.inr rfl)) (by decide) (by decide)) (@o_some _ _ _ _ e_int) o_none)) (fun _ _ _ _ => @xg _ _ _ (fun _ => (@g_name _ _ _ 0 _ (show (["_law_word_here", ".acc"] : List Str).Nodup by decide +kernel) (by rfl) (by first | exact Or.inl rfl | exact Or.inr rfl) (by first | exact .inl rfl | exact .inr rfl)))) (fun _ _ _ _ => xt0) (fun _ _ _ _ => @xe _ _ _ (fun _ => (@e_call _ _ _ _ _ _ _ _ _ _ _ _ _ _ G_law_is_word (hr.mono (by decide)) T.m_law_is_word T.k_law_is_word B_law_is_word (@a_cons _ _ _ _ _ _ (@e_var _ _ 0 _ _ (by rfl) (by first | exact Or.inl rfl | exact Or.inr (Or.inl rfl) | exact Or.inr (Or.inr rfl)) (by decide) (by decide)) a_nil (by rfl)) (by rfl) (by decide) (by rfl) (by rfl)))) (by intro _; rfl)) (by rfl))))))))
theorem sc_law_due : FnScope ["_law_text_here", "_law_rest", "_law_k", "_law_word_here", "_law_mark"] ["_law_text_here"] (defScope st_law_due) := ⟨rfl, rfl, rfl, by decide +kernel, rfl, by decide +kernel, by decide +kernel⟩
theorem ok_law_due {fd : FuncData} (F : Fun K "_law_due" "_law_due" st_law_due flaw_due fd) (T : Txt K mg tLETTERS tMOST_GIVENS tMOST_HANDS tWORD_LENGTH flaw_numbers flaw_free fis_all_of fis_text_of fread_hand fread_hands flaw_told flaw_is_word flaw_is_hand flaw_due flaw_cell_at flaw_spoiled flaw_word flaw_text fshow_hand fshow_hands flaw aCiteError aNoHands aNoList aNoName aNoNumber aNoPlain aNoRow aNoStyle aNoText aNoWork aRing) {fd_law_is_hand : FuncData} (G_law_is_hand : FnOk P w K mg base CX0 2 flaw_is_hand fd_law_is_hand ["_law_text_here"] (spOf K 1 g_law_is_hand)) (B_law_is_hand : Binds K fd_law_is_hand ["_law_text_here"] []) :
    FnOk P w K mg base CX0 3 flaw_due fd ["_law_text_here"] (spOf K 1 g_law_due) := by
  refine F.ok sc_law_due (fun vs H Q E h => spOf_len h) (fun cdv A outer s H vs Q E hr h => ?_)
  obtain ⟨F0, h⟩ := body_out (N := ["_law_text_here", "_law_rest", "_law_k", "_law_word_here", "_law_mark"]) (f := f_law_due) h
  have hu := hu_of hr
  have hv := hr.units
  refine ⟨liftS (ent H F0 : Ent K) f_law_due, ?_, h⟩
  exact (@ss_cons _ _ _ _ _ _ (@s_if _ _ _ _ _ _ _ _ _ (@t_not _ _ _ _ _ (@t_val _ _ _ _ (@e_isi _ _ _ _ _ _ _ _ _ T.z_isinstance T.z_str boot_str (kit_str _) (@e_var _ _ 0 _ _ (by rfl) (by first | exact Or.inl rfl | exact Or.inr (Or.inl rfl) | exact Or.inr (Or.inr rfl)) (by decide) (by decide)) (by rfl) (by rfl) (by decide) (by decide) (by rfl) (by rfl) (by rfl)) (by intro _; rfl))) (@ss_one _ _ _ _ (@s_ret _ _ _ _ _ e_bl)) ss_nil) (@ss_cons _ _ _ _ _ _ (@s_set _ _ _ _ _ 1 _ _ sc_law_due.nd (@e_var _ _ 0 _ _ (by rfl) (by first | exact Or.inl rfl | exact Or.inr (Or.inl rfl) | exact Or.inr (Or.inr rfl)) (by decide) (by decide)) (by rfl) (by first | exact Or.inl rfl | exact Or.inr rfl) (by rfl) (by first | exact .inl rfl | exact .inr rfl)) (@ss_cons _ _ _ _ _ _ (@s_for _ _ _ _ _ _ _ _ _ PassesOwn.never rfl (@i_rng _ _ _ _ _ _ _ T.z_range e_int (by rfl) (by rfl)) (@g_name _ _ _ 2 _ sc_law_due.nd (by rfl) (by first | exact Or.inl rfl | exact Or.inr rfl) (by first | exact .inl rfl | exact .inr rfl)) (@ss_cons _ _ _ _ _ _ (@s_unpack _ _ _ _ _ _ _ (@e_partition _ _ _ _ _ _ _ _ (@e_var _ _ 1 _ _ (by rfl) (by first | exact Or.inl rfl | exact Or.inr (Or.inl rfl) | exact Or.inr (Or.inr rfl)) (by decide) (by decide)) e_str (by rfl) (by rfl) (by rfl) (by rfl) (by rfl)) (@g_tup _ _ _ _ _ _ _ rfl (@gs_cons _ _ _ _ _ _ (@g_name _ _ _ 3 _ sc_law_due.nd (by rfl) (by first | exact Or.inl rfl | exact Or.inr rfl) (by first | exact .inl rfl | exact .inr rfl)) (@gs_cons _ _ _ _ _ _ (@g_name _ _ _ 4 _ sc_law_due.nd (by rfl) (by first | exact Or.inl rfl | exact Or.inr rfl) (by first | exact .inl rfl | exact .inr rfl)) (@gs_cons _ _ _ _ _ _ (@g_name _ _ _ 1 _ sc_law_due.nd (by rfl) (by first | exact Or.inl rfl | exact Or.inr rfl) (by first | exact .inl rfl | exact .inr rfl)) gs_nil (by rfl)) (by rfl)) (by rfl)) (by rfl) (by rfl)) (by rfl) (by rfl) (by rfl)) (@ss_cons _ _ _ _ _ _ (@s_if _ _ _ _ _ _ _ _ _ (@t_not _ _ _ _ _ (@t_val _ _ _ _ (@e_call _ _ _ _ _ _ _ _ _ _ _ _ _ _ G_law_is_hand (hr.mono (by decide)) T.m_law_is_hand T.k_law_is_hand B_law_is_hand (@a_cons _ _ _ _ _ _ (@e_var _ _ 3 _ _ (by rfl) (by first | exact Or.inl rfl | exact Or.inr (Or.inl rfl) | exact Or.inr (Or.inr rfl)) (by decide) (by decide)) a_nil (by rfl)) (by rfl) (by decide) (by rfl) (by rfl)) (by intro _; rfl))) (@ss_one _ _ _ _ (@s_ret _ _ _ _ _ e_bl)) ss_nil) (@ss_one _ _ _ _ (@s_if _ _ _ _ _ _ _ _ _ (@t_eqX _ _ _ _ _ _ _ hv (@e_var _ _ 4 _ _ (by rfl) (by first | exact Or.inl rfl | exact Or.inr (Or.inl rfl) | exact Or.inr (Or.inr rfl)) (by decide) (by decide)) e_str) (@ss_one _ _ _ _ (@s_ret _ _ _ _ _ e_bl)) ss_nil)))) (by intro _; rfl)) (@ss_one _ _ _ _ (@s_ret _ _ _ _ _ e_bl)))))
theorem sc_law_cell_at : FnScope ["_law_script", "_law_k"] ["_law_script", "_law_k"] (defScope st_law_cell_at) := ⟨rfl, rfl, rfl, by decide +kernel, rfl, by decide +kernel, by decide +kernel⟩
theorem ok_law_cell_at {fd : FuncData} (F : Fun K "_law_cell_at" "_law_cell_at" st_law_cell_at flaw_cell_at fd) (T : Txt K mg tLETTERS tMOST_GIVENS tMOST_HANDS tWORD_LENGTH flaw_numbers flaw_free fis_all_of fis_text_of fread_hand fread_hands flaw_told flaw_is_word flaw_is_hand flaw_due flaw_cell_at flaw_spoiled flaw_word flaw_text fshow_hand fshow_hands flaw aCiteError aNoHands aNoList aNoName aNoNumber aNoPlain aNoRow aNoStyle aNoText aNoWork aRing) :
    FnOk P w K mg base CX0 1 flaw_cell_at fd ["_law_script", "_law_k"] (spOf K 2 g_law_cell_at) := by
  refine F.ok sc_law_cell_at (fun vs H Q E h => spOf_len h) (fun cdv A outer s H vs Q E hr h => ?_)
  obtain ⟨F0, h⟩ := body_out (N := ["_law_script", "_law_k"]) (f := f_law_cell_at) h
  have hu := hu_of hr
  have hv := hr.units
  refine ⟨liftS (ent H F0 : Ent K) f_law_cell_at, ?_, h⟩
  exact (@ss_cons _ _ _ _ _ _ (@s_if _ _ _ _ _ _ _ _ _ (@t_lt _ _ _ _ _ _ _ (@e_var _ _ 1 _ _ (by rfl) (by first | exact Or.inl rfl | exact Or.inr (Or.inl rfl) | exact Or.inr (Or.inr rfl)) (by decide) (by decide)) (@e_len _ _ _ _ _ _ T.z_len (@e_var _ _ 0 _ _ (by rfl) (by first | exact Or.inl rfl | exact Or.inr (Or.inl rfl) | exact Or.inr (Or.inr rfl)) (by decide) (by decide)) (by rfl) (by rfl) (by rfl))) (@ss_one _ _ _ _ (@s_ret _ _ _ _ _ (@e_ix _ _ _ _ _ _ _ hu (@e_var _ _ 0 _ _ (by rfl) (by first | exact Or.inl rfl | exact Or.inr (Or.inl rfl) | exact Or.inr (Or.inr rfl)) (by decide) (by decide)) (@e_var _ _ 1 _ _ (by rfl) (by first | exact Or.inl rfl | exact Or.inr (Or.inl rfl) | exact Or.inr (Or.inr rfl)) (by decide) (by decide)) (by intro _ _; rfl)))) ss_nil) (@ss_one _ _ _ _ (@s_ret _ _ _ _ _ e_int)))
theorem sc_law_spoiled : FnScope ["_law_text_here", "_law_number", "_law_at", "_law_sign", "_law_how", "_law_both"] ["_law_text_here", "_law_number"] (defScope st_law_spoiled) := ⟨rfl, rfl, rfl, by decide +kernel, rfl, by decide +kernel, by decide +kernel⟩
theorem ok_law_spoiled {fd : FuncData} (F : Fun K "_law_spoiled" "_law_spoiled" st_law_spoiled flaw_spoiled fd) (T : Txt K mg tLETTERS tMOST_GIVENS tMOST_HANDS tWORD_LENGTH flaw_numbers flaw_free fis_all_of fis_text_of fread_hand fread_hands flaw_told flaw_is_word flaw_is_hand flaw_due flaw_cell_at flaw_spoiled flaw_word flaw_text fshow_hand fshow_hands flaw aCiteError aNoHands aNoList aNoName aNoNumber aNoPlain aNoRow aNoStyle aNoText aNoWork aRing) :
    FnOk P w K mg base CX0 1 flaw_spoiled fd ["_law_text_here", "_law_number"] (spOf K 2 g_law_spoiled) := by
  refine F.ok sc_law_spoiled (fun vs H Q E h => spOf_len h) (fun cdv A outer s H vs Q E hr h => ?_)
  obtain ⟨F0, h⟩ := body_out (N := ["_law_text_here", "_law_number", "_law_at", "_law_sign", "_law_how", "_law_both"]) (f := f_law_spoiled) h
  have hu := hu_of hr
  have hv := hr.units
  refine ⟨liftS (ent H F0 : Ent K) f_law_spoiled, ?_, h⟩
  exact (@ss_cons _ _ _ _ _ _ (@s_set _ _ _ _ _ 2 _ _ sc_law_spoiled.nd (@e_mod _ _ _ _ _ _ _ (@e_var _ _ 1 _ _ (by rfl) (by first | exact Or.inl rfl | exact Or.inr (Or.inl rfl) | exact Or.inr (Or.inr rfl)) (by decide) (by decide)) (@e_add _ _ _ _ _ _ _ (@e_len _ _ _ _ _ _ T.z_len (@e_var _ _ 0 _ _ (by rfl) (by first | exact Or.inl rfl | exact Or.inr (Or.inl rfl) | exact Or.inr (Or.inr rfl)) (by decide) (by decide)) (by rfl) (by rfl) (by rfl)) e_int)) (by rfl) (by first | exact Or.inl rfl | exact Or.inr rfl) (by rfl) (by first | exact .inl rfl | exact .inr rfl)) (@ss_cons _ _ _ _ _ _ (@s_set _ _ _ _ _ 3 _ _ sc_law_spoiled.nd (@e_ix _ _ _ _ _ _ _ hu e_str (@e_mod _ _ _ _ _ _ _ (@e_fdiv _ _ _ _ _ _ _ (@e_var _ _ 1 _ _ (by rfl) (by first | exact Or.inl rfl | exact Or.inr (Or.inl rfl) | exact Or.inr (Or.inr rfl)) (by decide) (by decide)) e_int) e_int) (by intro _ _; rfl)) (by rfl) (by first | exact Or.inl rfl | exact Or.inr rfl) (by rfl) (by first | exact .inl rfl | exact .inr rfl)) (@ss_cons _ _ _ _ _ _ (@s_set _ _ _ _ _ 4 _ _ sc_law_spoiled.nd (@e_mod _ _ _ _ _ _ _ (@e_fdiv _ _ _ _ _ _ _ (@e_var _ _ 1 _ _ (by rfl) (by first | exact Or.inl rfl | exact Or.inr (Or.inl rfl) | exact Or.inr (Or.inr rfl)) (by decide) (by decide)) e_int) e_int) (by rfl) (by first | exact Or.inl rfl | exact Or.inr rfl) (by rfl) (by first | exact .inl rfl | exact .inr rfl)) (@ss_cons _ _ _ _ _ _ (@s_if _ _ _ _ _ _ _ _ _ (@t_eqX _ _ _ _ _ _ _ hv (@e_var _ _ 4 _ _ (by rfl) (by first | exact Or.inl rfl | exact Or.inr (Or.inl rfl) | exact Or.inr (Or.inr rfl)) (by decide) (by decide)) e_int) (@ss_one _ _ _ _ (@s_ret _ _ _ _ _ (@e_add _ _ _ _ _ _ _ (@e_add _ _ _ _ _ _ _ (@e_sl _ _ _ _ _ _ _ _ _ _ (@e_var _ _ 0 _ _ (by rfl) (by first | exact Or.inl rfl | exact Or.inr (Or.inl rfl) | exact Or.inr (Or.inr rfl)) (by decide) (by decide)) o_none (@o_some _ _ _ _ (@e_var _ _ 2 _ _ (by rfl) (by first | exact Or.inl rfl | exact Or.inr (Or.inl rfl) | exact Or.inr (Or.inr rfl)) (by decide) (by decide)))) (@e_var _ _ 3 _ _ (by rfl) (by first | exact Or.inl rfl | exact Or.inr (Or.inl rfl) | exact Or.inr (Or.inr rfl)) (by decide) (by decide))) (@e_sl _ _ _ _ _ _ _ _ _ _ (@e_var _ _ 0 _ _ (by rfl) (by first | exact Or.inl rfl | exact Or.inr (Or.inl rfl) | exact Or.inr (Or.inr rfl)) (by decide) (by decide)) (@o_some _ _ _ _ (@e_var _ _ 2 _ _ (by rfl) (by first | exact Or.inl rfl | exact Or.inr (Or.inl rfl) | exact Or.inr (Or.inr rfl)) (by decide) (by decide))) o_none)))) ss_nil) (@ss_cons _ _ _ _ _ _ (@s_if _ _ _ _ _ _ _ _ _ (@t_eqX _ _ _ _ _ _ _ hv (@e_var _ _ 4 _ _ (by rfl) (by first | exact Or.inl rfl | exact Or.inr (Or.inl rfl) | exact Or.inr (Or.inr rfl)) (by decide) (by decide)) e_int) (@ss_one _ _ _ _ (@s_ret _ _ _ _ _ (@e_add _ _ _ _ _ _ _ (@e_sl _ _ _ _ _ _ _ _ _ _ (@e_var _ _ 0 _ _ (by rfl) (by first | exact Or.inl rfl | exact Or.inr (Or.inl rfl) | exact Or.inr (Or.inr rfl)) (by decide) (by decide)) o_none (@o_some _ _ _ _ (@e_var _ _ 2 _ _ (by rfl) (by first | exact Or.inl rfl | exact Or.inr (Or.inl rfl) | exact Or.inr (Or.inr rfl)) (by decide) (by decide)))) (@e_sl _ _ _ _ _ _ _ _ _ _ (@e_var _ _ 0 _ _ (by rfl) (by first | exact Or.inl rfl | exact Or.inr (Or.inl rfl) | exact Or.inr (Or.inr rfl)) (by decide) (by decide)) (@o_some _ _ _ _ (@e_add _ _ _ _ _ _ _ (@e_var _ _ 2 _ _ (by rfl) (by first | exact Or.inl rfl | exact Or.inr (Or.inl rfl) | exact Or.inr (Or.inr rfl)) (by decide) (by decide)) e_int)) o_none)))) ss_nil) (@ss_cons _ _ _ _ _ _ (@s_if _ _ _ _ _ _ _ _ _ (@t_eqX _ _ _ _ _ _ _ hv (@e_var _ _ 4 _ _ (by rfl) (by first | exact Or.inl rfl | exact Or.inr (Or.inl rfl) | exact Or.inr (Or.inr rfl)) (by decide) (by decide)) e_int) (@ss_one _ _ _ _ (@s_ret _ _ _ _ _ (@e_add _ _ _ _ _ _ _ (@e_add _ _ _ _ _ _ _ (@e_sl _ _ _ _ _ _ _ _ _ _ (@e_var _ _ 0 _ _ (by rfl) (by first | exact Or.inl rfl | exact Or.inr (Or.inl rfl) | exact Or.inr (Or.inr rfl)) (by decide) (by decide)) o_none (@o_some _ _ _ _ (@e_var _ _ 2 _ _ (by rfl) (by first | exact Or.inl rfl | exact Or.inr (Or.inl rfl) | exact Or.inr (Or.inr rfl)) (by decide) (by decide)))) (@e_var _ _ 3 _ _ (by rfl) (by first | exact Or.inl rfl | exact Or.inr (Or.inl rfl) | exact Or.inr (Or.inr rfl)) (by decide) (by decide))) (@e_sl _ _ _ _ _ _ _ _ _ _ (@e_var _ _ 0 _ _ (by rfl) (by first | exact Or.inl rfl | exact Or.inr (Or.inl rfl) | exact Or.inr (Or.inr rfl)) (by decide) (by decide)) (@o_some _ _ _ _ (@e_add _ _ _ _ _ _ _ (@e_var _ _ 2 _ _ (by rfl) (by first | exact Or.inl rfl | exact Or.inr (Or.inl rfl) | exact Or.inr (Or.inr rfl)) (by decide) (by decide)) e_int)) o_none)))) ss_nil) (@ss_cons _ _ _ _ _ _ (@s_if _ _ _ _ _ _ _ _ _ (@t_eqX _ _ _ _ _ _ _ hv (@e_var _ _ 4 _ _ (by rfl) (by first | exact Or.inl rfl | exact Or.inr (Or.inl rfl) | exact Or.inr (Or.inr rfl)) (by decide) (by decide)) e_int) (@ss_one _ _ _ _ (@s_ret _ _ _ _ _ (@e_add _ _ _ _ _ _ _ (@e_add _ _ _ _ _ _ _ (@e_sl _ _ _ _ _ _ _ _ _ _ (@e_var _ _ 0 _ _ (by rfl) (by first | exact Or.inl rfl | exact Or.inr (Or.inl rfl) | exact Or.inr (Or.inr rfl)) (by decide) (by decide)) o_none (@o_some _ _ _ _ (@e_var _ _ 2 _ _ (by rfl) (by first | exact Or.inl rfl | exact Or.inr (Or.inl rfl) | exact Or.inr (Or.inr rfl)) (by decide) (by decide)))) (@e_sl _ _ _ _ _ _ _ _ _ _ (@e_var _ _ 0 _ _ (by rfl) (by first | exact Or.inl rfl | exact Or.inr (Or.inl rfl) | exact Or.inr (Or.inr rfl)) (by decide) (by decide)) (@o_some _ _ _ _ (@e_var _ _ 2 _ _ (by rfl) (by first | exact Or.inl rfl | exact Or.inr (Or.inl rfl) | exact Or.inr (Or.inr rfl)) (by decide) (by decide))) (@o_some _ _ _ _ (@e_add _ _ _ _ _ _ _ (@e_var _ _ 2 _ _ (by rfl) (by first | exact Or.inl rfl | exact Or.inr (Or.inl rfl) | exact Or.inr (Or.inr rfl)) (by decide) (by decide)) e_int)))) (@e_sl _ _ _ _ _ _ _ _ _ _ (@e_var _ _ 0 _ _ (by rfl) (by first | exact Or.inl rfl | exact Or.inr (Or.inl rfl) | exact Or.inr (Or.inr rfl)) (by decide) (by decide)) (@o_some _ _ _ _ (@e_var _ _ 2 _ _ (by rfl) (by first | exact Or.inl rfl | exact Or.inr (Or.inl rfl) | exact Or.inr (Or.inr rfl)) (by decide) (by decide))) o_none)))) ss_nil) (@ss_cons _ _ _ _ _ _ (@s_if _ _ _ _ _ _ _ _ _ (@t_eqX _ _ _ _ _ _ _ hv (@e_var _ _ 4 _ _ (by rfl) (by first | exact Or.inl rfl | exact Or.inr (Or.inl rfl) | exact Or.inr (Or.inr rfl)) (by decide) (by decide)) e_int) (@ss_cons _ _ _ _ _ _ (@s_set _ _ _ _ _ 5 _ _ sc_law_spoiled.nd (@e_add _ _ _ _ _ _ _ (@e_sl _ _ _ _ _ _ _ _ _ _ (@e_var _ _ 0 _ _ (by rfl) (by first | exact Or.inl rfl | exact Or.inr (Or.inl rfl) | exact Or.inr (Or.inr rfl)) (by decide) (by decide)) (@o_some _ _ _ _ (@e_add _ _ _ _ _ _ _ (@e_var _ _ 2 _ _ (by rfl) (by first | exact Or.inl rfl | exact Or.inr (Or.inl rfl) | exact Or.inr (Or.inr rfl)) (by decide) (by decide)) e_int)) (@o_some _ _ _ _ (@e_add _ _ _ _ _ _ _ (@e_var _ _ 2 _ _ (by rfl) (by first | exact Or.inl rfl | exact Or.inr (Or.inl rfl) | exact Or.inr (Or.inr rfl)) (by decide) (by decide)) e_int))) (@e_sl _ _ _ _ _ _ _ _ _ _ (@e_var _ _ 0 _ _ (by rfl) (by first | exact Or.inl rfl | exact Or.inr (Or.inl rfl) | exact Or.inr (Or.inr rfl)) (by decide) (by decide)) (@o_some _ _ _ _ (@e_var _ _ 2 _ _ (by rfl) (by first | exact Or.inl rfl | exact Or.inr (Or.inl rfl) | exact Or.inr (Or.inr rfl)) (by decide) (by decide))) (@o_some _ _ _ _ (@e_add _ _ _ _ _ _ _ (@e_var _ _ 2 _ _ (by rfl) (by first | exact Or.inl rfl | exact Or.inr (Or.inl rfl) | exact Or.inr (Or.inr rfl)) (by decide) (by decide)) e_int)))) (by rfl) (by first | exact Or.inl rfl | exact Or.inr rfl) (by rfl) (by first | exact .inl rfl | exact .inr rfl)) (@ss_one _ _ _ _ (@s_ret _ _ _ _ _ (@e_add _ _ _ _ _ _ _ (@e_add _ _ _ _ _ _ _ (@e_sl _ _ _ _ _ _ _ _ _ _ (@e_var _ _ 0 _ _ (by rfl) (by first | exact Or.inl rfl | exact Or.inr (Or.inl rfl) | exact Or.inr (Or.inr rfl)) (by decide) (by decide)) o_none (@o_some _ _ _ _ (@e_var _ _ 2 _ _ (by rfl) (by first | exact Or.inl rfl | exact Or.inr (Or.inl rfl) | exact Or.inr (Or.inr rfl)) (by decide) (by decide)))) (@e_var _ _ 5 _ _ (by rfl) (by first | exact Or.inl rfl | exact Or.inr (Or.inl rfl) | exact Or.inr (Or.inr rfl)) (by decide) (by decide))) (@e_sl _ _ _ _ _ _ _ _ _ _ (@e_var _ _ 0 _ _ (by rfl) (by first | exact Or.inl rfl | exact Or.inr (Or.inl rfl) | exact Or.inr (Or.inr rfl)) (by decide) (by decide)) (@o_some _ _ _ _ (@e_add _ _ _ _ _ _ _ (@e_var _ _ 2 _ _ (by rfl) (by first | exact Or.inl rfl | exact Or.inr (Or.inl rfl) | exact Or.inr (Or.inr rfl)) (by decide) (by decide)) e_int)) o_none))))) ss_nil) (@ss_cons _ _ _ _ _ _ (@s_if _ _ _ _ _ _ _ _ _ (@t_eqX _ _ _ _ _ _ _ hv (@e_var _ _ 4 _ _ (by rfl) (by first | exact Or.inl rfl | exact Or.inr (Or.inl rfl) | exact Or.inr (Or.inr rfl)) (by decide) (by decide)) e_int) (@ss_one _ _ _ _ (@s_ret _ _ _ _ _ (@e_ix _ _ _ _ _ _ _ hu (@e_lst _ _ _ _ _ (@d_cons _ _ _ _ _ _ e_non (@d_cons _ _ _ _ _ _ (@e_var _ _ 1 _ _ (by rfl) (by first | exact Or.inl rfl | exact Or.inr (Or.inl rfl) | exact Or.inr (Or.inr rfl)) (by decide) (by decide)) (@d_cons _ _ _ _ _ _ (@e_lst _ _ _ _ _ (@d_cons _ _ _ _ _ _ (@e_var _ _ 0 _ _ (by rfl) (by first | exact Or.inl rfl | exact Or.inr (Or.inl rfl) | exact Or.inr (Or.inr rfl)) (by decide) (by decide)) d_nil (by rfl))) (@d_cons _ _ _ _ _ _ (@e_tup _ _ _ _ _ _ (@d_cons _ _ _ _ _ _ (@e_var _ _ 0 _ _ (by rfl) (by first | exact Or.inl rfl | exact Or.inr (Or.inl rfl) | exact Or.inr (Or.inr rfl)) (by decide) (by decide)) (@d_cons _ _ _ _ _ _ (@e_tup _ _ _ _ _ _ d_nil) d_nil (by rfl)) (by rfl))) (@d_cons _ _ _ _ _ _ e_str d_nil (by rfl)) (by rfl)) (by rfl)) (by rfl)) (by rfl))) (@e_mod _ _ _ _ _ _ _ (@e_fdiv _ _ _ _ _ _ _ (@e_var _ _ 1 _ _ (by rfl) (by first | exact Or.inl rfl | exact Or.inr (Or.inl rfl) | exact Or.inr (Or.inr rfl)) (by decide) (by decide)) e_int) e_int) (by intro _ _; rfl)))) ss_nil) (@ss_one _ _ _ _ (@s_ret _ _ _ _ _ (@e_var _ _ 0 _ _ (by rfl) (by first | exact Or.inl rfl | exact Or.inr (Or.inl rfl) | exact Or.inr (Or.inr rfl)) (by decide) (by decide)))))))))))))
theorem sc_law_word : FnScope ["_law_number", "_law_letters", "_law_word_here", "_law_k"] ["_law_number"] (defScope st_law_word) := ⟨rfl, rfl, rfl, by decide +kernel, rfl, by decide +kernel, by decide +kernel⟩
theorem ok_law_word {fd : FuncData} (F : Fun K "_law_word" "_law_word" st_law_word flaw_word fd) (T : Txt K mg tLETTERS tMOST_GIVENS tMOST_HANDS tWORD_LENGTH flaw_numbers flaw_free fis_all_of fis_text_of fread_hand fread_hands flaw_told flaw_is_word flaw_is_hand flaw_due flaw_cell_at flaw_spoiled flaw_word flaw_text fshow_hand fshow_hands flaw aCiteError aNoHands aNoList aNoName aNoNumber aNoPlain aNoRow aNoStyle aNoText aNoWork aRing) :
    FnOk P w K mg base CX0 1 flaw_word fd ["_law_number"] (spOf K 1 g_law_word) := by
  refine F.ok sc_law_word (fun vs H Q E h => spOf_len h) (fun cdv A outer s H vs Q E hr h => ?_)
  obtain ⟨F0, h⟩ := body_out (N := ["_law_number", "_law_letters", "_law_word_here", "_law_k"]) (f := f_law_word) h
  have hu := hu_of hr
  have hv := hr.units
  refine ⟨liftS (ent H F0 : Ent K) f_law_word, ?_, h⟩
  exact (@ss_cons _ _ _ _ _ _ (@s_set _ _ _ _ _ 1 _ _ sc_law_word.nd e_str (by rfl) (by first | exact Or.inl rfl | exact Or.inr rfl) (by rfl) (by first | exact .inl rfl | exact .inr rfl)) (@ss_cons _ _ _ _ _ _ (@s_set _ _ _ _ _ 2 _ _ sc_law_word.nd e_str (by rfl) (by first | exact Or.inl rfl | exact Or.inr rfl) (by rfl) (by first | exact .inl rfl | exact .inr rfl)) (@ss_cons _ _ _ _ _ _ (@s_for _ _ _ _ _ _ _ _ _ PassesOwn.never rfl (@i_rng _ _ _ _ _ _ _ T.z_range (@e_add _ _ _ _ _ _ _ e_int (@e_ix _ _ _ _ _ _ _ hu (@e_lst _ _ _ _ _ (@d_cons _ _ _ _ _ _ (@e_mod _ _ _ _ _ _ _ (@e_var _ _ 0 _ _ (by rfl) (by first | exact Or.inl rfl | exact Or.inr (Or.inl rfl) | exact Or.inr (Or.inr rfl)) (by decide) (by decide)) e_int) (@d_cons _ _ _ _ _ _ (@e_mod _ _ _ _ _ _ _ (@e_var _ _ 0 _ _ (by rfl) (by first | exact Or.inl rfl | exact Or.inr (Or.inl rfl) | exact Or.inr (Or.inr rfl)) (by decide) (by decide)) e_int) (@d_cons _ _ _ _ _ _ (@e_mod _ _ _ _ _ _ _ (@e_var _ _ 0 _ _ (by rfl) (by first | exact Or.inl rfl | exact Or.inr (Or.inl rfl) | exact Or.inr (Or.inr rfl)) (by decide) (by decide)) e_int) (@d_cons _ _ _ _ _ _ (@e_add _ _ _ _ _ _ _ e_int (@e_mod _ _ _ _ _ _ _ (@e_var _ _ 0 _ _ (by rfl) (by first | exact Or.inl rfl | exact Or.inr (Or.inl rfl) | exact Or.inr (Or.inr rfl)) (by decide) (by decide)) e_int)) d_nil (by rfl)) (by rfl)) (by rfl)) (by rfl))) (@e_mod _ _ _ _ _ _ _ (@e_fdiv _ _ _ _ _ _ _ (@e_var _ _ 0 _ _ (by rfl) (by first | exact Or.inl rfl | exact Or.inr (Or.inl rfl) | exact Or.inr (Or.inr rfl)) (by decide) (by decide)) e_int) e_int) (by intro _ _; rfl))) (by rfl) (by rfl)) (@g_name _ _ _ 3 _ sc_law_word.nd (by rfl) (by first | exact Or.inl rfl | exact Or.inr rfl) (by first | exact .inl rfl | exact .inr rfl)) (@ss_cons _ _ _ _ _ _ (@s_set _ _ _ _ _ 0 _ _ sc_law_word.nd (@e_mod _ _ _ _ _ _ _ (@e_add _ _ _ _ _ _ _ (@e_mulZ _ _ _ _ _ _ _ (@e_var _ _ 0 _ _ (by rfl) (by first | exact Or.inl rfl | exact Or.inr (Or.inl rfl) | exact Or.inr (Or.inr rfl)) (by decide) (by decide)) e_int) e_int) e_int) (by rfl) (by first | exact Or.inl rfl | exact Or.inr rfl) (by rfl) (by first | exact .inl rfl | exact .inr rfl)) (@ss_one _ _ _ _ (@s_set _ _ _ _ _ 2 _ _ sc_law_word.nd (@e_add _ _ _ _ _ _ _ (@e_var _ _ 2 _ _ (by rfl) (by first | exact Or.inl rfl | exact Or.inr (Or.inl rfl) | exact Or.inr (Or.inr rfl)) (by decide) (by decide)) (@e_ix _ _ _ _ _ _ _ hu (@e_var _ _ 1 _ _ (by rfl) (by first | exact Or.inl rfl | exact Or.inr (Or.inl rfl) | exact Or.inr (Or.inr rfl)) (by decide) (by decide)) (@e_mod _ _ _ _ _ _ _ (@e_fdiv _ _ _ _ _ _ _ (@e_var _ _ 0 _ _ (by rfl) (by first | exact Or.inl rfl | exact Or.inr (Or.inl rfl) | exact Or.inr (Or.inr rfl)) (by decide) (by decide)) e_int) e_int) (by intro _ _; rfl))) (by rfl) (by first | exact Or.inl rfl | exact Or.inr rfl) (by rfl) (by first | exact .inl rfl | exact .inr rfl)))) (by intro _; rfl)) (@ss_one _ _ _ _ (@s_ret _ _ _ _ _ (@e_var _ _ 2 _ _ (by rfl) (by first | exact Or.inl rfl | exact Or.inr (Or.inl rfl) | exact Or.inr (Or.inr rfl)) (by decide) (by decide)))))))
theorem sc_law_text : FnScope ["_law_some", "_law_words", "_law_k", "_law_word_here", "_law_j"] ["_law_some"] (defScope st_law_text) := ⟨rfl, rfl, rfl, by decide +kernel, rfl, by decide +kernel, by decide +kernel⟩
theorem ok_law_text {fd : FuncData} (F : Fun K "_law_text" "_law_text" st_law_text flaw_text fd) (T : Txt K mg tLETTERS tMOST_GIVENS tMOST_HANDS tWORD_LENGTH flaw_numbers flaw_free fis_all_of fis_text_of fread_hand fread_hands flaw_told flaw_is_word flaw_is_hand flaw_due flaw_cell_at flaw_spoiled flaw_word flaw_text fshow_hand fshow_hands flaw aCiteError aNoHands aNoList aNoName aNoNumber aNoPlain aNoRow aNoStyle aNoText aNoWork aRing) {fd_law_word : FuncData} (G_law_word : FnOk P w K mg base CX0 1 flaw_word fd_law_word ["_law_number"] (spOf K 1 g_law_word)) (B_law_word : Binds K fd_law_word ["_law_number"] []) :
    FnOk P w K mg base CX0 2 flaw_text fd ["_law_some"] (spOf K 1 g_law_text) := by
  refine F.ok sc_law_text (fun vs H Q E h => spOf_len h) (fun cdv A outer s H vs Q E hr h => ?_)
  obtain ⟨F0, h⟩ := body_out (N := ["_law_some", "_law_words", "_law_k", "_law_word_here", "_law_j"]) (f := f_law_text) h
  have hu := hu_of hr
  have hv := hr.units
  refine ⟨liftS (ent H F0 : Ent K) f_law_text, ?_, h⟩
  exact (@ss_cons _ _ _ _ _ _ (@s_set _ _ _ _ _ 1 _ _ sc_law_text.nd (@e_lst _ _ _ _ _ d_nil) (by rfl) (by first | exact Or.inl rfl | exact Or.inr rfl) (by rfl) (by first | exact .inl rfl | exact .inr rfl)) (@ss_cons _ _ _ _ _ _ (@s_for _ _ _ _ _ _ _ _ _ PassesOwn.never rfl (@i_rng _ _ _ _ _ _ _ T.z_range (@e_add _ _ _ _ _ _ _ e_int (@e_ix _ _ _ _ _ _ _ hu (@e_lst _ _ _ _ _ (@d_cons _ _ _ _ _ _ (@e_mod _ _ _ _ _ _ _ (@e_ix _ _ _ _ _ _ _ hu (@e_var _ _ 0 _ _ (by rfl) (by first | exact Or.inl rfl | exact Or.inr (Or.inl rfl) | exact Or.inr (Or.inr rfl)) (by decide) (by decide)) e_int (by intro _ _; rfl)) e_int) (@d_cons _ _ _ _ _ _ (@e_mod _ _ _ _ _ _ _ (@e_ix _ _ _ _ _ _ _ hu (@e_var _ _ 0 _ _ (by rfl) (by first | exact Or.inl rfl | exact Or.inr (Or.inl rfl) | exact Or.inr (Or.inr rfl)) (by decide) (by decide)) e_int (by intro _ _; rfl)) e_int) d_nil (by rfl)) (by rfl))) (@e_fdiv _ _ _ _ _ _ _ (@e_mod _ _ _ _ _ _ _ (@e_ix _ _ _ _ _ _ _ hu (@e_var _ _ 0 _ _ (by rfl) (by first | exact Or.inl rfl | exact Or.inr (Or.inl rfl) | exact Or.inr (Or.inr rfl)) (by decide) (by decide)) e_int (by intro _ _; rfl)) e_int) e_int) (by intro _ _; rfl))) (by rfl) (by rfl)) (@g_name _ _ _ 2 _ sc_law_text.nd (by rfl) (by first | exact Or.inl rfl | exact Or.inr rfl) (by first | exact .inl rfl | exact .inr rfl)) (@ss_cons _ _ _ _ _ _ (@s_set _ _ _ _ _ 3 _ _ sc_law_text.nd (@e_call _ _ _ _ _ _ _ _ _ _ _ _ _ _ G_law_word (hr.mono (by decide)) T.m_law_word T.k_law_word B_law_word (@a_cons _ _ _ _ _ _ (@e_ix _ _ _ _ _ _ _ hu (@e_var _ _ 0 _ _ (by rfl) (by first | exact Or.inl rfl | exact Or.inr (Or.inl rfl) | exact Or.inr (Or.inr rfl)) (by decide) (by decide)) (@e_add _ _ _ _ _ _ _ e_int (@e_mulZ _ _ _ _ _ _ _ e_int (@e_var _ _ 2 _ _ (by rfl) (by first | exact Or.inl rfl | exact Or.inr (Or.inl rfl) | exact Or.inr (Or.inr rfl)) (by decide) (by decide)))) (by intro _ _; rfl)) a_nil (by rfl)) (by rfl) (by decide) (by rfl) (by rfl)) (by rfl) (by first | exact Or.inl rfl | exact Or.inr rfl) (by rfl) (by first | exact .inl rfl | exact .inr rfl)) (@ss_cons _ _ _ _ _ _ (@s_for _ _ _ _ _ _ _ _ _ PassesOwn.never rfl (@i_rng _ _ _ _ _ _ _ T.z_range (@e_ix _ _ _ _ _ _ _ hu (@e_lst _ _ _ _ _ (@d_cons _ _ _ _ _ _ e_int (@d_cons _ _ _ _ _ _ e_int (@d_cons _ _ _ _ _ _ e_int (@d_cons _ _ _ _ _ _ e_int (@d_cons _ _ _ _ _ _ e_int (@d_cons _ _ _ _ _ _ e_int d_nil (by rfl)) (by rfl)) (by rfl)) (by rfl)) (by rfl)) (by rfl))) (@e_mod _ _ _ _ _ _ _ (@e_ix _ _ _ _ _ _ _ hu (@e_var _ _ 0 _ _ (by rfl) (by first | exact Or.inl rfl | exact Or.inr (Or.inl rfl) | exact Or.inr (Or.inr rfl)) (by decide) (by decide)) (@e_add _ _ _ _ _ _ _ e_int (@e_mulZ _ _ _ _ _ _ _ e_int (@e_var _ _ 2 _ _ (by rfl) (by first | exact Or.inl rfl | exact Or.inr (Or.inl rfl) | exact Or.inr (Or.inr rfl)) (by decide) (by decide)))) (by intro _ _; rfl)) e_int) (by intro _ _; rfl)) (by rfl) (by rfl)) (@g_name _ _ _ 4 _ sc_law_text.nd (by rfl) (by first | exact Or.inl rfl | exact Or.inr rfl) (by first | exact .inl rfl | exact .inr rfl)) (@ss_one _ _ _ _ (@s_set _ _ _ _ _ 3 _ _ sc_law_text.nd (@e_add _ _ _ _ _ _ _ (@e_add _ _ _ _ _ _ _ (@e_var _ _ 3 _ _ (by rfl) (by first | exact Or.inl rfl | exact Or.inr (Or.inl rfl) | exact Or.inr (Or.inr rfl)) (by decide) (by decide)) (@e_ix _ _ _ _ _ _ _ hu (@e_lst _ _ _ _ _ (@d_texts _ _ _ _ [(", ", _, _), (" ", _, _)] d_nil)) (@e_intC _ _ _ _ _ _ T.z_int (@e_gt _ _ _ _ _ _ _ (@e_var _ _ 4 _ _ (by rfl) (by first | exact Or.inl rfl | exact Or.inr (Or.inl rfl) | exact Or.inr (Or.inr rfl)) (by decide) (by decide)) e_int) (by rfl) (by rfl) (by rfl)) (by intro _ _; rfl))) (@e_call _ _ _ _ _ _ _ _ _ _ _ _ _ _ G_law_word (hr.mono (by decide)) T.m_law_word T.k_law_word B_law_word (@a_cons _ _ _ _ _ _ (@e_add _ _ _ _ _ _ _ (@e_ix _ _ _ _ _ _ _ hu (@e_var _ _ 0 _ _ (by rfl) (by first | exact Or.inl rfl | exact Or.inr (Or.inl rfl) | exact Or.inr (Or.inr rfl)) (by decide) (by decide)) (@e_add _ _ _ _ _ _ _ e_int (@e_mulZ _ _ _ _ _ _ _ e_int (@e_var _ _ 2 _ _ (by rfl) (by first | exact Or.inl rfl | exact Or.inr (Or.inl rfl) | exact Or.inr (Or.inr rfl)) (by decide) (by decide)))) (by intro _ _; rfl)) (@e_mulZ _ _ _ _ _ _ _ e_int (@e_var _ _ 4 _ _ (by rfl) (by first | exact Or.inl rfl | exact Or.inr (Or.inl rfl) | exact Or.inr (Or.inr rfl)) (by decide) (by decide)))) a_nil (by rfl)) (by rfl) (by decide) (by rfl) (by rfl))) (by rfl) (by first | exact Or.inl rfl | exact Or.inr rfl) (by rfl) (by first | exact .inl rfl | exact .inr rfl))) (by intro _; rfl)) (@ss_one _ _ _ _ (@s_app _ _ _ _ _ 1 _ _ _ _ (@e_var _ _ 3 _ _ (by rfl) (by first | exact Or.inl rfl | exact Or.inr (Or.inl rfl) | exact Or.inr (Or.inr rfl)) (by decide) (by decide)) (by rfl) (by first | exact Or.inl rfl | exact Or.inr (Or.inl rfl) | exact Or.inr (Or.inr rfl)) (by decide) (by decide) (by rfl) (by rfl) (by rfl) (by rfl) (by rfl) (by rfl))))) (by intro _; rfl)) (@ss_one _ _ _ _ (@s_ret _ _ _ _ _ (@e_joinX _ _ _ _ _ _ _ _ e_str (@e_var _ _ 1 _ _ (by rfl) (by first | exact Or.inl rfl | exact Or.inr (Or.inl rfl) | exact Or.inr (Or.inr rfl)) (by decide) (by decide)) (by rfl) (by rfl) (by rfl) (by rfl) (by rfl))))))
theorem sc_show_hand : FnScope ["hand"] ["hand"] (defScope st_show_hand) := ⟨rfl, rfl, rfl, by decide +kernel, rfl, by decide +kernel, by decide +kernel⟩
theorem ok_show_hand {fd : FuncData} (F : Fun K "show_hand" "show_hand" st_show_hand fshow_hand fd) (T : Txt K mg tLETTERS tMOST_GIVENS tMOST_HANDS tWORD_LENGTH flaw_numbers flaw_free fis_all_of fis_text_of fread_hand fread_hands flaw_told flaw_is_word flaw_is_hand flaw_due flaw_cell_at flaw_spoiled flaw_word flaw_text fshow_hand fshow_hands flaw aCiteError aNoHands aNoList aNoName aNoNumber aNoPlain aNoRow aNoStyle aNoText aNoWork aRing) :
    FnOk P w K mg base CX0 1 fshow_hand fd ["hand"] (spOf K 1 g_show_hand) := by
  refine F.ok sc_show_hand (fun vs H Q E h => spOf_len h) (fun cdv A outer s H vs Q E hr h => ?_)
  obtain ⟨F0, h⟩ := body_out (N := ["hand"]) (f := f_show_hand) h
  have hu := hu_of hr
  have hv := hr.units
  refine ⟨liftS (ent H F0 : Ent K) f_show_hand, ?_, h⟩
  exact (@ss_cons _ _ _ _ _ _ (@s_if _ _ _ _ _ _ _ _ _ (@t_eqX _ _ _ _ _ _ _ hv (@e_len _ _ _ _ _ _ T.z_len (@e_ix _ _ _ _ _ _ _ hu (@e_var _ _ 0 _ _ (by rfl) (by first | exact Or.inl rfl | exact Or.inr (Or.inl rfl) | exact Or.inr (Or.inr rfl)) (by decide) (by decide)) e_int (by intro _ _; rfl)) (by rfl) (by rfl) (by rfl)) e_int) (@ss_one _ _ _ _ (@s_ret _ _ _ _ _ (@e_ix _ _ _ _ _ _ _ hu (@e_var _ _ 0 _ _ (by rfl) (by first | exact Or.inl rfl | exact Or.inr (Or.inl rfl) | exact Or.inr (Or.inr rfl)) (by decide) (by decide)) e_int (by intro _ _; rfl)))) ss_nil) (@ss_one _ _ _ _ (@s_ret _ _ _ _ _ (@e_add _ _ _ _ _ _ _ (@e_add _ _ _ _ _ _ _ (@e_ix _ _ _ _ _ _ _ hu (@e_var _ _ 0 _ _ (by rfl) (by first | exact Or.inl rfl | exact Or.inr (Or.inl rfl) | exact Or.inr (Or.inr rfl)) (by decide) (by decide)) e_int (by intro _ _; rfl)) e_str) (@e_joinX _ _ _ _ _ _ _ _ e_str (@e_ix _ _ _ _ _ _ _ hu (@e_var _ _ 0 _ _ (by rfl) (by first | exact Or.inl rfl | exact Or.inr (Or.inl rfl) | exact Or.inr (Or.inr rfl)) (by decide) (by decide)) e_int (by intro _ _; rfl)) (by rfl) (by rfl) (by rfl) (by rfl) (by rfl))))))
theorem sc_show_hands : FnScope ["hands"] ["hands"] (defScope st_show_hands) := ⟨rfl, rfl, rfl, by decide +kernel, rfl, by decide +kernel, by decide +kernel⟩
theorem ok_show_hands {fd : FuncData} (F : Fun K "show_hands" "show_hands" st_show_hands fshow_hands fd) (T : Txt K mg tLETTERS tMOST_GIVENS tMOST_HANDS tWORD_LENGTH flaw_numbers flaw_free fis_all_of fis_text_of fread_hand fread_hands flaw_told flaw_is_word flaw_is_hand flaw_due flaw_cell_at flaw_spoiled flaw_word flaw_text fshow_hand fshow_hands flaw aCiteError aNoHands aNoList aNoName aNoNumber aNoPlain aNoRow aNoStyle aNoText aNoWork aRing) {fd_show_hand : FuncData} (G_show_hand : FnOk P w K mg base CX0 1 fshow_hand fd_show_hand ["hand"] (spOf K 1 g_show_hand)) (B_show_hand : Binds K fd_show_hand ["hand"] []) :
    FnOk P w K mg base CX0 2 fshow_hands fd ["hands"] (spOf K 1 g_show_hands) := by
  refine F.ok sc_show_hands (fun vs H Q E h => spOf_len h) (fun cdv A outer s H vs Q E hr h => ?_)
  obtain ⟨F0, h⟩ := body_out (N := ["hands"]) (f := f_show_hands) h
  have hu := hu_of hr
  have hv := hr.units
  refine ⟨liftS (ent H F0 : Ent K) f_show_hands, ?_, h⟩
  exact (@ss_one _ _ _ _ (@s_ret _ _ _ _ _ (@e_joinX _ _ _ _ _ _ _ _ e_str (@e_comp _ _ _ _ _ _ _ _ _ _ _ _ _ _ _ rfl (compScope (N' := ["hand", ".acc"]) (src := [.own, .acc]) (by rfl) (by rfl) (by rfl) (by rfl) (by rfl) (by rfl)) (srcOk 1 (by rfl) (by rfl)) (by decide) (@i_any _ _ _ _ _ (@e_var _ _ 0 _ _ (by rfl) (by first | exact Or.inl rfl | exact Or.inr (Or.inl rfl) | exact Or.inr (Or.inr rfl)) (by decide) (by decide))) (fun _ _ _ _ => @xg _ _ _ (fun _ => (@g_name _ _ _ 0 _ (show (["hand", ".acc"] : List Str).Nodup by decide +kernel) (by rfl) (by first | exact Or.inl rfl | exact Or.inr rfl) (by first | exact .inl rfl | exact .inr rfl)))) (fun _ _ _ _ => xt0) (fun _ _ _ _ => @xe _ _ _ (fun _ => (@e_call _ _ _ _ _ _ _ _ _ _ _ _ _ _ G_show_hand (hr.mono (by decide)) T.m_show_hand T.k_show_hand B_show_hand (@a_cons _ _ _ _ _ _ (@e_var _ _ 0 _ _ (by rfl) (by first | exact Or.inl rfl | exact Or.inr (Or.inl rfl) | exact Or.inr (Or.inr rfl)) (by decide) (by decide)) a_nil (by rfl)) (by rfl) (by decide) (by rfl) (by rfl)))) (by intro _; rfl)) (by rfl) (by rfl) (by rfl) (by rfl) (by rfl))))
theorem sc_law : FnScope ["_law_script", "_law_cell", "_law_some", "_law_text_here", "_law_found"] ["_law_script"] (defScope st_law) := ⟨rfl, rfl, rfl, by decide +kernel, rfl, by decide +kernel, by decide +kernel⟩
theorem ok_law {fd : FuncData} (F : Fun K "law" "law" st_law flaw fd) (T : Txt K mg tLETTERS tMOST_GIVENS tMOST_HANDS tWORD_LENGTH flaw_numbers flaw_free fis_all_of fis_text_of fread_hand fread_hands flaw_told flaw_is_word flaw_is_hand flaw_due flaw_cell_at flaw_spoiled flaw_word flaw_text fshow_hand fshow_hands flaw aCiteError aNoHands aNoList aNoName aNoNumber aNoPlain aNoRow aNoStyle aNoText aNoWork aRing) {fd_law_numbers : FuncData} (G_law_numbers : FnOk P w K mg base CX0 1 flaw_numbers fd_law_numbers ["_law_cell", "_law_many"] (spOf K 2 g_law_numbers)) (B_law_numbers : Binds K fd_law_numbers ["_law_cell", "_law_many"] []) {fd_law_free : FuncData} (G_law_free : FnOk P w K mg base CX0 1 flaw_free fd_law_free ["_law_some"] (spOf K 1 g_law_free)) (B_law_free : Binds K fd_law_free ["_law_some"] []) {fd_law_told : FuncData} (G_law_told : FnOk P w K mg base CX0 5 flaw_told fd_law_told ["_law_text_here"] (spOf K 1 g_law_told)) (B_law_told : Binds K fd_law_told ["_law_text_here"] []) {fd_law_due : FuncData} (G_law_due : FnOk P w K mg base CX0 3 flaw_due fd_law_due ["_law_text_here"] (spOf K 1 g_law_due)) (B_law_due : Binds K fd_law_due ["_law_text_here"] []) {fd_law_cell_at : FuncData} (G_law_cell_at : FnOk P w K mg base CX0 1 flaw_cell_at fd_law_cell_at ["_law_script", "_law_k"] (spOf K 2 g_law_cell_at)) (B_law_cell_at : Binds K fd_law_cell_at ["_law_script", "_law_k"] []) {fd_law_spoiled : FuncData} (G_law_spoiled : FnOk P w K mg base CX0 1 flaw_spoiled fd_law_spoiled ["_law_text_here", "_law_number"] (spOf K 2 g_law_spoiled)) (B_law_spoiled : Binds K fd_law_spoiled ["_law_text_here", "_law_number"] []) {fd_law_text : FuncData} (G_law_text : FnOk P w K mg base CX0 2 flaw_text fd_law_text ["_law_some"] (spOf K 1 g_law_text)) (B_law_text : Binds K fd_law_text ["_law_some"] []) {fd_show_hands : FuncData} (G_show_hands : FnOk P w K mg base CX0 2 fshow_hands fd_show_hands ["hands"] (spOf K 1 g_show_hands)) (B_show_hands : Binds K fd_show_hands ["hands"] []) :
    FnOk P w K mg base CX0 6 flaw fd ["_law_script"] (spOf K 1 g_law) := by
  refine F.ok sc_law (fun vs H Q E h => spOf_len h) (fun cdv A outer s H vs Q E hr h => ?_)
  obtain ⟨F0, h⟩ := body_out (N := ["_law_script", "_law_cell", "_law_some", "_law_text_here", "_law_found"]) (f := f_law) h
  have hu := hu_of hr
  have hv := hr.units
  refine ⟨liftS (ent H F0 : Ent K) f_law, ?_, h⟩
  exact (@ss_cons _ _ _ _ _ _ (@s_for _ _ _ _ _ _ _ _ _ PassesOwn.never rfl (@i_any _ _ _ _ _ (@e_add _ _ _ _ _ _ _ (@e_lst _ _ _ _ _ (@d_cons _ _ _ _ _ _ (@e_call _ _ _ _ _ _ _ _ _ _ _ _ _ _ G_law_cell_at (hr.mono (by decide)) T.m_law_cell_at T.k_law_cell_at B_law_cell_at (@a_cons _ _ _ _ _ _ (@e_var _ _ 0 _ _ (by rfl) (by first | exact Or.inl rfl | exact Or.inr (Or.inl rfl) | exact Or.inr (Or.inr rfl)) (by decide) (by decide)) (@a_cons _ _ _ _ _ _ e_int a_nil (by rfl)) (by rfl)) (by rfl) (by decide) (by rfl) (by rfl)) d_nil (by rfl))) (@e_sl _ _ _ _ _ _ _ _ _ _ (@e_var _ _ 0 _ _ (by rfl) (by first | exact Or.inl rfl | exact Or.inr (Or.inl rfl) | exact Or.inr (Or.inr rfl)) (by decide) (by decide)) (@o_some _ _ _ _ e_int) (@o_some _ _ _ _ e_int)))) (@g_name _ _ _ 1 _ sc_law.nd (by rfl) (by first | exact Or.inl rfl | exact Or.inr rfl) (by first | exact .inl rfl | exact .inr rfl)) (@ss_cons _ _ _ _ _ _ (@s_set _ _ _ _ _ 2 _ _ sc_law.nd (@e_call _ _ _ _ _ _ _ _ _ _ _ _ _ _ G_law_numbers (hr.mono (by decide)) T.m_law_numbers T.k_law_numbers B_law_numbers (@a_cons _ _ _ _ _ _ (@e_var _ _ 1 _ _ (by rfl) (by first | exact Or.inl rfl | exact Or.inr (Or.inl rfl) | exact Or.inr (Or.inr rfl)) (by decide) (by decide)) (@a_cons _ _ _ _ _ _ e_int a_nil (by rfl)) (by rfl)) (by rfl) (by decide) (by rfl) (by rfl)) (by rfl) (by first | exact Or.inl rfl | exact Or.inr rfl) (by rfl) (by first | exact .inl rfl | exact .inr rfl)) (@ss_cons _ _ _ _ _ _ (@s_set _ _ _ _ _ 3 _ _ sc_law.nd (@e_call _ _ _ _ _ _ _ _ _ _ _ _ _ _ G_law_free (hr.mono (by decide)) T.m_law_free T.k_law_free B_law_free (@a_cons _ _ _ _ _ _ (@e_var _ _ 2 _ _ (by rfl) (by first | exact Or.inl rfl | exact Or.inr (Or.inl rfl) | exact Or.inr (Or.inr rfl)) (by decide) (by decide)) a_nil (by rfl)) (by rfl) (by decide) (by rfl) (by rfl)) (by rfl) (by first | exact Or.inl rfl | exact Or.inr rfl) (by rfl) (by first | exact .inl rfl | exact .inr rfl)) (@ss_cons _ _ _ _ _ _ (@s_if _ _ _ _ _ _ _ _ _ (@t_eqX _ _ _ _ _ _ _ hv (@e_mod _ _ _ _ _ _ _ (@e_var _ _ 1 _ _ (by rfl) (by first | exact Or.inl rfl | exact Or.inr (Or.inl rfl) | exact Or.inr (Or.inr rfl)) (by decide) (by decide)) e_int) e_int) (@ss_one _ _ _ _ (@s_set _ _ _ _ _ 3 _ _ sc_law.nd (@e_call _ _ _ _ _ _ _ _ _ _ _ _ _ _ G_law_spoiled (hr.mono (by decide)) T.m_law_spoiled T.k_law_spoiled B_law_spoiled (@a_cons _ _ _ _ _ _ (@e_call _ _ _ _ _ _ _ _ _ _ _ _ _ _ G_law_text (hr.mono (by decide)) T.m_law_text T.k_law_text B_law_text (@a_cons _ _ _ _ _ _ (@e_var _ _ 2 _ _ (by rfl) (by first | exact Or.inl rfl | exact Or.inr (Or.inl rfl) | exact Or.inr (Or.inr rfl)) (by decide) (by decide)) a_nil (by rfl)) (by rfl) (by decide) (by rfl) (by rfl)) (@a_cons _ _ _ _ _ _ (@e_ix _ _ _ _ _ _ _ hu (@e_var _ _ 2 _ _ (by rfl) (by first | exact Or.inl rfl | exact Or.inr (Or.inl rfl) | exact Or.inr (Or.inr rfl)) (by decide) (by decide)) e_int (by intro _ _; rfl)) a_nil (by rfl)) (by rfl)) (by rfl) (by decide) (by rfl) (by rfl)) (by rfl) (by first | exact Or.inl rfl | exact Or.inr rfl) (by rfl) (by first | exact .inl rfl | exact .inr rfl))) ss_nil) (@ss_cons _ _ _ _ _ _ (@s_set _ _ _ _ _ 4 _ _ sc_law.nd (@e_call _ _ _ _ _ _ _ _ _ _ _ _ _ _ G_law_told (hr.mono (by decide)) T.m_law_told T.k_law_told B_law_told (@a_cons _ _ _ _ _ _ (@e_var _ _ 3 _ _ (by rfl) (by first | exact Or.inl rfl | exact Or.inr (Or.inl rfl) | exact Or.inr (Or.inr rfl)) (by decide) (by decide)) a_nil (by rfl)) (by rfl) (by decide) (by rfl) (by rfl)) (by rfl) (by first | exact Or.inl rfl | exact Or.inr rfl) (by rfl) (by first | exact .inl rfl | exact .inr rfl)) (@ss_cons _ _ _ _ _ _ (@s_if _ _ _ _ _ _ _ _ _ (@PW.pt _ _ _ (@w_and _ _ _ _ _ _ _ _ (@t_not _ _ _ _ _ (@t_val _ _ _ _ (@e_call _ _ _ _ _ _ _ _ _ _ _ _ _ _ G_law_due (hr.mono (by decide)) T.m_law_due T.k_law_due B_law_due (@a_cons _ _ _ _ _ _ (@e_var _ _ 3 _ _ (by rfl) (by first | exact Or.inl rfl | exact Or.inr (Or.inl rfl) | exact Or.inr (Or.inr rfl)) (by decide) (by decide)) a_nil (by rfl)) (by rfl) (by decide) (by rfl) (by rfl)) (by intro _; rfl))) (@w_and1 _ _ _ _ _ (@t_neX _ _ _ _ _ _ _ hv (@e_var _ _ 4 _ _ (by rfl) (by first | exact Or.inl rfl | exact Or.inr (Or.inl rfl) | exact Or.inr (Or.inr rfl)) (by decide) (by decide)) (@e_tup _ _ _ _ _ _ (@d_cons _ _ _ _ _ _ e_str (@d_cons _ _ _ _ _ _ e_bl d_nil (by rfl)) (by rfl))))))) (@ss_one _ _ _ _ (@s_ret _ _ _ _ _ e_bl)) ss_nil) (@ss_one _ _ _ _ (@s_if _ _ _ _ _ _ _ _ _ (@t_val _ _ _ _ (@e_call _ _ _ _ _ _ _ _ _ _ _ _ _ _ G_law_due (hr.mono (by decide)) T.m_law_due T.k_law_due B_law_due (@a_cons _ _ _ _ _ _ (@e_var _ _ 3 _ _ (by rfl) (by first | exact Or.inl rfl | exact Or.inr (Or.inl rfl) | exact Or.inr (Or.inr rfl)) (by decide) (by decide)) a_nil (by rfl)) (by rfl) (by decide) (by rfl) (by rfl)) (by intro _; rfl)) (@ss_one _ _ _ _ (@s_if _ _ _ _ _ _ _ _ _ (@PW.pt _ _ _ (@w_or _ _ _ _ _ _ _ _ (@t_not _ _ _ _ _ (@t_val _ _ _ _ (@e_isi _ _ _ _ _ _ _ _ _ T.z_isinstance T.z_list boot_list (kit_list _) (@e_var _ _ 4 _ _ (by rfl) (by first | exact Or.inl rfl | exact Or.inr (Or.inl rfl) | exact Or.inr (Or.inr rfl)) (by decide) (by decide)) (by rfl) (by rfl) (by decide) (by decide) (by rfl) (by rfl) (by rfl)) (by intro _; rfl))) (@w_or _ _ _ _ _ _ _ _ (@t_not _ _ _ _ _ (@t_chain _ _ _ _ _ _ _ _ _ _ _ _ _ _ _ op_le p_le op_le p_le e_int (@e_len _ _ _ _ _ _ T.z_len (@e_var _ _ 4 _ _ (by rfl) (by first | exact Or.inl rfl | exact Or.inr (Or.inl rfl) | exact Or.inr (Or.inr rfl)) (by decide) (by decide)) (by rfl) (by rfl) (by rfl)) e_int (by with_unfolding_all rfl))) (@w_or1 _ _ _ _ _ (@t_neX _ _ _ _ _ _ _ hv (@e_call _ _ _ _ _ _ _ _ _ _ _ _ _ _ G_show_hands (hr.mono (by decide)) T.m_show_hands T.k_show_hands B_show_hands (@a_cons _ _ _ _ _ _ (@e_var _ _ 4 _ _ (by rfl) (by first | exact Or.inl rfl | exact Or.inr (Or.inl rfl) | exact Or.inr (Or.inr rfl)) (by decide) (by decide)) a_nil (by rfl)) (by rfl) (by decide) (by rfl) (by rfl)) (@e_var _ _ 3 _ _ (by rfl) (by first | exact Or.inl rfl | exact Or.inr (Or.inl rfl) | exact Or.inr (Or.inr rfl)) (by decide) (by decide))))))) (@ss_one _ _ _ _ (@s_ret _ _ _ _ _ e_bl)) ss_nil)) ss_nil))))))) (by intro _; rfl)) (@ss_one _ _ _ _ (@s_ret _ _ _ _ _ e_bl)))
end
theorem all_mk {l : PySem.W.OpenLaw} {w : World} {K : PySem.W.Frag} {h : Heap} {mg : Str → Option Value} {tLETTERS : Tok} {tMOST_GIVENS : Tok} {tMOST_HANDS : Tok} {tWORD_LENGTH : Tok} {fa flaw_numbers flaw_free fis_all_of fis_text_of fread_hand fread_hands flaw_told flaw_is_word flaw_is_hand flaw_due flaw_cell_at flaw_spoiled flaw_word flaw_text fshow_hand fshow_hands flaw aCiteError aNoHands aNoList aNoName aNoNumber aNoPlain aNoRow aNoStyle aNoText aNoWork aRing : Addr} (X : K.In h) (G : h.Ns mainGlobals mg) (hfa : mg "law" = some (.ref fa))
    {odlaw_numbers anlaw_numbers : Option Addr} {sllaw_numbers : Array (Option Value)} {oclaw_numbers kVlaw_numbers dclaw_numbers pmlaw_numbers cdlaw_numbers ctlaw_numbers : Value}
    {odlaw_free anlaw_free : Option Addr} {sllaw_free : Array (Option Value)} {oclaw_free kVlaw_free dclaw_free pmlaw_free cdlaw_free ctlaw_free : Value}
    {odis_all_of anis_all_of : Option Addr} {slis_all_of : Array (Option Value)} {ocis_all_of kVis_all_of dcis_all_of pmis_all_of cdis_all_of ctis_all_of : Value}
    {odis_text_of anis_text_of : Option Addr} {slis_text_of : Array (Option Value)} {ocis_text_of kVis_text_of dcis_text_of pmis_text_of cdis_text_of ctis_text_of : Value}
    {odread_hand anread_hand : Option Addr} {slread_hand : Array (Option Value)} {ocread_hand kVread_hand dcread_hand pmread_hand cdread_hand ctread_hand : Value}
    {odread_hands anread_hands : Option Addr} {slread_hands : Array (Option Value)} {ocread_hands kVread_hands dcread_hands pmread_hands cdread_hands ctread_hands : Value}
    {odlaw_told anlaw_told : Option Addr} {sllaw_told : Array (Option Value)} {oclaw_told kVlaw_told dclaw_told pmlaw_told cdlaw_told ctlaw_told : Value}
    {odlaw_is_word anlaw_is_word : Option Addr} {sllaw_is_word : Array (Option Value)} {oclaw_is_word kVlaw_is_word dclaw_is_word pmlaw_is_word cdlaw_is_word ctlaw_is_word : Value}
    {odlaw_is_hand anlaw_is_hand : Option Addr} {sllaw_is_hand : Array (Option Value)} {oclaw_is_hand kVlaw_is_hand dclaw_is_hand pmlaw_is_hand cdlaw_is_hand ctlaw_is_hand : Value}
    {odlaw_due anlaw_due : Option Addr} {sllaw_due : Array (Option Value)} {oclaw_due kVlaw_due dclaw_due pmlaw_due cdlaw_due ctlaw_due : Value}
    {odlaw_cell_at anlaw_cell_at : Option Addr} {sllaw_cell_at : Array (Option Value)} {oclaw_cell_at kVlaw_cell_at dclaw_cell_at pmlaw_cell_at cdlaw_cell_at ctlaw_cell_at : Value}
    {odlaw_spoiled anlaw_spoiled : Option Addr} {sllaw_spoiled : Array (Option Value)} {oclaw_spoiled kVlaw_spoiled dclaw_spoiled pmlaw_spoiled cdlaw_spoiled ctlaw_spoiled : Value}
    {odlaw_word anlaw_word : Option Addr} {sllaw_word : Array (Option Value)} {oclaw_word kVlaw_word dclaw_word pmlaw_word cdlaw_word ctlaw_word : Value}
    {odlaw_text anlaw_text : Option Addr} {sllaw_text : Array (Option Value)} {oclaw_text kVlaw_text dclaw_text pmlaw_text cdlaw_text ctlaw_text : Value}
    {odshow_hand anshow_hand : Option Addr} {slshow_hand : Array (Option Value)} {ocshow_hand kVshow_hand dcshow_hand pmshow_hand cdshow_hand ctshow_hand : Value}
    {odshow_hands anshow_hands : Option Addr} {slshow_hands : Array (Option Value)} {ocshow_hands kVshow_hands dcshow_hands pmshow_hands cdshow_hands ctshow_hands : Value}
    {odlaw anlaw : Option Addr} {sllaw : Array (Option Value)} {oclaw kVlaw dclaw pmlaw cdlaw ctlaw : Value}
    (alaw_numbers : PySem.W.nsIn K mainGlobals "_law_numbers" = some (some (.ref flaw_numbers))) (llaw_numbers : K.lookup flaw_numbers = some ⟨oclaw_numbers, odlaw_numbers, .func (PySem.W.fnOf "_law_numbers" "_law_numbers" (defArgs st_law_numbers) (defBody st_law_numbers) (defScope st_law_numbers) .none kVlaw_numbers dclaw_numbers pmlaw_numbers anlaw_numbers cdlaw_numbers ctlaw_numbers), sllaw_numbers⟩) (claw_numbers : PySem.W.codeIn K cdlaw_numbers "_law_numbers" = true) (klaw_numbers : PySem.W.keepIn K (.ref flaw_numbers) = true)
    (alaw_free : PySem.W.nsIn K mainGlobals "_law_free" = some (some (.ref flaw_free))) (llaw_free : K.lookup flaw_free = some ⟨oclaw_free, odlaw_free, .func (PySem.W.fnOf "_law_free" "_law_free" (defArgs st_law_free) (defBody st_law_free) (defScope st_law_free) .none kVlaw_free dclaw_free pmlaw_free anlaw_free cdlaw_free ctlaw_free), sllaw_free⟩) (claw_free : PySem.W.codeIn K cdlaw_free "_law_free" = true) (klaw_free : PySem.W.keepIn K (.ref flaw_free) = true)
    (ais_all_of : PySem.W.nsIn K mainGlobals "is_all_of" = some (some (.ref fis_all_of))) (lis_all_of : K.lookup fis_all_of = some ⟨ocis_all_of, odis_all_of, .func (PySem.W.fnOf "is_all_of" "is_all_of" (defArgs st_is_all_of) (defBody st_is_all_of) (defScope st_is_all_of) .none kVis_all_of dcis_all_of pmis_all_of anis_all_of cdis_all_of ctis_all_of), slis_all_of⟩) (cis_all_of : PySem.W.codeIn K cdis_all_of "is_all_of" = true) (kis_all_of : PySem.W.keepIn K (.ref fis_all_of) = true)
    (ais_text_of : PySem.W.nsIn K mainGlobals "is_text_of" = some (some (.ref fis_text_of))) (lis_text_of : K.lookup fis_text_of = some ⟨ocis_text_of, odis_text_of, .func (PySem.W.fnOf "is_text_of" "is_text_of" (defArgs st_is_text_of) (defBody st_is_text_of) (defScope st_is_text_of) .none kVis_text_of dcis_text_of pmis_text_of anis_text_of cdis_text_of ctis_text_of), slis_text_of⟩) (cis_text_of : PySem.W.codeIn K cdis_text_of "is_text_of" = true) (kis_text_of : PySem.W.keepIn K (.ref fis_text_of) = true)
    (aread_hand : PySem.W.nsIn K mainGlobals "read_hand" = some (some (.ref fread_hand))) (lread_hand : K.lookup fread_hand = some ⟨ocread_hand, odread_hand, .func (PySem.W.fnOf "read_hand" "read_hand" (defArgs st_read_hand) (defBody st_read_hand) (defScope st_read_hand) .none kVread_hand dcread_hand pmread_hand anread_hand cdread_hand ctread_hand), slread_hand⟩) (cread_hand : PySem.W.codeIn K cdread_hand "read_hand" = true) (kread_hand : PySem.W.keepIn K (.ref fread_hand) = true)
    (aread_hands : PySem.W.nsIn K mainGlobals "read_hands" = some (some (.ref fread_hands))) (lread_hands : K.lookup fread_hands = some ⟨ocread_hands, odread_hands, .func (PySem.W.fnOf "read_hands" "read_hands" (defArgs st_read_hands) (defBody st_read_hands) (defScope st_read_hands) .none kVread_hands dcread_hands pmread_hands anread_hands cdread_hands ctread_hands), slread_hands⟩) (cread_hands : PySem.W.codeIn K cdread_hands "read_hands" = true) (kread_hands : PySem.W.keepIn K (.ref fread_hands) = true)
    (alaw_told : PySem.W.nsIn K mainGlobals "_law_told" = some (some (.ref flaw_told))) (llaw_told : K.lookup flaw_told = some ⟨oclaw_told, odlaw_told, .func (PySem.W.fnOf "_law_told" "_law_told" (defArgs st_law_told) (defBody st_law_told) (defScope st_law_told) .none kVlaw_told dclaw_told pmlaw_told anlaw_told cdlaw_told ctlaw_told), sllaw_told⟩) (claw_told : PySem.W.codeIn K cdlaw_told "_law_told" = true) (klaw_told : PySem.W.keepIn K (.ref flaw_told) = true)
    (alaw_is_word : PySem.W.nsIn K mainGlobals "_law_is_word" = some (some (.ref flaw_is_word))) (llaw_is_word : K.lookup flaw_is_word = some ⟨oclaw_is_word, odlaw_is_word, .func (PySem.W.fnOf "_law_is_word" "_law_is_word" (defArgs st_law_is_word) (defBody st_law_is_word) (defScope st_law_is_word) .none kVlaw_is_word dclaw_is_word pmlaw_is_word anlaw_is_word cdlaw_is_word ctlaw_is_word), sllaw_is_word⟩) (claw_is_word : PySem.W.codeIn K cdlaw_is_word "_law_is_word" = true) (klaw_is_word : PySem.W.keepIn K (.ref flaw_is_word) = true)
    (alaw_is_hand : PySem.W.nsIn K mainGlobals "_law_is_hand" = some (some (.ref flaw_is_hand))) (llaw_is_hand : K.lookup flaw_is_hand = some ⟨oclaw_is_hand, odlaw_is_hand, .func (PySem.W.fnOf "_law_is_hand" "_law_is_hand" (defArgs st_law_is_hand) (defBody st_law_is_hand) (defScope st_law_is_hand) .none kVlaw_is_hand dclaw_is_hand pmlaw_is_hand anlaw_is_hand cdlaw_is_hand ctlaw_is_hand), sllaw_is_hand⟩) (claw_is_hand : PySem.W.codeIn K cdlaw_is_hand "_law_is_hand" = true) (klaw_is_hand : PySem.W.keepIn K (.ref flaw_is_hand) = true)
    (alaw_due : PySem.W.nsIn K mainGlobals "_law_due" = some (some (.ref flaw_due))) (llaw_due : K.lookup flaw_due = some ⟨oclaw_due, odlaw_due, .func (PySem.W.fnOf "_law_due" "_law_due" (defArgs st_law_due) (defBody st_law_due) (defScope st_law_due) .none kVlaw_due dclaw_due pmlaw_due anlaw_due cdlaw_due ctlaw_due), sllaw_due⟩) (claw_due : PySem.W.codeIn K cdlaw_due "_law_due" = true) (klaw_due : PySem.W.keepIn K (.ref flaw_due) = true)
    (alaw_cell_at : PySem.W.nsIn K mainGlobals "_law_cell_at" = some (some (.ref flaw_cell_at))) (llaw_cell_at : K.lookup flaw_cell_at = some ⟨oclaw_cell_at, odlaw_cell_at, .func (PySem.W.fnOf "_law_cell_at" "_law_cell_at" (defArgs st_law_cell_at) (defBody st_law_cell_at) (defScope st_law_cell_at) .none kVlaw_cell_at dclaw_cell_at pmlaw_cell_at anlaw_cell_at cdlaw_cell_at ctlaw_cell_at), sllaw_cell_at⟩) (claw_cell_at : PySem.W.codeIn K cdlaw_cell_at "_law_cell_at" = true) (klaw_cell_at : PySem.W.keepIn K (.ref flaw_cell_at) = true)
    (alaw_spoiled : PySem.W.nsIn K mainGlobals "_law_spoiled" = some (some (.ref flaw_spoiled))) (llaw_spoiled : K.lookup flaw_spoiled = some ⟨oclaw_spoiled, odlaw_spoiled, .func (PySem.W.fnOf "_law_spoiled" "_law_spoiled" (defArgs st_law_spoiled) (defBody st_law_spoiled) (defScope st_law_spoiled) .none kVlaw_spoiled dclaw_spoiled pmlaw_spoiled anlaw_spoiled cdlaw_spoiled ctlaw_spoiled), sllaw_spoiled⟩) (claw_spoiled : PySem.W.codeIn K cdlaw_spoiled "_law_spoiled" = true) (klaw_spoiled : PySem.W.keepIn K (.ref flaw_spoiled) = true)
    (alaw_word : PySem.W.nsIn K mainGlobals "_law_word" = some (some (.ref flaw_word))) (llaw_word : K.lookup flaw_word = some ⟨oclaw_word, odlaw_word, .func (PySem.W.fnOf "_law_word" "_law_word" (defArgs st_law_word) (defBody st_law_word) (defScope st_law_word) .none kVlaw_word dclaw_word pmlaw_word anlaw_word cdlaw_word ctlaw_word), sllaw_word⟩) (claw_word : PySem.W.codeIn K cdlaw_word "_law_word" = true) (klaw_word : PySem.W.keepIn K (.ref flaw_word) = true)
    (alaw_text : PySem.W.nsIn K mainGlobals "_law_text" = some (some (.ref flaw_text))) (llaw_text : K.lookup flaw_text = some ⟨oclaw_text, odlaw_text, .func (PySem.W.fnOf "_law_text" "_law_text" (defArgs st_law_text) (defBody st_law_text) (defScope st_law_text) .none kVlaw_text dclaw_text pmlaw_text anlaw_text cdlaw_text ctlaw_text), sllaw_text⟩) (claw_text : PySem.W.codeIn K cdlaw_text "_law_text" = true) (klaw_text : PySem.W.keepIn K (.ref flaw_text) = true)
    (ashow_hand : PySem.W.nsIn K mainGlobals "show_hand" = some (some (.ref fshow_hand))) (lshow_hand : K.lookup fshow_hand = some ⟨ocshow_hand, odshow_hand, .func (PySem.W.fnOf "show_hand" "show_hand" (defArgs st_show_hand) (defBody st_show_hand) (defScope st_show_hand) .none kVshow_hand dcshow_hand pmshow_hand anshow_hand cdshow_hand ctshow_hand), slshow_hand⟩) (cshow_hand : PySem.W.codeIn K cdshow_hand "show_hand" = true) (kshow_hand : PySem.W.keepIn K (.ref fshow_hand) = true)
    (ashow_hands : PySem.W.nsIn K mainGlobals "show_hands" = some (some (.ref fshow_hands))) (lshow_hands : K.lookup fshow_hands = some ⟨ocshow_hands, odshow_hands, .func (PySem.W.fnOf "show_hands" "show_hands" (defArgs st_show_hands) (defBody st_show_hands) (defScope st_show_hands) .none kVshow_hands dcshow_hands pmshow_hands anshow_hands cdshow_hands ctshow_hands), slshow_hands⟩) (cshow_hands : PySem.W.codeIn K cdshow_hands "show_hands" = true) (kshow_hands : PySem.W.keepIn K (.ref fshow_hands) = true)
    (alaw : PySem.W.nsIn K mainGlobals "law" = some (some (.ref flaw))) (llaw : K.lookup flaw = some ⟨oclaw, odlaw, .func (PySem.W.fnOf "law" "law" (defArgs st_law) (defBody st_law) (defScope st_law) .none kVlaw dclaw pmlaw anlaw cdlaw ctlaw), sllaw⟩) (claw : PySem.W.codeIn K cdlaw "law" = true) (klaw : PySem.W.keepIn K (.ref flaw) = true)
    (zValueError : PySem.W.nsIn K mainGlobals "ValueError" = some none)
    (zall : PySem.W.nsIn K mainGlobals "all" = some none)
    (zint : PySem.W.nsIn K mainGlobals "int" = some none)
    (zisinstance : PySem.W.nsIn K mainGlobals "isinstance" = some none)
    (zlen : PySem.W.nsIn K mainGlobals "len" = some none)
    (zlist : PySem.W.nsIn K mainGlobals "list" = some none)
    (zrange : PySem.W.nsIn K mainGlobals "range" = some none)
    (zstr : PySem.W.nsIn K mainGlobals "str" = some none)
    (ztuple : PySem.W.nsIn K mainGlobals "tuple" = some none)
    (zLETTERS : PySem.W.nsIn K mainGlobals "LETTERS" = some (some (.str "ABCDEFGHIJKLMNOPQRSTUVWXYZabcdefghijklmnopqrstuvwxyz" tLETTERS)))
    (zMOST_GIVENS : PySem.W.nsIn K mainGlobals "MOST_GIVENS" = some (some (.int 4 tMOST_GIVENS)))
    (zMOST_HANDS : PySem.W.nsIn K mainGlobals "MOST_HANDS" = some (some (.int 6 tMOST_HANDS)))
    (zWORD_LENGTH : PySem.W.nsIn K mainGlobals "WORD_LENGTH" = some (some (.int 15 tWORD_LENGTH)))
    (zc_CiteError : PySem.W.nsIn K mainGlobals "CiteError" = some (some (.ref aCiteError)))
    (zc_NoHands : PySem.W.nsIn K mainGlobals "NoHands" = some (some (.ref aNoHands)))
    (zc_NoList : PySem.W.nsIn K mainGlobals "NoList" = some (some (.ref aNoList)))
    (zc_NoName : PySem.W.nsIn K mainGlobals "NoName" = some (some (.ref aNoName)))
    (zc_NoNumber : PySem.W.nsIn K mainGlobals "NoNumber" = some (some (.ref aNoNumber)))
    (zc_NoPlain : PySem.W.nsIn K mainGlobals "NoPlain" = some (some (.ref aNoPlain)))
    (zc_NoRow : PySem.W.nsIn K mainGlobals "NoRow" = some (some (.ref aNoRow)))
    (zc_NoStyle : PySem.W.nsIn K mainGlobals "NoStyle" = some (some (.ref aNoStyle)))
    (zc_NoText : PySem.W.nsIn K mainGlobals "NoText" = some (some (.ref aNoText)))
    (zc_NoWork : PySem.W.nsIn K mainGlobals "NoWork" = some (some (.ref aNoWork)))
    (zc_Ring : PySem.W.nsIn K mainGlobals "Ring" = some (some (.ref aRing)))
    (ty_NoHands : PySem.W.typeIn K (.ref aNoHands) = some (.type "type"))
    (ic_NoHands : PySem.W.isClsIn K aNoHands = true)
    (be_NoHands : PySem.W.mroIn K aNoHands (.type "BaseException") = some true)
    (h_NoHands_NoHands : PySem.W.mroIn K aNoHands (.ref aNoHands) = some true)
    (q0_NoHands : PySem.W.kitOne K (.ref aNoHands) (.ref aNoPlain) = some false)
    (q1_NoHands : PySem.W.kitOne K (.ref aNoHands) (.ref aNoName) = some false)
    (q2_NoHands : PySem.W.kitOne K (.ref aNoHands) (.ref aNoText) = some false)
    (q3_NoHands : PySem.W.kitOne K (.ref aNoHands) (.ref aNoStyle) = some false)
    (q4_NoHands : PySem.W.kitOne K (.ref aNoHands) (.ref aNoList) = some false)
    (q5_NoHands : PySem.W.kitOne K (.ref aNoHands) (.ref aNoNumber) = some false)
    (q6_NoHands : PySem.W.kitOne K (.ref aNoHands) (.ref aNoRow) = some false)
    (q7_NoHands : PySem.W.kitOne K (.ref aNoHands) (.ref aNoWork) = some false)
    (q8_NoHands : PySem.W.kitOne K (.ref aNoHands) (.ref aRing) = some false)
    (q9_NoHands : PySem.W.kitOne K (.ref aNoHands) (.ref aCiteError) = some true)
    (q10_NoHands : PySem.W.kitOne K (.ref aNoHands) (.type "ValueError") = some true)
    (ecl_NoHands : PySem.W.isClsIn K aNoHands = true)
    (ega_NoHands : PySem.W.findIn K (.ref aNoHands) "__getattribute__" = some (some (.builtin "BaseException.__getattribute__")))
    (egt_NoHands : PySem.W.findIn K (.ref aNoHands) "__getattr__" = some none)
    (eca_NoHands : PySem.W.findIn K (.ref aNoHands) "__class__" = some (some (.builtin "object.__class__")))
    (egs_NoHands : PySem.W.specialIn K (.builtin "object.__class__") "__get__" = some (some (.builtin "getset_descriptor.__get__")))
    (etk_NoHands : PySem.W.takesIn K (.builtin "object.__class__") = some true)
    (eob_NoHands : PySem.W.mroIn K aNoHands (.type "object") = some true)
    (ebe_NoHands : PySem.W.mroIn K aNoHands (.type "BaseException") = some true)
    (ow_NoHands : PySem.W.excIn K aNoHands VEB "ValueError.__new__" = true)
    : ∃ fd : FuncData, (∀ (s : Shared) (v : Value), BindsTo s fd ⟨[v], []⟩ [("_law_script", v)]) ∧ ∀ base : Heap, K.In base → base.Ns mainGlobals mg → FnOk l.prog w K mg base CX0 6 fa fd ["_law_script"] (spOf K 1 g_law) := by
  have e := hfa.symm.trans (PySem.W.mg_of X G alaw)
  cases e
  have T : Txt K mg tLETTERS tMOST_GIVENS tMOST_HANDS tWORD_LENGTH flaw_numbers flaw_free fis_all_of fis_text_of fread_hand fread_hands flaw_told flaw_is_word flaw_is_hand flaw_due flaw_cell_at flaw_spoiled flaw_word flaw_text fshow_hand fshow_hands _ aCiteError aNoHands aNoList aNoName aNoNumber aNoPlain aNoRow aNoStyle aNoText aNoWork aRing := ⟨PySem.W.mg_of X G zc_CiteError, PySem.W.mg_of X G zc_NoHands, PySem.W.mg_of X G zc_NoList, PySem.W.mg_of X G zc_NoName, PySem.W.mg_of X G zc_NoNumber, PySem.W.mg_of X G zc_NoPlain, PySem.W.mg_of X G zc_NoRow, PySem.W.mg_of X G zc_NoStyle, PySem.W.mg_of X G zc_NoText, PySem.W.mg_of X G zc_NoWork, PySem.W.mg_of X G zc_Ring, zc_NoHands, ⟨ecl_NoHands, ega_NoHands, egt_NoHands, eca_NoHands, egs_NoHands, etk_NoHands, eob_NoHands, ebe_NoHands⟩, ty_NoHands, ic_NoHands, be_NoHands, h_NoHands_NoHands, q0_NoHands, q1_NoHands, q2_NoHands, q3_NoHands, q4_NoHands, q5_NoHands, q6_NoHands, q7_NoHands, q8_NoHands, q9_NoHands, q10_NoHands, PySem.W.mg_none_of X G zValueError, PySem.W.mg_none_of X G zall, PySem.W.mg_none_of X G zint, PySem.W.mg_none_of X G zisinstance, PySem.W.mg_none_of X G zlen, PySem.W.mg_none_of X G zlist, PySem.W.mg_none_of X G zrange, PySem.W.mg_none_of X G zstr, PySem.W.mg_none_of X G ztuple, PySem.W.mg_of X G zLETTERS, PySem.W.mg_of X G zMOST_GIVENS, PySem.W.mg_of X G zMOST_HANDS, PySem.W.mg_of X G zWORD_LENGTH, PySem.W.mg_of X G alaw_numbers, klaw_numbers, PySem.W.mg_of X G alaw_free, klaw_free, PySem.W.mg_of X G ais_all_of, kis_all_of, PySem.W.mg_of X G ais_text_of, kis_text_of, PySem.W.mg_of X G aread_hand, kread_hand, PySem.W.mg_of X G aread_hands, kread_hands, PySem.W.mg_of X G alaw_told, klaw_told, PySem.W.mg_of X G alaw_is_word, klaw_is_word, PySem.W.mg_of X G alaw_is_hand, klaw_is_hand, PySem.W.mg_of X G alaw_due, klaw_due, PySem.W.mg_of X G alaw_cell_at, klaw_cell_at, PySem.W.mg_of X G alaw_spoiled, klaw_spoiled, PySem.W.mg_of X G alaw_word, klaw_word, PySem.W.mg_of X G alaw_text, klaw_text, PySem.W.mg_of X G ashow_hand, kshow_hand, PySem.W.mg_of X G ashow_hands, kshow_hands, PySem.W.mg_of X G alaw, klaw⟩
  have Flaw_numbers := fun_mk (st := st_law_numbers) llaw_numbers claw_numbers klaw_numbers
  have Flaw_free := fun_mk (st := st_law_free) llaw_free claw_free klaw_free
  have Fis_all_of := fun_mk (st := st_is_all_of) lis_all_of cis_all_of kis_all_of
  have Fis_text_of := fun_mk (st := st_is_text_of) lis_text_of cis_text_of kis_text_of
  have Fread_hand := fun_mk (st := st_read_hand) lread_hand cread_hand kread_hand
  have Fread_hands := fun_mk (st := st_read_hands) lread_hands cread_hands kread_hands
  have Flaw_told := fun_mk (st := st_law_told) llaw_told claw_told klaw_told
  have Flaw_is_word := fun_mk (st := st_law_is_word) llaw_is_word claw_is_word klaw_is_word
  have Flaw_is_hand := fun_mk (st := st_law_is_hand) llaw_is_hand claw_is_hand klaw_is_hand
  have Flaw_due := fun_mk (st := st_law_due) llaw_due claw_due klaw_due
  have Flaw_cell_at := fun_mk (st := st_law_cell_at) llaw_cell_at claw_cell_at klaw_cell_at
  have Flaw_spoiled := fun_mk (st := st_law_spoiled) llaw_spoiled claw_spoiled klaw_spoiled
  have Flaw_word := fun_mk (st := st_law_word) llaw_word claw_word klaw_word
  have Flaw_text := fun_mk (st := st_law_text) llaw_text claw_text klaw_text
  have Fshow_hand := fun_mk (st := st_show_hand) lshow_hand cshow_hand kshow_hand
  have Fshow_hands := fun_mk (st := st_show_hands) lshow_hands cshow_hands kshow_hands
  have Flaw := fun_mk (st := st_law) llaw claw klaw
  have blaw_numbers := Flaw_numbers.binds (ps := ["_law_cell", "_law_many"]) fun _ _ _ _ _ _ us hl => of2 (fun _ _ => rfl) us hl
  have blaw_free := Flaw_free.binds (ps := ["_law_some"]) fun _ _ _ _ _ _ us hl => of1 (fun _ => rfl) us hl
  have bis_all_of := Fis_all_of.binds (ps := ["text", "signs"]) fun _ _ _ _ _ _ us hl => of2 (fun _ _ => rfl) us hl
  have bis_text_of := Fis_text_of.binds (ps := ["value", "signs", "most"]) fun _ _ _ _ _ _ us hl => of3 (fun _ _ _ => rfl) us hl
  have bread_hand := Fread_hand.binds (ps := ["text"]) fun _ _ _ _ _ _ us hl => of1 (fun _ => rfl) us hl
  have bread_hands := Fread_hands.binds (ps := ["text"]) fun _ _ _ _ _ _ us hl => of1 (fun _ => rfl) us hl
  have blaw_told := Flaw_told.binds (ps := ["_law_text_here"]) fun _ _ _ _ _ _ us hl => of1 (fun _ => rfl) us hl
  have blaw_is_word := Flaw_is_word.binds (ps := ["_law_text_here"]) fun _ _ _ _ _ _ us hl => of1 (fun _ => rfl) us hl
  have blaw_is_hand := Flaw_is_hand.binds (ps := ["_law_text_here"]) fun _ _ _ _ _ _ us hl => of1 (fun _ => rfl) us hl
  have blaw_due := Flaw_due.binds (ps := ["_law_text_here"]) fun _ _ _ _ _ _ us hl => of1 (fun _ => rfl) us hl
  have blaw_cell_at := Flaw_cell_at.binds (ps := ["_law_script", "_law_k"]) fun _ _ _ _ _ _ us hl => of2 (fun _ _ => rfl) us hl
  have blaw_spoiled := Flaw_spoiled.binds (ps := ["_law_text_here", "_law_number"]) fun _ _ _ _ _ _ us hl => of2 (fun _ _ => rfl) us hl
  have blaw_word := Flaw_word.binds (ps := ["_law_number"]) fun _ _ _ _ _ _ us hl => of1 (fun _ => rfl) us hl
  have blaw_text := Flaw_text.binds (ps := ["_law_some"]) fun _ _ _ _ _ _ us hl => of1 (fun _ => rfl) us hl
  have bshow_hand := Fshow_hand.binds (ps := ["hand"]) fun _ _ _ _ _ _ us hl => of1 (fun _ => rfl) us hl
  have bshow_hands := Fshow_hands.binds (ps := ["hands"]) fun _ _ _ _ _ _ us hl => of1 (fun _ => rfl) us hl
  refine ⟨PySem.W.fnOf "law" "law" (defArgs st_law) (defBody st_law) (defScope st_law) .none kVlaw dclaw pmlaw anlaw cdlaw ctlaw, fun s v => .of_eq rfl, fun base kb nb => ?_⟩
  have Glaw_numbers := ok_law_numbers (P := l.prog) (w := w) (base := base) Flaw_numbers T
  have Glaw_free := ok_law_free (P := l.prog) (w := w) (base := base) Flaw_free T
  have Gis_all_of := ok_is_all_of (P := l.prog) (w := w) (base := base) Fis_all_of T
  have Gis_text_of := ok_is_text_of (P := l.prog) (w := w) (base := base) Fis_text_of T Gis_all_of bis_all_of
  have Gread_hand := ok_read_hand (P := l.prog) (w := w) (base := base) Fread_hand T (own2_of_in kb (PySem.W.mg_of kb nb zc_NoHands) ow_NoHands) Gis_text_of bis_text_of
  have Gread_hands := ok_read_hands (P := l.prog) (w := w) (base := base) Fread_hands T (own2_of_in kb (PySem.W.mg_of kb nb zc_NoHands) ow_NoHands) Gread_hand bread_hand
  have Glaw_told := ok_law_told (P := l.prog) (w := w) (base := base) Flaw_told T Gread_hands bread_hands
  have Glaw_is_word := ok_law_is_word (P := l.prog) (w := w) (base := base) Flaw_is_word T
  have Glaw_is_hand := ok_law_is_hand (P := l.prog) (w := w) (base := base) Flaw_is_hand T Glaw_is_word blaw_is_word
  have Glaw_due := ok_law_due (P := l.prog) (w := w) (base := base) Flaw_due T Glaw_is_hand blaw_is_hand
  have Glaw_cell_at := ok_law_cell_at (P := l.prog) (w := w) (base := base) Flaw_cell_at T
  have Glaw_spoiled := ok_law_spoiled (P := l.prog) (w := w) (base := base) Flaw_spoiled T
  have Glaw_word := ok_law_word (P := l.prog) (w := w) (base := base) Flaw_word T
  have Glaw_text := ok_law_text (P := l.prog) (w := w) (base := base) Flaw_text T Glaw_word blaw_word
  have Gshow_hand := ok_show_hand (P := l.prog) (w := w) (base := base) Fshow_hand T
  have Gshow_hands := ok_show_hands (P := l.prog) (w := w) (base := base) Fshow_hands T Gshow_hand bshow_hand
  exact ok_law Flaw T Glaw_numbers blaw_numbers Glaw_free blaw_free Glaw_told blaw_told Glaw_due blaw_due Glaw_cell_at blaw_cell_at Glaw_spoiled blaw_spoiled Glaw_text blaw_text Gshow_hands bshow_hands
theorem law_sp {K : PySem.W.Frag} {H : Hp} {a : Addr} {ns : List Int} (hn : g_law [.lst (ns.map D.int)] = some (.fz (.bl true))) (hO : Only H) (hS : SqL K H a (ns.map V.int)) : spOf K 1 g_law [.ref a] H (fun v _ => v = .bl true) fun _ _ _ => False := by
  refine ⟨H, [.lst (ns.map D.int)], .fz (.bl true), Same.refl H, .cons (.lst hS (ints_rep ns)) .nil, rfl, hn, fun v H' F' ms _ _ _ _ sh _ _ => ?_⟩
  cases shape_fz sh
  rfl
theorem walk {l : PySem.W.OpenLaw} {q : Program} {loose : List Str} {XP : (Str → Option Value) → Heap → Prop} {YP : World → Heap → Prop} {d : DefRec} {K : Params → PySem.W.Frag} (hn : l.most = some 63) (hdf : d.params.defaults = [])
    (hY : ∀ (w : World) (h : Heap), YP w h → (K w.params).In h)
    (F : ∀ (w : World) (mg : Str → Option Value) (fa : Addr) (h : Heap), (K w.params).In h → h.Ns mainGlobals mg → mg d.name = some (.ref fa) →
      ∃ fd : FuncData, (∀ (s : Shared) (u : Value), BindsTo s fd ⟨[u], []⟩ [("_law_script", u)]) ∧ ∀ base : Heap, (K w.params).In base → base.Ns mainGlobals mg → FnOk l.prog w (K w.params) mg base CX0 6 fa fd ["_law_script"] (spOf (K w.params) 1 g_law))
    (hlaw : ∀ ns : List Int, ns.length ≤ 63 → g_law [.lst (ns.map D.int)] = some (.fz (.bl true))) :
    PySem.W.WalkO q loose XP YP l.row.toRowW d [] (fun f vs => PySem.call f vs) :=
  L2.walk_ofK (n := 63) (k := 6) (x := "_law_script") (CX := CX0) (sp := fun K => spOf K 1 g_law) hn (by decide) hdf ⟨rfl, by decide, by decide⟩ hY F (fun _ _ _ ns hl hO hS => law_sp (hlaw ns hl) hO hS) fun _ _ _ _ z => z
end Gen

/-! words and hands, read from sign to sign -/
namespace My
open DL PySem
noncomputable def ltr (c : Nat) : Bool := (Nat.ble 65 c && Nat.ble c 90) || (Nat.ble 97 c && Nat.ble c 122)
theorem in_ltr : ∀ c < 128, inS ⟨#[c]⟩ LET = ltr c := by decide +kernel
noncomputable def Asc (l : List Nat) : Prop := ∀ c ∈ l, c < 128
noncomputable def wd (l : List Nat) : Bool := Nat.ble 1 l.length && Nat.ble l.length 15 && l.all ltr
theorem bools_map (f : Nat → Bool) : ∀ l : List Nat, bools? (l.map fun c => D.bl (f c)) = some (l.map f)
  | [] => rfl
  | x :: r => by simp [bools_map f r]
noncomputable def sgf (sg : Str) (d : D) : D := match d with
  | .str x => .bl (inS x sg)
  | d => d
theorem allOf (l : List Nat) (ha : Asc l) (hl : l.length ≤ 100000) : Gen.g_is_all_of [.str (S l), .str LET] = some (.fz (.bl (l.all ltr))) := by
  have c := comp_cap (te := Gen.e_is_all_of_1) (f := sgf LET) (c := some (.fz (.str LET))) (j := 1) (signs (S l)) [] (fun x hx zs => by
    unfold signs at hx
    obtain ⟨k, hk, rfl⟩ := List.mem_map.mp hx
    unfold Gen.e_is_all_of_1 sgf
    simp [-inS]) (by unfold signs; rw [List.length_map, len_list, S_len]; simp; omega)
  rw [List.nil_append] at c
  have e : (signs (S l)).map (sgf LET) = l.map fun c => D.bl (ltr c) := by
    unfold signs
    rw [List.map_map, S_list]
    refine List.map_congr_left fun k hk => ?_
    show D.bl (inS ⟨#[k]⟩ LET) = _
    rw [in_ltr k (ha k hk)]
  rw [e] at c
  have s := bools_map ltr l
  unfold Gen.g_is_all_of Gen.f_is_all_of
  simp [c, s]
theorem isText (l : List Nat) (ha : Asc l) (hl : l.length ≤ 100000) : Gen.g_is_text_of [.str (S l), .str LET, .int 15] = some (.fz (.bl (wd l))) := by
  have a := allOf l ha hl
  have el := S_len l
  have z : l.length ≤ PySem.sizeLine := line_of (by omega)
  unfold wd
  generalize l.all ltr = b at *
  unfold Gen.g_is_text_of Gen.f_is_text_of
  by_cases h1 : 1 ≤ l.length
  · have a1 : (1 : Int) ≤ (l.length : Int) := by omega
    have b1 : Nat.ble 1 l.length = true := Nat.ble_eq_true_of_le h1
    by_cases h2 : l.length ≤ 15
    · have a2 : (l.length : Int) ≤ 15 := by omega
      have b2 : Nat.ble l.length 15 = true := Nat.ble_eq_true_of_le h2
      simp [a, z, a1, a2, h1, h2, el, b1, b2]
    · have a2 : ¬ (l.length : Int) ≤ 15 := by omega
      have b2 : Nat.ble l.length 15 = false := by
        cases e : Nat.ble l.length 15 with
        | false => rfl
        | true => exact absurd (Nat.le_of_ble_eq_true e) h2
      simp [a, z, a1, a2, h1, h2, el, b1, b2]
  · have a1 : ¬ (1 : Int) ≤ (l.length : Int) := by omega
    have b1 : Nat.ble 1 l.length = false := by
      cases e : Nat.ble 1 l.length with
      | false => rfl
      | true => exact absurd (Nat.le_of_ble_eq_true e) h1
    simp [a, z, a1, h1, el, b1]
noncomputable abbrev NH : Exn := ⟨"NoHands", [], []⟩
/-! read_hand -/
theorem rturn (x0 x1 x2 : Option SV) (l : List Nat) (ha : Asc l) (hl : l.length ≤ 100000) : Gen.b_read_hand_1 [x0, x1, x2, some (.fz (.str (S l)))] = some (if wd l = true then .nx [x0, x1, x2, some (.fz (.str (S l)))] else .ex NH [x0, x1, x2, some (.fz (.str (S l)))]) := by
  have e := isText l ha hl
  unfold Gen.b_read_hand_1
  cases h : wd l <;> simp [e, h]
theorem rloop (x0 x1 x2 : Option SV) : ∀ (ws : List (List Nat)) (x3 : Option SV), (∀ w ∈ ws, Asc w ∧ w.length ≤ 100000) → ∃ y3, forD (gNameF 3) Gen.b_read_hand_1 (ws.map fun w => D.str (S w)) [x0, x1, x2, x3] = some (if ws.all wd = true then .nx [x0, x1, x2, y3] else .ex NH [x0, x1, x2, y3])
  | [], x3, _ => ⟨x3, rfl⟩
  | w :: ws, x3, h => by
    obtain ⟨y3, e⟩ := rloop x0 x1 x2 ws (some (.fz (.str (S w)))) fun z hz => h z (List.mem_cons_of_mem _ hz)
    have t := rturn x0 x1 x2 w (h w List.mem_cons_self).1 (h w List.mem_cons_self).2
    rw [List.all_cons]
    cases hw : wd w with
    | true =>
      rw [hw, if_pos rfl] at t
      refine ⟨y3, ?_⟩
      rw [Bool.true_and, ← e]
      exact forD_nx (δ1 := [x0, x1, x2, some (.fz (.str (S w)))]) rfl t
    | false =>
      rw [hw, if_neg (by simp)] at t
      refine ⟨some (.fz (.str (S w))), ?_⟩
      rw [Bool.false_and, if_neg (by simp), List.map_cons]
      simp [t]
noncomputable abbrev CO : Str := ", "
noncomputable abbrev BL : Str := " "
noncomputable abbrev AM : Str := " & "
noncomputable abbrev co : List Nat := [44, 32]
noncomputable abbrev am : List Nat := [32, 38, 32]
theorem co_l : CO.cps.toList = co := by decide +kernel
theorem bl_l : BL.cps.toList = [32] := by decide +kernel
theorem am_l : AM.cps.toList = am := by decide +kernel
theorem co_k : Builtin.Str.strKind CO = 1 := by decide +kernel
theorem bl_k : Builtin.Str.strKind BL = 1 := by decide +kernel
theorem am_k : Builtin.Str.strKind AM = 1 := by decide +kernel
theorem co_ne : ¬ (Str.ofString ", ").length = 0 := by decide +kernel
theorem bl_ne : ¬ (Str.ofString " ").length = 0 := by decide +kernel
theorem am_ne : ¬ (Str.ofString " & ").length = 0 := by decide +kernel
theorem em_co : ¬ Str.empty = CO := by decide +kernel
noncomputable def txt (a : List Nat) (gs : List (List Nat)) : List Nat := if gs = [] then a else a ++ co ++ jl [32] gs
structure HandOf (p a : List Nat) (gs : List (List Nat)) : Prop where
  fam : wd a = true
  giv : gs.all wd = true
  few : gs.length ≤ 4
  is : p = txt a gs
noncomputable def handD (a : List Nat) (gs : List (List Nat)) : D := .tup [.str (S a), .tup (gs.map fun g => .str (S g))]
theorem wd_len {l : List Nat} (h : wd l = true) : 1 ≤ l.length ∧ l.length ≤ 15 := by
  unfold wd at h
  simp only [Bool.and_eq_true] at h
  exact ⟨Nat.le_of_ble_eq_true h.1.1, Nat.le_of_ble_eq_true h.1.2⟩
theorem wd_ltr {l : List Nat} (h : wd l = true) : ∀ c ∈ l, ltr c = true := by
  unfold wd at h
  simp only [Bool.and_eq_true] at h
  exact List.all_eq_true.mp h.2
theorem wd_asc {l : List Nat} (h : wd l = true) : Asc l := fun c hc => by
  have := wd_ltr h c hc
  unfold ltr at this
  simp only [Bool.or_eq_true, Bool.and_eq_true] at this
  rcases this with z | z
  · have := Nat.le_of_ble_eq_true z.2; omega
  · have := Nat.le_of_ble_eq_true z.2; omega
theorem wd_no {l : List Nat} (h : wd l = true) (c : Nat) (hc : ltr c = false) : c ∉ l := fun z => by
  have := wd_ltr h c z
  rw [hc] at this; cases this
theorem jl_mem {y : List Nat} : ∀ {ps : List (List Nat)} {p : List Nat}, p ∈ ps → ∀ c ∈ p, c ∈ jl y ps
  | [q], p, h, c, hc => by rw [List.mem_singleton.mp h] at hc; exact hc
  | q :: q2 :: r, p, h, c, hc => by
    rw [jl_cons2]
    rcases List.mem_cons.mp h with e | e
    · rw [e] at hc; exact List.mem_append_left _ (List.mem_append_left _ hc)
    · exact List.mem_append_right _ (jl_mem e c hc)
theorem jl_len {y : List Nat} : ∀ {ps : List (List Nat)} {p : List Nat}, p ∈ ps → p.length ≤ (jl y ps).length
  | [q], p, h => by rw [List.mem_singleton.mp h]; exact Nat.le_refl _
  | q :: q2 :: r, p, h => by
    rw [jl_cons2, List.length_append, List.length_append]
    rcases List.mem_cons.mp h with e | e
    · rw [e]; omega
    · have := jl_len (y := y) e; omega
theorem smap (ws : List (List Nat)) : (ws.map S).map D.str = ws.map fun w => D.str (S w) := by rw [List.map_map]; rfl
end My

/-! read_hand of any text -/
namespace My
open DL PySem
theorem ltr32 : ltr 32 = false := by decide
theorem ltr38 : ltr 38 = false := by decide
theorem ltr44 : ltr 44 = false := by decide
theorem split_bl (ws : List (List Nat)) (h : Fits [32] ws) : Txt.split (S (jl [32] ws)) BL = ws.map S :=
  split_fits _ BL (by decide +kernel) bl_k ws (by rw [bl_l]; exact h) (by rw [bl_l, S_list])
theorem part_co (p q : List Nat) (r : List (List Nat)) (h : Fits co (p :: q :: r)) : Txt.partition (S (jl co (p :: q :: r))) CO = (S p, CO, S (jl co (q :: r))) := by
  have := part_some CO (by decide +kernel) p q r (by rw [co_l]; exact h)
  rwa [co_l] at this
theorem part_co0 (p : List Nat) (h : Fits co [p]) : Txt.partition (S p) CO = (S p, Str.empty, Str.empty) :=
  part_none _ _ (by decide +kernel) (by rw [co_l, S_list]; exact h)
theorem oneRead (p : List Nat) (ha : Asc p) (hl : p.length ≤ 10000) (h : Fits co [p]) : Gen.h_read_hand [.str (S p)] = some (if wd p = true then .v (.fz (handD p [])) else .x NH) := by
  have pt := part_co0 p h
  have el := S_len p
  have z1 : p.length ≤ PySem.sizeLine := line_of (by omega)
  have s1 : (1 : Nat) ≤ PySem.sizeLine := by decide
  have s2 : (2 : Nat) ≤ PySem.sizeLine := by decide
  have s0 : (0 : Nat) ≤ PySem.sizeLine := Nat.zero_le _
  have cb := co_ne
  have ne := em_co
  obtain ⟨y3, e⟩ := rloop (some (.fz (.str (S p)))) (some (.fz (.tup [.str (S p), .str Str.empty, .str Str.empty]))) (some (.ol [])) [p] none (fun w hw => by rw [List.mem_singleton.mp hw]; exact ⟨ha, by omega⟩)
  rw [List.map_cons, List.map_nil, List.all_cons, List.all_nil, Bool.and_true] at e
  unfold Gen.h_read_hand Gen.f_read_hand handD
  cases hw : wd p
  · rw [hw, if_neg (by simp)] at e
    simp [-forD, pt, cb, z1, L2.atI, L2.ixN, ne, s1, s0, e, s2, el]
  · rw [hw, if_pos rfl] at e
    simp [-forD, pt, cb, z1, L2.atI, L2.ixN, ne, s1, s0, e, s2, el]
theorem twoRead (a q : List Nat) (r : List (List Nat)) (ws : List (List Nat)) (h : Fits co (a :: q :: r)) (ew : jl co (q :: r) = jl [32] ws) (hf : Fits [32] ws)
    (ha : Asc (jl co (a :: q :: r))) (hl : (jl co (a :: q :: r)).length ≤ 10000) (hw : ws.length ≤ 10001) :
    Gen.h_read_hand [.str (S (jl co (a :: q :: r)))] = some (if ws.length ≤ 4 ∧ (a :: ws).all wd = true then .v (.fz (handD a ws)) else .x NH) := by
  have pt := part_co a q r h
  have sp := split_bl ws hf
  rw [← ew] at sp
  have el := S_len (jl co (a :: q :: r))
  have el2 := S_len (jl co (q :: r))
  have l2 : (jl co (q :: r)).length ≤ 10000 := by rw [jl_cons2, List.length_append] at hl; omega
  have z1 : (jl co (a :: q :: r)).length ≤ PySem.sizeLine := line_of (by omega)
  have z2 : (jl co (q :: r)).length ≤ PySem.sizeLine := line_of (by omega)
  have z3 : ws.length ≤ PySem.sizeLine := line_of (by omega)
  have z4 : ws.length + 1 ≤ PySem.sizeLine := line_of (by omega)
  have s1 : (1 : Nat) ≤ PySem.sizeLine := by decide
  have s2 : (2 : Nat) ≤ PySem.sizeLine := by decide
  have s0 : (0 : Nat) ≤ PySem.sizeLine := Nat.zero_le _
  have cb := co_ne
  have bb := bl_ne
  have sm := smap ws
  have hall : ∀ w ∈ a :: ws, Asc w ∧ w.length ≤ 100000 := fun w hw => by
    rcases List.mem_cons.mp hw with e | e
    · rw [e]
      refine ⟨fun c hc => ha c (jl_mem (List.mem_cons_self) c hc), ?_⟩
      have := jl_len (y := co) (ps := a :: q :: r) (p := a) List.mem_cons_self
      omega
    · refine ⟨fun c hc => ha c ?_, ?_⟩
      · rw [jl_cons2, ew]; exact List.mem_append_right _ (jl_mem e c hc)
      · have := jl_len (y := [32]) e
        rw [← ew] at this; omega
  generalize hx : jl co (a :: q :: r) = x at *
  generalize hr : jl co (q :: r) = rest at *
  obtain ⟨y3, e⟩ := rloop (some (.fz (.str (S x)))) (some (.fz (.tup [.str (S a), .str CO, .str (S rest)]))) (some (.ol (ws.map fun w => D.str (S w)))) (a :: ws) none hall
  rw [List.map_cons] at e
  unfold Gen.h_read_hand Gen.f_read_hand handD
  by_cases h4 : ws.length ≤ 4
  · have n4 : ¬ (4 : Int) < (ws.length : Int) := by omega
    cases hz : (a :: ws).all wd with
    | true =>
      rw [hz, if_pos rfl] at e
      rw [if_pos ⟨h4, rfl⟩]
      simp [-forD, -List.map_map, pt, cb, bb, z1, z2, z3, z4, L2.atI, L2.ixN, sp, sm, n4, s1, s0, e, s2, el, el2, Nat.add_comm]
    | false =>
      rw [hz, if_neg (by simp)] at e
      rw [if_neg (by simp)]
      simp [-forD, -List.map_map, pt, cb, bb, z1, z2, z3, z4, L2.atI, L2.ixN, sp, sm, n4, s1, s0, e, s2, el, el2, Nat.add_comm]
  · have n4 : (4 : Int) < (ws.length : Int) := by omega
    rw [if_neg (fun z => h4 z.1)]
    simp [-forD, -List.map_map, pt, cb, bb, z1, z2, z3, z4, L2.atI, L2.ixN, sp, sm, n4, s1, s0, s2, el, el2, Nat.add_comm]
theorem readHand (p : List Nat) (ha : Asc p) (hl : p.length ≤ 10000) :
    (∃ a gs, HandOf p a gs ∧ Gen.h_read_hand [.str (S p)] = some (.v (.fz (handD a gs)))) ∨ ((∀ a gs, ¬ HandOf p a gs) ∧ Gen.h_read_hand [.str (S p)] = some (.x NH)) := by
  by_cases H : ∃ a gs, HandOf p a gs
  · obtain ⟨a, gs, h⟩ := H
    refine .inl ⟨a, gs, h, ?_⟩
    have e := h.is
    unfold txt at e
    by_cases g0 : gs = []
    · rw [if_pos g0] at e
      subst e
      rw [oneRead p ha hl (fits_one (c := 44) (by simp) p (wd_no h.fam 44 ltr44)), if_pos h.fam, g0]
    · rw [if_neg g0] at e
      obtain ⟨cs, fc, ec, _⟩ := fits_all co (by decide) _ (jl [32] gs) (Nat.le_refl _)
      cases cs with
      | nil => exact fc.elim
      | cons q r =>
        have fx := fits_cons (y := co) (c := 44) rfl a (wd_no h.fam 44 ltr44) q r fc
        have ex : p = jl co (a :: q :: r) := by rw [e, jl_cons2, ec]
        have hgs : ∀ g ∈ gs, 32 ∉ g := fun g hg => wd_no (List.all_eq_true.mp h.giv g hg) 32 ltr32
        rw [ex] at ha hl ⊢
        rw [twoRead a q r gs fx ec (fits_words gs g0 hgs) ha hl (by have := h.few; omega), if_pos ⟨h.few, by rw [List.all_cons, h.fam, h.giv]; rfl⟩]
  · refine .inr ⟨fun a gs h => H ⟨a, gs, h⟩, ?_⟩
    obtain ⟨cs, fc, ec, _⟩ := fits_all co (by decide) _ p (Nat.le_refl _)
    match cs, fc, ec with
    | [], fc, _ => exact fc.elim
    | [q], fc, ec =>
      have ec : q = p := ec
      subst ec
      rw [oneRead q ha hl fc, if_neg]
      intro z
      exact H ⟨q, [], z, rfl, by simp, rfl⟩
    | a :: q :: r, fc, ec =>
      obtain ⟨ws, fw, ew, lw⟩ := fits_all [32] (by decide) _ (jl co (q :: r)) (Nat.le_refl _)
      have hll : (jl co (q :: r)).length ≤ p.length := by rw [← ec, jl_cons2, List.length_append]; omega
      rw [← ec] at ha hl ⊢
      rw [twoRead a q r ws fc ew.symm fw ha hl (by rw [← ec] at hll; omega), if_neg]
      rintro ⟨z1, z2⟩
      rw [List.all_cons, Bool.and_eq_true] at z2
      refine H ⟨a, ws, z2.1, z2.2, z1, ?_⟩
      have w0 : ws ≠ [] := fun z => by rw [z] at fw; exact fw
      unfold txt
      rw [if_neg w0, ew, ← ec, jl_cons2]
end My

/-! the law's own reading: a word, a hand -/
namespace My
open DL PySem
theorem iturn (x0 : Option SV) (c : Nat) (hc : c < 128) : Gen.b_law_is_word_1 [x0, some (.fz (.str ⟨#[c]⟩))] = some (if ltr c = true then .nx [x0, some (.fz (.str ⟨#[c]⟩))] else .rt (.fz (.bl false))) := by
  have e := in_ltr c hc
  unfold Gen.b_law_is_word_1
  cases h : ltr c <;> rw [h] at e <;> simp [-inS, e]
theorem iloop (x0 : Option SV) : ∀ (l : List Nat) (x1 : Option SV), Asc l → ∃ y1, forD (gNameF 1) Gen.b_law_is_word_1 (l.map fun c => D.str ⟨#[c]⟩) [x0, x1] = some (if l.all ltr = true then .nx [x0, y1] else .rt (.fz (.bl false)))
  | [], x1, _ => ⟨x1, rfl⟩
  | c :: l, x1, h => by
    obtain ⟨y1, e⟩ := iloop x0 l (some (.fz (.str ⟨#[c]⟩))) fun z hz => h z (List.mem_cons_of_mem _ hz)
    have t := iturn x0 c (h c List.mem_cons_self)
    refine ⟨y1, ?_⟩
    rw [List.all_cons]
    cases hw : ltr c with
    | true =>
      rw [hw, if_pos rfl] at t
      rw [Bool.true_and, ← e]
      exact forD_nx (δ1 := [x0, some (.fz (.str ⟨#[c]⟩))]) rfl t
    | false =>
      rw [hw, if_neg (by simp)] at t
      rw [Bool.false_and, if_neg (by simp)]
      exact forD_rt (δ1 := [x0, some (.fz (.str ⟨#[c]⟩))]) rfl t
theorem isWord (l : List Nat) (ha : Asc l) (hl : l.length ≤ 100000) : Gen.g_law_is_word [.str (S l)] = some (.fz (.bl (wd l))) := by
  have el := S_len l
  have z : l.length ≤ PySem.sizeLine := line_of (by omega)
  obtain ⟨y1, e⟩ := iloop (some (.fz (.str (S l)))) l none ha
  have es : signs (S l) = l.map fun c => D.str ⟨#[c]⟩ := by unfold signs; rw [S_list]
  unfold wd
  generalize l.all ltr = b at *
  unfold Gen.g_law_is_word Gen.f_law_is_word
  by_cases h1 : 1 ≤ l.length
  · have a1 : ¬ (l.length : Int) < 1 := by omega
    have a1' : ¬ l.length = 0 := by omega
    have b1 : Nat.ble 1 l.length = true := Nat.ble_eq_true_of_le h1
    by_cases h2 : l.length ≤ 15
    · have a2 : ¬ (15 : Int) < (l.length : Int) := by omega
      have b2 : Nat.ble l.length 15 = true := Nat.ble_eq_true_of_le h2
      cases b <;> simp at e <;> simp [-forD, -signs, es, e, z, a1, a1', a2, h1, h2, el, b1, b2]
    · have a2 : (15 : Int) < (l.length : Int) := by omega
      have b2 : Nat.ble l.length 15 = false := by
        cases e : Nat.ble l.length 15 with
        | false => rfl
        | true => exact absurd (Nat.le_of_ble_eq_true e) h2
      simp [-forD, -signs, z, a1, a1', a2, h1, h2, el, b1, b2]
  · have a1 : (l.length : Int) < 1 := by omega
    have b1 : Nat.ble 1 l.length = false := by
      cases e : Nat.ble 1 l.length with
      | false => rfl
      | true => exact absurd (Nat.le_of_ble_eq_true e) h1
    simp [-forD, -signs, z, a1, h1, el, b1]
end My

/-! the law's own reading of a hand -/
namespace My
open DL PySem
theorem comma : Str.ofString "," = S [44] := by decide +kernel
theorem slice_last (p : List Nat) (c : Nat) : Txt.slice (S (p ++ [c])) (some (-1)) none = S [c] := by
  have hl := S_len (p ++ [c])
  rw [List.length_append, List.length_singleton] at hl
  refine (StrLaws.sliceText_from_neg (by decide) (by rw [hl]; omega)).trans ?_
  rw [hl, S_list]
  have e : (-1 + ((p.length + 1 : Nat) : Int)).toNat = p.length := by omega
  have e2 : (((p ++ [c]).length : Int) - (-1 + ((p.length + 1 : Nat) : Int))).toNat = 1 := by rw [List.length_append, List.length_singleton]; omega
  rw [e, e2, List.drop_left]
  rfl
theorem slice_e1 : Txt.slice (S []) (some (-1)) none = S [] := by decide +kernel
theorem in_bools (f : List Nat → Bool) : ∀ ws : List (List Nat), inFl (.bl false) (ws.map fun w => D.bl (f w)) = !ws.all f
  | [] => rfl
  | w :: ws => by
    have ih := in_bools f ws
    unfold inFl at ih ⊢
    rw [List.map_cons, List.any_cons, ih, eqFl_bl, List.all_cons]
    cases f w <;> simp
theorem flat_bools (f : List Nat → Bool) (ws : List (List Nat)) : (ws.map fun w => D.bl (f w)).all D.isFlat = true := by
  rw [List.all_map]; simp
noncomputable def wdD (d : D) : D := match Gen.g_law_is_word [d] with
  | some (.fz x) => x
  | _ => d
theorem wds (ws : List (List Nat)) (h : ∀ w ∈ ws, Asc w ∧ w.length ≤ 100000) (hl : ws.length ≤ 100000) :
    compD [.own, .acc] 1 (gNameF 0) trueT Gen.e_law_is_hand_1 (ws.map fun w => D.str (S w)) [none, some (.ol [])] = some [none, some (.ol (ws.map fun w => D.bl (wd w)))] := by
  have c := comp_own (te := Gen.e_law_is_hand_1) (f := wdD) (ws.map fun w => D.str (S w)) [] (fun x hx zs => by
    obtain ⟨w, hw, rfl⟩ := List.mem_map.mp hx
    have e := isWord w (h w hw).1 (h w hw).2
    have e2 : wdD (.str (S w)) = .bl (wd w) := by unfold wdD; rw [e]
    unfold Gen.e_law_is_hand_1
    rw [e2]
    simp [e]) (by rw [List.length_map]; simp; omega)
  rw [c, List.nil_append, List.map_map]
  refine congrArg (fun z => some [none, some (SV.ol z)]) ?_
  refine List.map_congr_left fun w hw => ?_
  show wdD (.str (S w)) = _
  unfold wdD
  rw [isWord w (h w hw).1 (h w hw).2]
theorem split_all (p : List Nat) : ∃ ws, Fits [32] ws ∧ jl [32] ws = p ∧ ws.length ≤ p.length + 1 := fits_all [32] (by decide) _ p (Nat.le_refl _)
theorem handOne (p : List Nat) (ha : Asc p) (hl : p.length ≤ 10000) (h : Fits [32] [p]) : Gen.g_law_is_hand [.str (S p)] = some (.fz (.bl (wd p))) := by
  have sp := split_bl [p] h
  have sp : Txt.split (S p) BL = [S p] := sp
  have el := S_len p
  have z1 : p.length ≤ PySem.sizeLine := line_of (by omega)
  have s1 : (1 : Nat) ≤ PySem.sizeLine := by decide
  have bb := bl_ne
  have iw := isWord p ha (by omega)
  unfold Gen.g_law_is_hand Gen.f_law_is_hand
  simp [-compD, sp, bb, z1, s1, iw, el]
theorem handMany (w : List Nat) (w2 : List Nat) (ws : List (List Nat)) (h : Fits [32] (w :: w2 :: ws)) (ha : Asc (jl [32] (w :: w2 :: ws))) (hl : (jl [32] (w :: w2 :: ws)).length ≤ 10000) (hn : ws.length ≤ 10000) :
    Gen.g_law_is_hand [.str (S (jl [32] (w :: w2 :: ws)))] = some (.fz (.bl (decide (ws.length ≤ 3) && decide (w.getLast? = some 44) && wd w.dropLast && (w2 :: ws).all wd))) := by
  have sp := split_bl (w :: w2 :: ws) h
  have hall : ∀ v ∈ w :: w2 :: ws, Asc v ∧ v.length ≤ 100000 := fun v hv => ⟨fun c hc => ha c (jl_mem hv c hc), by have := jl_len (y := [32]) hv; omega⟩
  have el := S_len (jl [32] (w :: w2 :: ws))
  generalize jl [32] (w :: w2 :: ws) = x at *
  have z1 : x.length ≤ PySem.sizeLine := line_of (by omega)
  have z2 : ws.length + 1 + 1 ≤ PySem.sizeLine := line_of (by omega)
  have bb := bl_ne
  have sm := smap (w :: w2 :: ws)
  have ew := S_len w
  have zw : w.length ≤ PySem.sizeLine := line_of (by have := (hall w List.mem_cons_self).2; omega)
  have cw := wds (w2 :: ws) (fun v hv => hall v (List.mem_cons_of_mem _ hv)) (by simp; omega)
  have ib := in_bools wd (w2 :: ws)
  have fb := flat_bools wd (w2 :: ws)
  have hb : (w2 :: ws).map (fun w => D.bl (wd w)) = D.bl (wd w2) :: ws.map (fun w => D.bl (wd w)) := rfl
  have hm : (w2 :: ws).map (fun w => D.str (S w)) = D.str (S w2) :: ws.map (fun w => D.str (S w)) := rfl
  have ct : cutD (((w :: w2 :: ws).map S).map D.str) (some 1) none = (w2 :: ws).map fun w => D.str (S w) := by
    have := cut_from (((w :: w2 :: ws).map S).map D.str) 1 (by simp)
    rw [sm] at this ⊢
    exact this
  have a0 : L2.atI (((w :: w2 :: ws).map S).map D.str) 0 = some (.str (S w)) := at_nat _ 0 _ rfl
  have ln : ((w :: w2 :: ws).map S).length = ws.length + 1 + 1 := by simp
  generalize (w :: w2 :: ws).map S = SS at *
  generalize hY : (w2 :: ws).map (fun w => D.str (S w)) = Y at *
  generalize hB : (w2 :: ws).map (fun w => D.bl (wd w)) = B at *
  have n1 : ¬ ((ws.length : Int) + 1 + 1 = 1) := by omega
  have n1' : ¬ (ws.length + 1 + 1 = 1) := by omega
  generalize (w2 :: ws).all wd = bw at *
  unfold Gen.g_law_is_hand Gen.f_law_is_hand
  by_cases h5 : ws.length ≤ 3
  · have n5 : ¬ (5 : Int) < (ws.length : Int) + 1 + 1 := by omega
    have n5' : ¬ 5 < ws.length + 1 + 1 := by omega
    by_cases hc : w.getLast? = some 44
    · obtain ⟨a, rfl⟩ := List.getLast?_eq_some_iff.mp hc
      have sl := slice_last a 44
      have sb := slice_but a 44
      have iw := isWord a (fun c hc => (hall (a ++ [44]) List.mem_cons_self).1 c (List.mem_append_left _ hc)) (by
        have := (hall (a ++ [44]) List.mem_cons_self).2
        rw [List.length_append] at this; omega)
      have ed : (a ++ [44]).dropLast = a := List.dropLast_concat
      have cm := comma
      have zw2 : a.length + 1 ≤ PySem.sizeLine := by rw [List.length_append] at zw; exact zw
      rw [ed]
      cases hwd : wd a <;> rw [hwd] at iw <;> simp [-compD, -List.map_map, -List.all_eq_true, sp, bb, z1, z2, el, ew, zw, ln, a0, ct, cw, ib, fb, n1, n1', n5, n5', h5, sl, sb, iw, cm, zw2]
    · have sl : ∃ v, Txt.slice (S w) (some (-1)) none = S v ∧ v ≠ [44] := by
        rcases List.eq_nil_or_concat w with e | ⟨p, c, e⟩ <;> (try rw [List.concat_eq_append] at e)
        · rw [e]; exact ⟨[], slice_e1, by simp⟩
        · rw [e]; refine ⟨[c], slice_last p c, fun z => hc ?_⟩
          rw [e, List.cons.inj z |>.1]; simp
      obtain ⟨v, sl, hv⟩ := sl
      have cm := comma
      have ne := S_ne hv
      simp [-compD, -List.map_map, -List.all_eq_true, sp, bb, z1, z2, el, ew, zw, ln, a0, ct, cw, ib, fb, n1, n1', n5, n5', h5, sl, cm, ne, hc]
  · have n5 : (5 : Int) < (ws.length : Int) + 1 + 1 := by omega
    have n5' : 5 < ws.length + 1 + 1 := by omega
    simp [-compD, -List.map_map, -List.all_eq_true, sp, bb, z1, z2, el, ew, zw, ln, n1, n1', n5, n5', h5]
theorem isHand (p : List Nat) (ha : Asc p) (hl : p.length ≤ 10000) :
    ((∃ a gs, HandOf p a gs) ∧ Gen.g_law_is_hand [.str (S p)] = some (.fz (.bl true))) ∨ ((∀ a gs, ¬ HandOf p a gs) ∧ Gen.g_law_is_hand [.str (S p)] = some (.fz (.bl false))) := by
  by_cases H : ∃ a gs, HandOf p a gs
  · refine .inl ⟨H, ?_⟩
    obtain ⟨a, gs, h⟩ := H
    have e := h.is
    have n32 := wd_no h.fam 32 ltr32
    unfold txt at e
    by_cases g0 : gs = []
    · rw [if_pos g0] at e
      subst e
      rw [handOne p ha hl (fits_one (c := 32) (by simp) p n32), h.fam]
    · rw [if_neg g0] at e
      have hgs : ∀ g ∈ gs, 32 ∉ g := fun g hg => wd_no (List.all_eq_true.mp h.giv g hg) 32 ltr32
      have few := h.few
      have giv := h.giv
      cases gs with
      | nil => exact (g0 rfl).elim
      | cons w2 ws =>
        have ex : p = jl [32] ((a ++ [44]) :: w2 :: ws) := by rw [e, jl_cons2]; simp
        have fx : Fits [32] ((a ++ [44]) :: w2 :: ws) := fits_words _ (by simp) fun x hx => by
          rcases List.mem_cons.mp hx with z | z
          · rw [z]
            intro y
            rcases List.mem_append.mp y with y | y
            · exact n32 y
            · simp at y
          · exact hgs x z
        rw [List.length_cons] at few
        rw [ex] at ha hl ⊢
        rw [handMany (a ++ [44]) w2 ws fx ha hl (by omega)]
        have d1 : decide (ws.length ≤ 3) = true := decide_eq_true (by omega)
        rw [d1, List.dropLast_concat, h.fam, giv]
        simp
  · refine .inr ⟨fun a gs h => H ⟨a, gs, h⟩, ?_⟩
    obtain ⟨ws, fw, ew, lw⟩ := split_all p
    match ws, fw, ew, lw with
    | [], fw, _, _ => exact fw.elim
    | [q], fw, ew, _ =>
      have ew : q = p := ew
      subst ew
      rw [handOne q ha hl fw]
      cases hw : wd q with
      | false => rfl
      | true => exact (H ⟨q, [], hw, rfl, by simp, rfl⟩).elim
    | w :: w2 :: ws, fw, ew, lw =>
      have lw : ws.length + 1 + 1 ≤ p.length + 1 := lw
      rw [← ew] at ha hl ⊢
      rw [handMany w w2 ws fw ha hl (by rw [ew] at hl; omega)]
      cases hz : (decide (ws.length ≤ 3) && decide (w.getLast? = some 44) && wd w.dropLast && (w2 :: ws).all wd) with
      | false => rfl
      | true =>
        simp only [Bool.and_eq_true, decide_eq_true_eq] at hz
        obtain ⟨⟨⟨h1, h2⟩, h3⟩, h4⟩ := hz
        obtain ⟨a, rfl⟩ := List.getLast?_eq_some_iff.mp h2
        rw [List.dropLast_concat] at h3
        refine (H ⟨a, w2 :: ws, h3, h4, by simp; omega, ?_⟩).elim
        unfold txt
        rw [if_neg (by simp), ← ew, jl_cons2]; simp
end My

/-! read_hands, the law's own reading, show_hands -/
namespace My
open DL PySem
noncomputable abbrev HD := List Nat × List (List Nat)
noncomputable abbrev HD.d (h : HD) : D := handD h.1 h.2
theorem readStep (p : List Nat) (ha : Asc p) (hl : p.length ≤ 10000) (ds : List D) (ys : List D) (hy : ys.length < 100000) :
    (∃ h : HD, HandOf p h.1 h.2 ∧ compXD [.own, .acc] 1 (gNameF 0) trueT Gen.e_read_hands_1 (.str (S p) :: ds) [none, some (.ol ys)] = compXD [.own, .acc] 1 (gNameF 0) trueT Gen.e_read_hands_1 ds [none, some (.ol (ys ++ [h.d]))])
    ∨ ((∀ a gs, ¬ HandOf p a gs) ∧ compXD [.own, .acc] 1 (gNameF 0) trueT Gen.e_read_hands_1 (.str (S p) :: ds) [none, some (.ol ys)] = some (.x NH)) := by
  have zy : ys.length < PySem.sizeLine := line_lt (by omega)
  rcases readHand p ha hl with ⟨a, gs, h, e⟩ | ⟨h, e⟩
  · refine .inl ⟨(a, gs), h, ?_⟩
    have hd : handD a gs = .tup [.str (S a), .tup (gs.map fun g => .str (S g))] := rfl
    unfold HD.d
    generalize handD a gs = dd at *
    rw [compXD]
    unfold Gen.e_read_hands_1
    subst hd
    simp [-compXD, e, zy]
  · refine .inr ⟨h, ?_⟩
    rw [compXD]
    unfold Gen.e_read_hands_1
    simp [-compXD, e]
theorem readAllH : ∀ (ps : List (List Nat)) (ys : List D), (∀ p ∈ ps, Asc p ∧ p.length ≤ 10000) → ys.length + ps.length ≤ 50000 →
    (∃ hs : List HD, ps = hs.map (fun h => txt h.1 h.2) ∧ (∀ h ∈ hs, HandOf (txt h.1 h.2) h.1 h.2) ∧ compXD [.own, .acc] 1 (gNameF 0) trueT Gen.e_read_hands_1 (ps.map fun p => .str (S p)) [none, some (.ol ys)] = some (.v [none, some (.ol (ys ++ hs.map HD.d))]))
    ∨ ((∃ p ∈ ps, ∀ a gs, ¬ HandOf p a gs) ∧ compXD [.own, .acc] 1 (gNameF 0) trueT Gen.e_read_hands_1 (ps.map fun p => .str (S p)) [none, some (.ol ys)] = some (.x NH))
  | [], ys, _, _ => .inl ⟨[], rfl, fun _ h => (nomatch h), by simp⟩
  | p :: ps, ys, h, hl => by
    rw [List.length_cons] at hl
    have hp := h p List.mem_cons_self
    rw [List.map_cons]
    rcases readStep p hp.1 hp.2 (ps.map fun p => .str (S p)) ys (by omega) with ⟨hd, h1, e1⟩ | ⟨h1, e1⟩
    · rcases readAllH ps (ys ++ [hd.d]) (fun q hq => h q (List.mem_cons_of_mem _ hq)) (by rw [List.length_append]; simp; omega) with ⟨hs, e2, h2, e3⟩ | ⟨⟨q, hq, h2⟩, e3⟩
      · refine .inl ⟨hd :: hs, ?_, ?_, ?_⟩
        · rw [List.map_cons, ← e2, ← h1.is]
        · intro z hz
          rcases List.mem_cons.mp hz with e | e
          · rw [e, ← h1.is]; exact h1
          · exact h2 z e
        · rw [e1, e3]; simp
      · exact .inr ⟨⟨q, List.mem_cons_of_mem _ hq, h2⟩, by rw [e1, e3]⟩
    · exact .inr ⟨⟨p, List.mem_cons_self, h1⟩, e1⟩
theorem split_am (ps : List (List Nat)) (h : Fits am ps) : Txt.split (S (jl am ps)) AM = ps.map S :=
  split_fits _ AM (by decide +kernel) am_k ps (by rw [am_l]; exact h) (by rw [am_l, S_list])
theorem part_am (p q : List Nat) (r : List (List Nat)) (h : Fits am (p :: q :: r)) : Txt.partition (S (jl am (p :: q :: r))) AM = (S p, AM, S (jl am (q :: r))) := by
  have := part_some AM (by decide +kernel) p q r (by rw [am_l]; exact h)
  rwa [am_l] at this
theorem part_am0 (p : List Nat) (h : Fits am [p]) : Txt.partition (S p) AM = (S p, Str.empty, Str.empty) :=
  part_none _ _ (by decide +kernel) (by rw [am_l, S_list]; exact h)
noncomputable def Good (n : Nat) (ps : List (List Nat)) : Prop := ps.length ≤ n ∧ ∀ p ∈ ps, ∃ a gs, HandOf p a gs
theorem readHands (ps : List (List Nat)) (f : Fits am ps) (ha : Asc (jl am ps)) (hl : (jl am ps).length ≤ 10000) (hn : ps.length ≤ 10001) :
    (∃ hs : List HD, Good 6 ps ∧ ps = hs.map (fun h => txt h.1 h.2) ∧ (∀ h ∈ hs, HandOf (txt h.1 h.2) h.1 h.2) ∧ Gen.h_read_hands [.str (S (jl am ps))] = some (.v (.ol (hs.map HD.d))))
    ∨ (¬ Good 6 ps ∧ Gen.h_read_hands [.str (S (jl am ps))] = some (.x NH)) := by
  have sp := split_am ps f
  have hall : ∀ v ∈ ps, Asc v ∧ v.length ≤ 10000 := fun v hv => ⟨fun c hc => ha c (jl_mem hv c hc), by have := jl_len (y := am) hv; omega⟩
  have el := S_len (jl am ps)
  generalize jl am ps = x at *
  have z1 : x.length ≤ PySem.sizeLine := line_of (by omega)
  have z2 : ps.length ≤ PySem.sizeLine := line_of (by omega)
  have ab := am_ne
  have sm := smap ps
  have ln : (ps.map S).length = ps.length := List.length_map ..
  have rd := readAllH ps [] hall (by simp; omega)
  generalize hSS : ps.map S = SS at *
  generalize hY : (ps.map fun p => D.str (S p)) = Y at *
  have zz : SS.length ≤ PySem.sizeLine := by rw [ln]; exact z2
  have ly : Y.length = SS.length := by rw [← sm, List.length_map]
  by_cases h6 : ps.length ≤ 6
  · have n6 : ¬ (6 : Int) < (SS.length : Int) := by rw [ln]; omega
    have n6' : ¬ 6 < SS.length := by rw [ln]; omega
    rcases rd with ⟨hs, e1, e2, e3⟩ | ⟨e1, e3⟩
    · refine .inl ⟨hs, ⟨h6, fun p hp => ?_⟩, e1, e2, ?_⟩
      · rw [e1] at hp
        obtain ⟨h, hh, rfl⟩ := List.mem_map.mp hp
        exact ⟨_, _, e2 h hh⟩
      · rw [List.nil_append] at e3
        generalize hs.map HD.d = R at *
        unfold Gen.h_read_hands Gen.f_read_hands
        simp [-compXD, -List.map_map, sp, ab, z1, zz, el, sm, n6, n6', ly, e3]
    · refine .inr ⟨fun g => ?_, ?_⟩
      · obtain ⟨p, hp, h⟩ := e1
        obtain ⟨a, gs, z⟩ := g.2 p hp
        exact h a gs z
      · unfold Gen.h_read_hands Gen.f_read_hands
        simp [-compXD, -List.map_map, sp, ab, z1, zz, el, sm, n6, n6', ly, e3]
  · have n6 : (6 : Int) < (SS.length : Int) := by rw [ln]; omega
    have n6' : 6 < SS.length := by rw [ln]; omega
    refine .inr ⟨fun g => h6 g.1, ?_⟩
    unfold Gen.h_read_hands Gen.f_read_hands
    simp [-compXD, -List.map_map, sp, ab, z1, zz, el, sm, n6, n6', ly]
/-! the law's own reading of hands -/
noncomputable abbrev dst (x0 : Option SV) (l : List Nat) (x2 x3 x4 : Option SV) : DSt := [x0, some (.fz (.str (S l))), x2, x3, x4]
theorem em_am : ¬ AM = Str.ofString "" := by decide +kernel
theorem dueOne (x0 x2 x3 x4 : Option SV) (p : List Nat) (ha : Asc p) (hl : p.length ≤ 10000) (f : Fits am [p]) :
    ∃ b : Bool, (b = true ↔ ∃ a gs, HandOf p a gs) ∧ Gen.b_law_due_1 (dst x0 p x2 x3 x4) = some (.rt (.fz (.bl b))) := by
  have pt := part_am0 p f
  have el := S_len p
  have z1 : p.length ≤ PySem.sizeLine := line_of (by omega)
  have ab := am_ne
  have he : Str.ofString "" = Str.empty := rfl
  rcases isHand p ha hl with ⟨h, e⟩ | ⟨h, e⟩
  · refine ⟨true, ⟨fun _ => h, fun _ => rfl⟩, ?_⟩
    unfold Gen.b_law_due_1
    simp [pt, el, z1, ab, e, he]
  · refine ⟨false, ⟨fun z => (nomatch z), fun ⟨a, gs, z⟩ => (h a gs z).elim⟩, ?_⟩
    unfold Gen.b_law_due_1
    simp [pt, el, z1, ab, e, he]
theorem dueTwo (x0 x2 x3 x4 : Option SV) (p q : List Nat) (r : List (List Nat)) (ha : Asc (jl am (p :: q :: r))) (hl : (jl am (p :: q :: r)).length ≤ 10000) (f : Fits am (p :: q :: r)) :
    ((∃ a gs, HandOf p a gs) ∧ ∃ y3 y4, Gen.b_law_due_1 (dst x0 (jl am (p :: q :: r)) x2 x3 x4) = some (.nx (dst x0 (jl am (q :: r)) x2 y3 y4)))
    ∨ ((∀ a gs, ¬ HandOf p a gs) ∧ Gen.b_law_due_1 (dst x0 (jl am (p :: q :: r)) x2 x3 x4) = some (.rt (.fz (.bl false)))) := by
  have pt := part_am p q r f
  have el := S_len (jl am (p :: q :: r))
  have hp : Asc p := fun c hc => ha c (jl_mem (List.mem_cons_self) c hc)
  have hpl : p.length ≤ 10000 := by
    have := jl_len (y := am) (ps := p :: q :: r) (p := p) List.mem_cons_self
    omega
  unfold dst
  generalize jl am (p :: q :: r) = x at *
  generalize jl am (q :: r) = y at *
  have z1 : x.length ≤ PySem.sizeLine := line_of (by omega)
  have ab := am_ne
  have ea := em_am
  rcases isHand p hp hpl with ⟨h, e⟩ | ⟨h, e⟩
  · refine .inl ⟨h, some (.fz (.str (S p))), some (.fz (.str AM)), ?_⟩
    unfold Gen.b_law_due_1
    simp [pt, el, z1, ab, e, ea]
  · refine .inr ⟨h, ?_⟩
    unfold Gen.b_law_due_1
    simp [pt, el, z1, ab, e, ea]
theorem dueLoop (x0 : Option SV) : ∀ (ds : List D) (ps : List (List Nat)) (x2 x3 x4 : Option SV), Fits am ps → Asc (jl am ps) → (jl am ps).length ≤ 10000 →
    (Good ds.length ps ∧ forD (gNameF 2) Gen.b_law_due_1 ds (dst x0 (jl am ps) x2 x3 x4) = some (.rt (.fz (.bl true))))
    ∨ (¬ Good ds.length ps ∧ (forD (gNameF 2) Gen.b_law_due_1 ds (dst x0 (jl am ps) x2 x3 x4) = some (.rt (.fz (.bl false))) ∨ ∃ l y2 y3 y4, forD (gNameF 2) Gen.b_law_due_1 ds (dst x0 (jl am ps) x2 x3 x4) = some (.nx (dst x0 l y2 y3 y4))))
  | [], ps, x2, x3, x4, f, _, _ => .inr ⟨fun g => by
      have := g.1
      cases ps with
      | nil => exact f
      | cons p r => simp at this, .inr ⟨_, _, _, _, rfl⟩⟩
  | d :: ds, [], _, _, _, f, _, _ => f.elim
  | d :: ds, [p], x2, x3, x4, f, ha, hl => by
    obtain ⟨b, hb, e⟩ := dueOne x0 (some (.fz d)) x3 x4 p ha hl f
    have e2 := forD_rt (tg := gNameF 2) (ds := ds) (d := d) (δ := dst x0 p x2 x3 x4) rfl e
    cases b with
    | true =>
      refine .inl ⟨⟨by simp, fun q hq => ?_⟩, e2⟩
      rw [List.mem_singleton.mp hq]; exact hb.mp rfl
    | false =>
      refine .inr ⟨fun g => ?_, .inl e2⟩
      have := hb.mpr (g.2 p List.mem_cons_self)
      cases this
  | d :: ds, p :: q :: r, x2, x3, x4, f, ha, hl => by
    rcases dueTwo x0 (some (.fz d)) x3 x4 p q r ha hl f with ⟨h, y3, y4, e⟩ | ⟨h, e⟩
    · have e2 := forD_nx (tg := gNameF 2) (ds := ds) (d := d) (δ := dst x0 (jl am (p :: q :: r)) x2 x3 x4) rfl e
      have ha2 : Asc (jl am (q :: r)) := fun c hc => ha c (by rw [jl_cons2]; exact List.mem_append_right _ hc)
      have hl2 : (jl am (q :: r)).length ≤ 10000 := by rw [jl_cons2, List.length_append] at hl; omega
      rw [e2]
      rcases dueLoop x0 ds (q :: r) (some (.fz d)) y3 y4 f.2 ha2 hl2 with ⟨g, e3⟩ | ⟨g, e3⟩
      · refine .inl ⟨⟨by have := g.1; simp at this ⊢; omega, fun z hz => ?_⟩, e3⟩
        rcases List.mem_cons.mp hz with y | y
        · rw [y]; exact h
        · exact g.2 z y
      · refine .inr ⟨fun g2 => g ⟨by have := g2.1; simp at this ⊢; omega, fun z hz => g2.2 z (List.mem_cons_of_mem _ hz)⟩, e3⟩
    · have e2 := forD_rt (tg := gNameF 2) (ds := ds) (d := d) (δ := dst x0 (jl am (p :: q :: r)) x2 x3 x4) rfl e
      refine .inr ⟨fun g => ?_, .inl e2⟩
      obtain ⟨a, gs, z⟩ := g.2 p List.mem_cons_self
      exact h a gs z
theorem rng6 : rngP 6 := rngP_of (by decide) (by decide)
theorem due (ps : List (List Nat)) (f : Fits am ps) (ha : Asc (jl am ps)) (hl : (jl am ps).length ≤ 10000) :
    ∃ b : Bool, (b = true ↔ Good 6 ps) ∧ Gen.g_law_due [.str (S (jl am ps))] = some (.fz (.bl b)) := by
  have L := dueLoop (some (.fz (.str (S (jl am ps))))) (intsD 0 6) ps none none none f ha hl
  have hn : (intsD 0 6).length = 6 := ints_len 6
  have h6 := rng6
  rw [hn] at L
  unfold dst at L
  generalize jl am ps = x at *
  rcases L with ⟨g, e⟩ | ⟨g, e | ⟨l, y2, y3, y4, e⟩⟩
  · refine ⟨true, ⟨fun _ => g, fun _ => rfl⟩, ?_⟩
    unfold Gen.g_law_due Gen.f_law_due
    simp [-forD, h6, e]
  · refine ⟨false, ⟨fun z => (nomatch z), fun z => (g z).elim⟩, ?_⟩
    unfold Gen.g_law_due Gen.f_law_due
    simp [-forD, h6, e]
  · refine ⟨false, ⟨fun z => (nomatch z), fun z => (g z).elim⟩, ?_⟩
    unfold Gen.g_law_due Gen.f_law_due
    simp [-forD, h6, e]
/-! show_hand, show_hands -/
theorem join_S (y : Str) (ps : List (List Nat)) : Str.join y (ps.map S) = S (jl y.cps.toList ps) := by
  rw [S_of (Str.join y (ps.map S)), join_list, List.map_map]
  congr 2
  have : ps.map ((fun p : Str => p.cps.toList) ∘ S) = ps.map id := List.map_congr_left fun p _ => S_list p
  rw [this, List.map_id]
theorem jl_bound {y : List Nat} {B : Nat} : ∀ ps : List (List Nat), (∀ p ∈ ps, p.length ≤ B) → (jl y ps).length ≤ ps.length * (B + y.length)
  | [], _ => Nat.zero_le _
  | [p], h => by
    have := h p List.mem_cons_self
    show p.length ≤ 1 * _
    omega
  | p :: q :: r, h => by
    have h1 := h p List.mem_cons_self
    have h2 := jl_bound (y := y) (q :: r) fun z hz => h z (List.mem_cons_of_mem _ hz)
    rw [jl_cons2, List.length_append, List.length_append]
    rw [List.length_cons] at h2 ⊢
    rw [List.length_cons, Nat.add_mul, Nat.one_mul]
    omega
theorem gs_len {h : HD} (H : HandOf (txt h.1 h.2) h.1 h.2) : (jl [32] h.2).length ≤ 64 := by
  have := jl_bound (y := [32]) (B := 15) h.2 fun p hp => (wd_len (List.all_eq_true.mp H.giv p hp)).2
  have := H.few
  simp at *
  omega
theorem txt_len {h : HD} (H : HandOf (txt h.1 h.2) h.1 h.2) : (txt h.1 h.2).length ≤ 100 := by
  have h1 := gs_len H
  have h2 := (wd_len H.fam).2
  unfold txt
  split
  · omega
  · rw [List.length_append, List.length_append]; simp; omega
theorem showHand (h : HD) (H : HandOf (txt h.1 h.2) h.1 h.2) : Gen.g_show_hand [h.d] = some (.fz (.str (S (txt h.1 h.2)))) := by
  obtain ⟨a, gs⟩ := h
  have h1 := gs_len H
  have h2 := (wd_len H.fam).2
  have h3 := H.few
  have sm := smap gs
  have s1 := strs_map (gs.map S)
  rw [sm] at s1
  have j1 := joinOk (sep := BL) (xs := gs.map S) (B := 15) (fun x hx => by
    obtain ⟨g, hg, rfl⟩ := List.mem_map.mp hx
    rw [S_len]
    exact (wd_len (List.all_eq_true.mp H.giv g hg)).2) (by rw [List.length_map, show BL.length = 1 by decide +kernel]; simp at h3; omega)
  have jt := (tjoin BL (gs.map S)).trans (join_S BL gs)
  rw [bl_l] at jt
  have ec : CO = S co := by decide +kernel
  have lc : CO.length = 2 := by decide +kernel
  have z1 : (S a).length + CO.length ≤ PySem.sizeLine := line_of (by rw [lc, S_len]; simp at h2; omega)
  have z2 : (S a ++ CO).length + (S (jl [32] gs)).length ≤ PySem.sizeLine := line_of (by rw [app_len, lc, S_len, S_len]; simp at h1 h2; omega)
  have ef : S a ++ CO ++ S (jl [32] gs) = S (a ++ co ++ jl [32] gs) := by rw [ec, S_app, S_app]
  unfold Gen.g_show_hand Gen.f_show_hand HD.d handD
  show _ = some (SV.fz (D.str (S (txt a gs))))
  unfold txt
  have hl0 : (gs.map fun g => D.str (S g)).length = gs.length := List.length_map ..
  by_cases h0 : gs = []
  · subst h0; simp [L2.atI, L2.ixN]
  · have h0' : ¬ gs.length = 0 := fun e => h0 (List.length_eq_zero_iff.mp e)
    rw [if_neg h0, ← ef]
    generalize (gs.map fun g => D.str (S g)) = G at *
    have hG : ¬ G = [] := fun e => h0' (by rw [← hl0, e]; rfl)
    have hG2 : ¬ (G.length : Int) = 0 := by rw [hl0]; omega
    generalize gs.map S = SS at *
    generalize S (jl [32] gs) = J at *
    simp [L2.atI, L2.ixN, hG, hG2, s1, j1, jt, z1, z2]
noncomputable def showD (d : D) : D := match Gen.g_show_hand [d] with
  | some (.fz x) => x
  | _ => d
theorem showHands (hs : List HD) (hl : hs.length ≤ 6) (H : ∀ h ∈ hs, HandOf (txt h.1 h.2) h.1 h.2) : Gen.g_show_hands [.lst (hs.map HD.d)] = some (.fz (.str (S (jl am (hs.map fun h => txt h.1 h.2))))) := by
  have c := comp_own (te := Gen.e_show_hands_1) (f := showD) (hs.map HD.d) [] (fun x hx zs => by
    obtain ⟨h, hh, rfl⟩ := List.mem_map.mp hx
    have e := showHand h (H h hh)
    have e2 : showD h.d = .str (S (txt h.1 h.2)) := by unfold showD; rw [e]
    generalize HD.d h = dd at *
    unfold Gen.e_show_hands_1
    rw [e2]
    simp [e]) (by simp; omega)
  have em : (hs.map HD.d).map showD = ((hs.map fun h => txt h.1 h.2).map S).map D.str := by
    rw [List.map_map, List.map_map, List.map_map]
    refine List.map_congr_left fun h hh => ?_
    show showD h.d = .str (S (txt h.1 h.2))
    unfold showD
    rw [showHand h (H h hh)]
  rw [em, List.nil_append] at c
  have jt := (tjoin AM ((hs.map fun h => txt h.1 h.2).map S)).trans (join_S AM _)
  rw [am_l] at jt
  have hb : ∀ x ∈ (hs.map fun h => txt h.1 h.2).map S, x.length ≤ 100 := fun x hx => by
    obtain ⟨t, ht, rfl⟩ := List.mem_map.mp hx
    obtain ⟨h, hh, rfl⟩ := List.mem_map.mp ht
    rw [S_len]
    exact txt_len (H h hh)
  have hn : ((hs.map fun h => txt h.1 h.2).map S).length = hs.length := by rw [List.length_map, List.length_map]
  generalize (hs.map fun h => txt h.1 h.2).map S = ts at *
  have j := joinOk (sep := AM) hb (by rw [show AM.length = 3 by decide +kernel]; omega)
  have s1 := strs_map ts
  generalize hs.map HD.d = Y at *
  unfold Gen.g_show_hands Gen.f_show_hands
  simp [-compD, c, s1, j, jt]
end My

/-! what the law hands in: numbers, words, rows of pieces -/
namespace My
open DL PySem
/-! _law_numbers, in two ways -/
noncomputable def Num (x : Int) : Prop := 0 ≤ x ∧ x < 2147483647
theorem num_of {m : Int} (h : 0 < m ∧ m ≤ 2147483647) (x : Int) : Num (x % m) := ⟨Int.emod_nonneg _ (by omega), Int.lt_of_lt_of_le (Int.emod_lt_of_pos _ h.1) h.2⟩
theorem numbers_loop1 (a b : Option SV) : ∀ (n s : Nat) (ms : List Int) (x : Int) (y : Option SV), (∀ m ∈ ms, Num m) → ms.length + n ≤ 1000 →
    ∃ (ms' : List Int) (x' : Int) (y' : Option SV), forD (gNameF 4) Gen.b_law_numbers_1 (nats s n) [a, b, some (.ol (ms.map D.int)), some (.fz (.int x)), y] = some (.nx [a, b, some (.ol (ms'.map D.int)), some (.fz (.int x')), y']) ∧ (∀ m ∈ ms', Num m) ∧ ms'.length = ms.length + n
  | 0, s, ms, x, y, h, _ => ⟨ms, x, y, rfl, h, rfl⟩
  | n + 1, s, ms, x, y, h, hl => by
    have z : ms.length < PySem.sizeLine := line_lt (by omega)
    have hb : Gen.b_law_numbers_1 [a, b, some (.ol (ms.map D.int)), some (.fz (.int x)), some (.fz (.int (s : Int)))] = some (.nx [a, b, some (.ol ((ms ++ [x % 5040]).map D.int)), some (.fz (.int (x / 5040))), some (.fz (.int (s : Int)))]) := by
      unfold Gen.b_law_numbers_1
      simp [z]
    obtain ⟨ms', x', y', e, h1, h2⟩ := numbers_loop1 a b n (s + 1) (ms ++ [x % 5040]) (x / 5040) (some (.fz (.int (s : Int)))) (fun m hm => by
      rcases List.mem_append.mp hm with hm | hm
      · exact h m hm
      · rw [List.mem_singleton.mp hm]; exact num_of (by decide) _) (by rw [List.length_append, List.length_singleton]; omega)
    refine ⟨ms', x', y', (forD_nx (ds := nats (s + 1) n) (by simp) hb).trans e, h1, by rw [h2, List.length_append, List.length_singleton]; omega⟩
theorem numbers_loop2 (a b : Option SV) : ∀ (n s : Nat) (ms : List Int) (x : Int) (y : Option SV), (∀ m ∈ ms, Num m) → ms.length + n ≤ 1000 →
    ∃ (ms' : List Int) (x' : Int) (y' : Option SV), forD (gNameF 4) Gen.b_law_numbers_2 (nats s n) [a, b, some (.ol (ms.map D.int)), some (.fz (.int x)), y] = some (.nx [a, b, some (.ol (ms'.map D.int)), some (.fz (.int x')), y']) ∧ (∀ m ∈ ms', Num m) ∧ ms'.length = ms.length + n
  | 0, s, ms, x, y, h, _ => ⟨ms, x, y, rfl, h, rfl⟩
  | n + 1, s, ms, x, y, h, hl => by
    have z : ms.length < PySem.sizeLine := line_lt (by omega)
    have hb : Gen.b_law_numbers_2 [a, b, some (.ol (ms.map D.int)), some (.fz (.int x)), some (.fz (.int (s : Int)))] = some (.nx [a, b, some (.ol ((ms ++ [(x + (s : Int) + 1) * 48271 % 2147483647 * 69621 % 2147483629]).map D.int)), some (.fz (.int ((x + (s : Int) + 1) * 48271 % 2147483647))), some (.fz (.int (s : Int)))]) := by
      have hm := mulI_r (i := x + (s : Int) + 1) (j := 48271) (by omega)
      have hm2 := mulI_r (i := (x + (s : Int) + 1) * 48271 % 2147483647) (j := 69621) (by omega)
      unfold Gen.b_law_numbers_2
      simp [hm, hm2, z]
    obtain ⟨ms', x', y', e, h1, h2⟩ := numbers_loop2 a b n (s + 1) (ms ++ [(x + (s : Int) + 1) * 48271 % 2147483647 * 69621 % 2147483629]) ((x + (s : Int) + 1) * 48271 % 2147483647) (some (.fz (.int (s : Int)))) (fun m hm => by
      rcases List.mem_append.mp hm with hm | hm
      · exact h m hm
      · rw [List.mem_singleton.mp hm]; exact num_of (by decide) _) (by rw [List.length_append, List.length_singleton]; omega)
    refine ⟨ms', x', y', (forD_nx (ds := nats (s + 1) n) (by simp) hb).trans e, h1, by rw [h2, List.length_append, List.length_singleton]; omega⟩
theorem numbers_ok (c : Int) (n : Nat) (h : n ≤ 1000) : ∃ ms : List Int, Gen.g_law_numbers [.int c, .int (n : Int)] = some (.ol (ms.map D.int)) ∧ (∀ m ∈ ms, Num m) ∧ ms.length = n := by
  have g1 : rngP (n : Int) := rngP_nat (by omega)
  have et : ((n : Int)).toNat = n := by omega
  by_cases hc : c % 2 = 1
  · obtain ⟨ms, x', y', e, h1, h2⟩ := numbers_loop1 (some (.fz (.int c))) (some (.fz (.int (n : Int)))) n 0 [] (c / 2) none (fun _ h => nomatch h) (by simpa using h)
    refine ⟨ms, ?_, h1, by simpa using h2⟩
    simp only [List.map_nil] at e
    unfold Gen.g_law_numbers Gen.f_law_numbers
    simp [-forD, g1, et, ints_nats, e, hc]
  · obtain ⟨ms, x', y', e, h1, h2⟩ := numbers_loop2 (some (.fz (.int c))) (some (.fz (.int (n : Int)))) n 0 [] (c / 2 % 2147483647) none (fun _ h => nomatch h) (by simpa using h)
    refine ⟨ms, ?_, h1, by simpa using h2⟩
    simp only [List.map_nil] at e
    unfold Gen.g_law_numbers Gen.f_law_numbers
    simp [-forD, g1, et, ints_nats, e, hc]
theorem asc_app {a b : List Nat} (h1 : Asc a) (h2 : Asc b) : Asc (a ++ b) := fun c hc => (List.mem_append.mp hc).elim (h1 c) (h2 c)
theorem let_asc : ∀ c ∈ LET.cps.toList, c < 128 := by decide +kernel
noncomputable abbrev wst (n : Int) (w : List Nat) (x : Option SV) : DSt := [some (.fz (.int n)), some (.fz (.str LET)), some (.fz (.str (S w))), x]
theorem wturn (n : Int) (w : List Nat) (x : Option SV) (hw : w.length + 1 ≤ PySem.sizeLine) : ∃ n' c, c < 128 ∧ Gen.b_law_word_1 (wst n w x) = some (.nx (wst n' (w ++ [c]) x)) := by
  obtain ⟨c, hc, hm0⟩ := letter ((n * 48271 + 11) % 2147483647 / 8)
  refine ⟨(n * 48271 + 11) % 2147483647, c, let_asc c hm0, ?_⟩
  have hm := mulI_r (i := n) (j := 48271) (by omega)
  have el := S_len w
  have ea : S w ++ (⟨#[c]⟩ : Str) = S (w ++ [c]) := S_app w [c]
  unfold wst
  rw [← ea]
  unfold Gen.b_law_word_1
  simp [hc, hm, let_size, one_len, hw, el]
theorem wloop : ∀ (ds : List D) (n : Int) (w : List Nat) (x : Option SV), w.length + ds.length ≤ 1000 → Asc w → ∃ n' w' x', forD (gNameF 3) Gen.b_law_word_1 ds (wst n w x) = some (.nx (wst n' w' x')) ∧ w'.length = w.length + ds.length ∧ Asc w'
  | [], n, w, x, _, h => ⟨n, w, x, rfl, rfl, h⟩
  | d :: ds, n, w, x, h, ha => by
    rw [List.length_cons] at h
    obtain ⟨n1, c, hc, e1⟩ := wturn n w (some (.fz d)) (line_of (by omega))
    obtain ⟨n2, w2, x2, e2, l2, h2⟩ := wloop ds n1 (w ++ [c]) (some (.fz d)) (by rw [List.length_append, List.length_singleton]; omega) (asc_app ha fun k hk => by rw [List.mem_singleton.mp hk]; exact hc)
    refine ⟨n2, w2, x2, (forD_nx (δ1 := wst n w (some (.fz d))) rfl e1).trans e2, ?_, h2⟩
    rw [l2, List.length_append, List.length_singleton, List.length_cons]; omega
theorem word (n : Int) : ∃ w : List Nat, Gen.g_law_word [.int n] = some (.fz (.str (S w))) ∧ Asc w ∧ w.length ≤ 16 := by
  have a0 : 0 ≤ n % 4 := Int.emod_nonneg _ (by decide)
  have a1 : n % 4 < 4 := Int.emod_lt_of_pos _ (by decide)
  have hr : ∃ r : Int, 0 ≤ r ∧ r ≤ 15 ∧ (L2.atI [D.int (n % 4), D.int (n % 4), D.int (n % 4), D.int (12 + n % 4)] (n / 16 % 4)) = some (.int r) := by
    have : n / 16 % 4 = 0 ∨ n / 16 % 4 = 1 ∨ n / 16 % 4 = 2 ∨ n / 16 % 4 = 3 := by omega
    rcases this with e | e | e | e
    · rw [e]; exact ⟨n % 4, a0, by omega, rfl⟩
    · rw [e]; exact ⟨n % 4, a0, by omega, rfl⟩
    · rw [e]; exact ⟨n % 4, a0, by omega, rfl⟩
    · rw [e]; exact ⟨12 + n % 4, by omega, by omega, rfl⟩
  obtain ⟨r, r0, r1, hr⟩ := hr
  have hlen : (intsD 0 (1 + r).toNat).length = (1 + r).toNat := ints_len _
  obtain ⟨n2, w2, x2, e2, l2, h2⟩ := wloop (intsD 0 (1 + r).toNat) n [] none (by rw [hlen]; simp; omega) (fun c hc => nomatch hc)
  refine ⟨w2, ?_, h2, by rw [l2, hlen]; simp; omega⟩
  have hb : rngP (1 + r) := rngP_of (by omega) (by omega)
  have he : Str.ofString "" = S [] := rfl
  have s4 : (4 : Nat) ≤ PySem.sizeLine := by decide
  unfold wst at e2
  unfold Gen.g_law_word Gen.f_law_word
  simp [-forD, hr, hb, he, e2, s4]
end My

/-! rows of pieces; texts spoiled -/
namespace My
open DL PySem
noncomputable def Plain (B : Nat) (d : D) : Prop := ∃ l : List Nat, d = .str (S l) ∧ Asc l ∧ l.length ≤ B
theorem slice_sub (l : List Nat) (lo hi : Option Int) (ha : Asc l) : ∃ l', Txt.slice (S l) lo hi = S l' ∧ Asc l' ∧ l'.length ≤ l.length := by
  unfold Txt.slice
  split
  · exact ⟨l, rfl, ha, Nat.le_refl _⟩
  · refine ⟨_, rfl, fun c hc => ?_, ?_⟩
    · obtain ⟨i, _, e⟩ := List.mem_filterMap.mp hc
      refine ha c ?_
      have e : (S l).cps[i]? = some c := e
      have := Array.mem_of_getElem? e
      simpa using this
    · refine Nat.le_trans (List.length_filterMap_le _ _) ?_
      rw [S_len, Builtin.Str.strSliceIndices.eq_1]
      refine sliceRange_length_le _ _ _ _ (fun _ => ⟨?_, ?_⟩) (fun z => absurd (by decide) z)
      · cases lo with
        | none => simp
        | some i => simp only []; rw [if_pos (by decide)]; omega
      · cases hi with
        | none => simp
        | some i => simp only []; rw [if_pos (by decide)]; omega
noncomputable abbrev X15 : Str := "xxxxxxxxxxxxxxx"
noncomputable abbrev Y16 : Str := "yyyyyyyyyyyyyyyy"
theorem mulx : mulS (Str.ofString "x") 15 = some (.fz (.str X15)) := by
  rw [mulS_ok (by unfold MulOk; decide +kernel)]
  have : Txt.mul (Str.ofString "x") 15 = X15 := by decide +kernel
  rw [this]
theorem muly : mulS (Str.ofString "y") 16 = some (.fz (.str Y16)) := by
  rw [mulS_ok (by unfold MulOk; decide +kernel)]
  have : Txt.mul (Str.ofString "y") 16 = Y16 := by decide +kernel
  rw [this]
noncomputable abbrev MENU : List Str := ["A", "bo", "Lee", X15, Y16, "Ann", " ", ", ", " & ", "&", ",", ".", "9", "-"]
theorem menu_ok : ∀ s ∈ MENU, (∀ c ∈ s.cps.toList, c < 128) ∧ s.length ≤ 16 := by decide +kernel
theorem cat_plain {B : Nat} : ∀ ts : List Str, (∀ t ∈ ts, ∃ l, t = S l ∧ Asc l ∧ l.length ≤ B) → ∃ l, cat ts = S l ∧ Asc l ∧ l.length ≤ ts.length * B
  | [], _ => ⟨[], rfl, (fun _ h => nomatch h), Nat.zero_le _⟩
  | t :: ts, h => by
    obtain ⟨l1, e1, a1, b1⟩ := h t List.mem_cons_self
    obtain ⟨l2, e2, a2, b2⟩ := cat_plain ts fun x hx => h x (List.mem_cons_of_mem _ hx)
    refine ⟨l1 ++ l2, ?_, asc_app a1 a2, ?_⟩
    · show t ++ cat ts = _
      rw [e1, e2, S_app]
    · rw [List.length_append, List.length_cons, Nat.add_mul, Nat.one_mul]; omega
noncomputable abbrev fst' (ms : List Int) (zs : List D) : DSt := [none, some (.fz (.lst (MENU.map D.str))), some (.fz (.lst (ms.map D.int))), some (.ol zs)]
theorem fturn (ms : List Int) (hl : ms.length = 46) (k : Nat) (hk : k < 25) (zs ds : List D) (hz : zs.length < PySem.sizeLine) :
    ∃ v, Plain 16 v ∧ compD [.own, .cap 1, .cap 0, .acc] 3 (gNameF 0) trueT Gen.e_law_free_1 (.int (k : Int) :: ds) (fst' ms zs) = compD [.own, .cap 1, .cap 0, .acc] 3 (gNameF 0) trueT Gen.e_law_free_1 ds (fst' ms (zs ++ [v])) := by
  have e1 : L2.atI (ms.map D.int) (1 + (k : Int)) = some (.int ms[1 + k]) := by
    have := at_nat (ms.map D.int) (1 + k) (.int ms[1 + k]) (by simp)
    rwa [show ((1 + k : Nat) : Int) = 1 + (k : Int) by omega] at this
  obtain ⟨v, hv, e2⟩ := at_mod (MENU.map D.str) ms[1 + k] 14 rfl (by decide)
  obtain ⟨s, hs, rfl⟩ := List.mem_map.mp hv
  refine ⟨.str s, ⟨s.cps.toList, by rw [← S_of], (menu_ok s hs).1, by rw [len_list]; exact (menu_ok s hs).2⟩, ?_⟩
  unfold fst'
  generalize ms.map D.int = M at *
  generalize MENU.map D.str = N at *
  rw [compD]
  unfold Gen.e_law_free_1
  simp [-compD, e1, e2, hz]
theorem free (ms : List Int) (hn : ∀ m ∈ ms, Num m) (hl : ms.length = 46) : ∃ l, Gen.g_law_free [.lst (ms.map D.int)] = some (.fz (.str (S l))) ∧ Asc l ∧ l.length ≤ 400 := by
  have e0 : L2.atI (ms.map D.int) 0 = some (.int ms[0]) := at_nat (ms.map D.int) 0 (.int ms[0]) (by simp)
  have r0 : 0 ≤ ms[0] % 25 := Int.emod_nonneg _ (by decide)
  have r1 : ms[0] % 25 < 25 := Int.emod_lt_of_pos _ (by decide)
  have hb : rngP (ms[0] % 25) := rngP_of r0 (by omega)
  obtain ⟨vs, e, hv, hlv⟩ := comp_ex (src := [.own, .cap 1, .cap 0, .acc]) (k := 3) (g := gNameF 0) (tt := trueT) (te := Gen.e_law_free_1) (st := fst' ms) (R := Plain 16) (intsD 0 (ms[0] % 25).toNat) [] (fun d hd zs ds hz => by
    rw [ints_map] at hd
    obtain ⟨i, hi, rfl⟩ := List.mem_map.mp hd
    obtain ⟨k, hk, rfl⟩ := List.mem_map.mp hi
    have := List.mem_range.mp hk
    rw [Int.zero_add]
    exact fturn ms hl k (by omega) zs ds hz) (by rw [ints_len]; simp; omega)
  rw [ints_len] at hlv
  rw [List.nil_append] at e
  obtain ⟨ts, rfl, ht⟩ := strs_of (P := fun s => ∃ l, s = S l ∧ Asc l ∧ l.length ≤ 16) vs fun v hv' => by
    obtain ⟨l, e, h⟩ := hv v hv'
    exact ⟨S l, e, l, rfl, h⟩
  rw [List.length_map] at hlv
  obtain ⟨l, el, al, bl⟩ := cat_plain ts ht
  refine ⟨l, ?_, al, by omega⟩
  have s1 := strs_map ts
  have j := joinOk (sep := Str.ofString "") (xs := ts) (B := 16) (fun x hx => by
    obtain ⟨l, e, _, h⟩ := ht x hx
    rw [e, S_len]; exact h) (by rw [show (Str.ofString "").length = 0 by decide +kernel]; omega)
  have jt := tjoin0 ts
  rw [el] at jt
  have mx := mulx
  have my := muly
  have hM : MENU.map D.str = [.str "A", .str "bo", .str "Lee", .str X15, .str Y16, .str "Ann", .str " ", .str ", ", .str " & ", .str "&", .str ",", .str ".", .str "9", .str "-"] := rfl
  have s14 : (14 : Nat) ≤ PySem.sizeLine := by decide
  unfold fst' at e
  rw [hM] at e
  generalize ms.map D.int = M at *
  generalize ts.map D.str = T at *
  unfold Gen.g_law_free Gen.f_law_free
  simp [-compD, mx, my, e0, hb, e, s1, j, jt, s14]
end My

/-! hands as written -/
namespace My
open DL PySem
theorem at_ms (ms : List Int) (i : Nat) (j : Int) (hi : i < ms.length) (e : (i : Int) = j) : L2.atI (ms.map D.int) j = some (.int ms[i]) := by
  subst e
  exact at_nat (ms.map D.int) i (.int ms[i]) (by simp)
noncomputable abbrev xst (M : Option SV) (W : Option SV) (k : Nat) (w : List Nat) (x : Option SV) : DSt := [M, W, some (.fz (.int (k : Int))), some (.fz (.str (S w))), x]
theorem s32 : Str.ofString " " = S [32] := by decide +kernel
theorem s44 : Str.ofString ", " = S [44, 32] := by decide +kernel
theorem tturn (ms : List Int) (W : Option SV) (hl : ms.length = 46) (k : Nat) (hk : k ≤ 6) (j : Nat) (w : List Nat) (aw : Asc w) (lw : w.length ≤ 500) :
    ∃ w', Asc w' ∧ w'.length ≤ w.length + 18 ∧ Gen.b_law_text_1 (xst (some (.fz (.lst (ms.map D.int)))) W k w (some (.fz (.int (j : Int))))) = some (.nx (xst (some (.fz (.lst (ms.map D.int)))) W k w' (some (.fz (.int (j : Int)))))) := by
  have e1 := at_ms ms (4 + 6 * k) (4 + 6 * (k : Int)) (by omega) (by omega)
  have m1 := mulI_l (i := 6) (j := (k : Int)) (by decide)
  have m2 := mulI_l (i := 997) (j := (j : Int)) (by decide)
  obtain ⟨v, ev, av, lv⟩ := word (ms[4 + 6 * k] + 997 * (j : Int))
  have el := S_len w
  have lb := S_len v
  have z0 : (2 : Nat) ≤ PySem.sizeLine := by decide
  by_cases hj : 0 < j
  · have hj' : (0 : Int) < (j : Int) := by omega
    refine ⟨w ++ [32] ++ v, asc_app (asc_app aw (by intro c hc; simp at hc; omega)) av, by simp; omega, ?_⟩
    have a1 : L2.atI [D.str (S [44, 32]), D.str (S [32])] 1 = some (.str (S [32])) := rfl
    have z1 : w.length + (S [32]).length ≤ PySem.sizeLine := line_of (by rw [S_len]; simp; omega)
    have z2 : (S w ++ S [32]).length + v.length ≤ PySem.sizeLine := line_of (by rw [app_len, S_len, S_len]; simp; omega)
    unfold xst
    rw [← S_app, ← S_app]
    generalize ms.map D.int = M at *
    unfold Gen.b_law_text_1
    simp only [s32, s44]
    simp [e1, m1, m2, ev, hj, hj', a1, el, lb, z0, z1, z2, s32, s44]
  · have hj' : ¬ (0 : Int) < (j : Int) := by omega
    refine ⟨w ++ [44, 32] ++ v, asc_app (asc_app aw (by intro c hc; simp at hc; omega)) av, by simp; omega, ?_⟩
    have a1 : L2.atI [D.str (S [44, 32]), D.str (S [32])] 0 = some (.str (S [44, 32])) := rfl
    have z1 : w.length + (S [44, 32]).length ≤ PySem.sizeLine := line_of (by rw [S_len]; simp; omega)
    have z2 : (S w ++ S [44, 32]).length + v.length ≤ PySem.sizeLine := line_of (by rw [app_len, S_len, S_len]; simp; omega)
    unfold xst
    rw [← S_app, ← S_app]
    generalize ms.map D.int = M at *
    unfold Gen.b_law_text_1
    simp only [s32, s44]
    simp [e1, m1, m2, ev, hj, hj', a1, el, lb, z0, z1, z2, s32, s44]
theorem tloop (ms : List Int) (W : Option SV) (hl : ms.length = 46) (k : Nat) (hk : k ≤ 6) : ∀ (n s : Nat) (w : List Nat) (x : Option SV), Asc w → w.length ≤ 16 + 18 * s → s + n ≤ 5 →
    ∃ w' x', forD (gNameF 4) Gen.b_law_text_1 (nats s n) (xst (some (.fz (.lst (ms.map D.int)))) W k w x) = some (.nx (xst (some (.fz (.lst (ms.map D.int)))) W k w' x')) ∧ Asc w' ∧ w'.length ≤ 106
  | 0, s, w, x, aw, lw, hs => ⟨w, x, rfl, aw, by omega⟩
  | n + 1, s, w, x, aw, lw, hs => by
    obtain ⟨w1, a1, l1, e1⟩ := tturn ms W hl k hk s w aw (by omega)
    obtain ⟨w2, x2, e2, a2, l2⟩ := tloop ms W hl k hk n (s + 1) w1 (some (.fz (.int (s : Int)))) a1 (by omega) (by omega)
    exact ⟨w2, x2, (forD_nx (ds := nats (s + 1) n) (δ1 := xst (some (.fz (.lst (ms.map D.int)))) W k w (some (.fz (.int (s : Int))))) (by simp) e1).trans e2, a2, l2⟩
noncomputable abbrev strsL (ls : List (List Nat)) : List D := ls.map fun l => .str (S l)
theorem oturn (ms : List Int) (hl : ms.length = 46) (k : Nat) (hk : k ≤ 6) (ls : List (List Nat)) (hz : ls.length < 1000) (x3 x4 : Option SV) :
    ∃ w y4, Asc w ∧ w.length ≤ 106 ∧ Gen.b_law_text_2 [some (.fz (.lst (ms.map D.int))), some (.ol (strsL ls)), some (.fz (.int (k : Int))), x3, x4] = some (.nx [some (.fz (.lst (ms.map D.int))), some (.ol (strsL (ls ++ [w]))), some (.fz (.int (k : Int))), some (.fz (.str (S w))), y4]) := by
  have e1 := at_ms ms (2 + 6 * k) (2 + 6 * (k : Int)) (by omega) (by omega)
  have e2 := at_ms ms (3 + 6 * k) (3 + 6 * (k : Int)) (by omega) (by omega)
  have m1 := mulI_l (i := 6) (j := (k : Int)) (by decide)
  obtain ⟨v, ev, av, lv⟩ := word ms[2 + 6 * k]
  have hr : ∃ r : Nat, r ≤ 5 ∧ (L2.atI [D.int 0, D.int 1, D.int 2, D.int 1, D.int 4, D.int 5] (ms[3 + 6 * k] % 6)) = some (.int (r : Int)) := by
    have : ms[3 + 6 * k] % 6 = 0 ∨ ms[3 + 6 * k] % 6 = 1 ∨ ms[3 + 6 * k] % 6 = 2 ∨ ms[3 + 6 * k] % 6 = 3 ∨ ms[3 + 6 * k] % 6 = 4 ∨ ms[3 + 6 * k] % 6 = 5 := by omega
    rcases this with e | e | e | e | e | e <;> rw [e]
    · exact ⟨0, by decide, rfl⟩
    · exact ⟨1, by decide, rfl⟩
    · exact ⟨2, by decide, rfl⟩
    · exact ⟨1, by decide, rfl⟩
    · exact ⟨4, by decide, rfl⟩
    · exact ⟨5, by decide, rfl⟩
  obtain ⟨r, r5, hr⟩ := hr
  have hb : rngP (r : Int) := rngP_nat (by omega)
  obtain ⟨w, y4, e, aw, lw⟩ := tloop ms (some (.ol (strsL ls))) hl k hk r 0 v x4 av (by omega) (by omega)
  refine ⟨w, y4, aw, lw, ?_⟩
  have zl : (strsL ls).length < PySem.sizeLine := line_lt (by rw [List.length_map]; omega)
  have hs : strsL (ls ++ [w]) = strsL ls ++ [.str (S w)] := by unfold strsL; rw [List.map_append]; rfl
  have s6 : (6 : Nat) ≤ PySem.sizeLine := by decide
  have et : ((r : Int)).toNat = r := by omega
  rw [hs]
  unfold xst at e
  generalize strsL ls = T at *
  generalize ms.map D.int = M at *
  unfold Gen.b_law_text_2
  simp [-forD, e1, e2, m1, ev, hr, hb, et, ints_nats, e, zl, s6]
theorem oloop (ms : List Int) (hl : ms.length = 46) : ∀ (n s : Nat) (ls : List (List Nat)) (x2 x3 x4 : Option SV), s + n ≤ 7 → ls.length = s → (∀ l ∈ ls, Asc l ∧ l.length ≤ 106) →
    ∃ ls' y2 y3 y4, forD (gNameF 2) Gen.b_law_text_2 (nats s n) [some (.fz (.lst (ms.map D.int))), some (.ol (strsL ls)), x2, x3, x4] = some (.nx [some (.fz (.lst (ms.map D.int))), some (.ol (strsL ls')), y2, y3, y4]) ∧ ls'.length = s + n ∧ (∀ l ∈ ls', Asc l ∧ l.length ≤ 106)
  | 0, s, ls, x2, x3, x4, hs, hn, h => ⟨ls, x2, x3, x4, rfl, hn, h⟩
  | n + 1, s, ls, x2, x3, x4, hs, hn, h => by
    obtain ⟨w, y4, aw, lw, e1⟩ := oturn ms hl s (by omega) ls (by omega) x3 x4
    obtain ⟨ls', z2, z3, z4, e2, hn2, h2⟩ := oloop ms hl n (s + 1) (ls ++ [w]) (some (.fz (.int (s : Int)))) (some (.fz (.str (S w)))) y4 (by omega) (by rw [List.length_append, List.length_singleton]; omega) (fun l hl => by
      rcases List.mem_append.mp hl with z | z
      · exact h l z
      · rw [List.mem_singleton.mp z]; exact ⟨aw, lw⟩)
    exact ⟨ls', z2, z3, z4, (forD_nx (ds := nats (s + 1) n) (by simp) e1).trans e2, by omega, h2⟩
theorem jl_asc {y : List Nat} (hy : Asc y) : ∀ ps : List (List Nat), (∀ p ∈ ps, Asc p) → Asc (jl y ps)
  | [], _ => fun _ h => nomatch h
  | [p], h => h p List.mem_cons_self
  | p :: q :: r, h => by
    rw [jl_cons2]
    exact asc_app (asc_app (h p List.mem_cons_self) hy) (jl_asc hy (q :: r) fun z hz => h z (List.mem_cons_of_mem _ hz))
theorem text (ms : List Int) (hn : ∀ m ∈ ms, Num m) (hl : ms.length = 46) : ∃ l, Gen.g_law_text [.lst (ms.map D.int)] = some (.fz (.str (S l))) ∧ Asc l ∧ l.length ≤ 1000 := by
  have e0 := at_ms ms 0 0 (by omega) rfl
  have e1 := at_ms ms 1 1 (by omega) rfl
  have a0 : 0 ≤ ms[0] % 2 := Int.emod_nonneg _ (by decide)
  have a1 : ms[0] % 2 < 2 := Int.emod_lt_of_pos _ (by decide)
  have b0 : 0 ≤ ms[0] % 7 := Int.emod_nonneg _ (by decide)
  have b1 : ms[0] % 7 < 7 := Int.emod_lt_of_pos _ (by decide)
  have hr : ∃ r : Nat, r ≤ 6 ∧ (L2.atI [D.int (ms[0] % 2), D.int (ms[0] % 7)] (ms[1] % 4 / 3)) = some (.int (r : Int)) := by
    have : ms[1] % 4 / 3 = 0 ∨ ms[1] % 4 / 3 = 1 := by omega
    rcases this with e | e <;> rw [e]
    · exact ⟨(ms[0] % 2).toNat, by omega, by rw [show (((ms[0] % 2).toNat : Nat) : Int) = ms[0] % 2 by omega]; rfl⟩
    · exact ⟨(ms[0] % 7).toNat, by omega, by rw [show (((ms[0] % 7).toNat : Nat) : Int) = ms[0] % 7 by omega]; rfl⟩
  obtain ⟨r, r6, hr⟩ := hr
  have hb : rngP (1 + (r : Int)) := rngP_of (by omega) (by omega)
  have et : (1 + (r : Int)).toNat = r + 1 := by omega
  obtain ⟨ls, y2, y3, y4, e, hn2, h2⟩ := oloop ms hl (r + 1) 0 [] none none none (by omega) rfl (fun _ h => nomatch h)
  have jb := jl_bound (y := am) (B := 106) ls fun p hp => (h2 p hp).2
  have lam : am.length = 3 := rfl
  have al : ls.length * (106 + am.length) ≤ 7 * 109 := by rw [lam]; exact Nat.mul_le_mul (by omega) (by omega)
  refine ⟨jl am ls, ?_, jl_asc (by intro c hc; simp at hc; omega) ls fun p hp => (h2 p hp).1, by omega⟩
  have sm := smap ls
  have s1 := strs_map (ls.map S)
  rw [sm] at s1
  have j1 := joinOk (sep := AM) (xs := ls.map S) (B := 106) (fun x hx => by
    obtain ⟨g, hg, rfl⟩ := List.mem_map.mp hx
    rw [S_len]
    exact (h2 g hg).2) (by rw [List.length_map, show AM.length = 3 by decide +kernel]; omega)
  have jt := (tjoin AM (ls.map S)).trans (join_S AM ls)
  rw [am_l] at jt
  have hs0 : strsL [] = [] := rfl
  rw [hs0] at e
  unfold strsL at e
  generalize (ls.map fun l => D.str (S l)) = T at *
  generalize ls.map S = SS at *
  generalize jl am ls = J at *
  have s2 : (2 : Nat) ≤ PySem.sizeLine := by decide
  generalize ms.map D.int = M at *
  unfold Gen.g_law_text Gen.f_law_text
  simp [-forD, e0, e1, hr, hb, et, ints_nats, e, s1, j1, jt, s2]
end My

/-! a text spoiled -/
namespace My
open DL PySem
noncomputable abbrev SG : Str := " ,&.-aZ0;\n\t"
theorem sg_len : SG.cps.toList.length = 11 := by decide +kernel
theorem sg_size : SG.length ≤ PySem.sizeLine := by decide +kernel
theorem sg_asc : ∀ c ∈ SG.cps.toList, c < 128 := by decide +kernel
theorem sign (i : Int) : ∃ c, L2.atI SG.cps.toList (i % 11) = some c ∧ c < 128 := by
  obtain ⟨c, hc, e⟩ := at_mod SG.cps.toList i 11 (by rw [sg_len]; rfl) (by decide)
  exact ⟨c, e, sg_asc c hc⟩
noncomputable def Odd (d : D) : Prop := d = .non ∨ (∃ i, d = .int i) ∨ (∃ x, d = .lst [.str x]) ∨ (∃ x, d = .tup [.str x, .tup []])
theorem asc1 {c : Nat} (h : c < 128) : Asc [c] := fun k hk => by rw [List.mem_singleton.mp hk]; exact h
section
variable (l : List Nat) (al : Asc l) (hl : l.length ≤ 1000) (n : Int)
include al hl
theorem spoiled0 (h : n / 1024 % 10 = 0) : ∃ l', Gen.g_law_spoiled [.str (S l), .int n] = some (.fz (.str (S l'))) ∧ Asc l' ∧ l'.length ≤ 5000 := by
  obtain ⟨l1, s1, a1, b1⟩ := slice_sub l none (some (n % ((l.length : Int) + 1))) al
  obtain ⟨l2, s2, a2, b2⟩ := slice_sub l (some (n % ((l.length : Int) + 1))) none al
  obtain ⟨c, hc, c1⟩ := sign (n / 64)
  refine ⟨l1 ++ [c] ++ l2, ?_, asc_app (asc_app a1 (asc1 c1)) a2, by simp; omega⟩
  have el := S_len l
  have ez : l.length ≤ PySem.sizeLine := line_of (by omega)
  have nz : ¬ ((l.length : Int) + 1 = 0) := by omega
  have z1 : (S l1).length + (⟨#[c]⟩ : Str).length ≤ PySem.sizeLine := line_of (by rw [S_len, one_len]; omega)
  have z2 : (S l1 ++ (⟨#[c]⟩ : Str)).length + (S l2).length ≤ PySem.sizeLine := line_of (by rw [app_len, S_len, one_len, S_len]; omega)
  have ea : S l1 ++ (⟨#[c]⟩ : Str) ++ S l2 = S (l1 ++ [c] ++ l2) := by rw [← S_app, ← S_app]
  rw [← ea]
  have sg := sg_size
  generalize S l1 = L1 at *
  generalize S l2 = L2 at *
  unfold Gen.g_law_spoiled Gen.f_law_spoiled
  simp [h, el, ez, nz, hc, s1, s2, z1, z2, sg]
theorem spoiled1 (h : n / 1024 % 10 = 1) : ∃ l', Gen.g_law_spoiled [.str (S l), .int n] = some (.fz (.str (S l'))) ∧ Asc l' ∧ l'.length ≤ 5000 := by
  obtain ⟨l1, s1, a1, b1⟩ := slice_sub l none (some (n % ((l.length : Int) + 1))) al
  obtain ⟨l2, s2, a2, b2⟩ := slice_sub l (some (n % ((l.length : Int) + 1) + 1)) none al
  obtain ⟨c, hc, c1⟩ := sign (n / 64)
  refine ⟨l1 ++ l2, ?_, asc_app a1 a2, by simp; omega⟩
  have el := S_len l
  have ez : l.length ≤ PySem.sizeLine := line_of (by omega)
  have nz : ¬ ((l.length : Int) + 1 = 0) := by omega
  have z1 : (S l1).length + (S l2).length ≤ PySem.sizeLine := line_of (by rw [S_len, S_len]; omega)
  rw [← S_app]
  have sg := sg_size
  generalize S l1 = L1 at *
  generalize S l2 = L2 at *
  unfold Gen.g_law_spoiled Gen.f_law_spoiled
  simp [h, el, ez, nz, hc, s1, s2, z1, sg]
theorem spoiled2 (h : n / 1024 % 10 = 2) : ∃ l', Gen.g_law_spoiled [.str (S l), .int n] = some (.fz (.str (S l'))) ∧ Asc l' ∧ l'.length ≤ 5000 := by
  obtain ⟨l1, s1, a1, b1⟩ := slice_sub l none (some (n % ((l.length : Int) + 1))) al
  obtain ⟨l2, s2, a2, b2⟩ := slice_sub l (some (n % ((l.length : Int) + 1) + 1)) none al
  obtain ⟨c, hc, c1⟩ := sign (n / 64)
  refine ⟨l1 ++ [c] ++ l2, ?_, asc_app (asc_app a1 (asc1 c1)) a2, by simp; omega⟩
  have el := S_len l
  have ez : l.length ≤ PySem.sizeLine := line_of (by omega)
  have nz : ¬ ((l.length : Int) + 1 = 0) := by omega
  have z1 : (S l1).length + (⟨#[c]⟩ : Str).length ≤ PySem.sizeLine := line_of (by rw [S_len, one_len]; omega)
  have z2 : (S l1 ++ (⟨#[c]⟩ : Str)).length + (S l2).length ≤ PySem.sizeLine := line_of (by rw [app_len, S_len, one_len, S_len]; omega)
  have ea : S l1 ++ (⟨#[c]⟩ : Str) ++ S l2 = S (l1 ++ [c] ++ l2) := by rw [← S_app, ← S_app]
  rw [← ea]
  have sg := sg_size
  generalize S l1 = L1 at *
  generalize S l2 = L2 at *
  unfold Gen.g_law_spoiled Gen.f_law_spoiled
  simp [h, el, ez, nz, hc, s1, s2, z1, z2, sg]
theorem spoiled3 (h : n / 1024 % 10 = 3) : ∃ l', Gen.g_law_spoiled [.str (S l), .int n] = some (.fz (.str (S l'))) ∧ Asc l' ∧ l'.length ≤ 5000 := by
  obtain ⟨l1, s1, a1, b1⟩ := slice_sub l none (some (n % ((l.length : Int) + 1))) al
  obtain ⟨l2, s2, a2, b2⟩ := slice_sub l (some (n % ((l.length : Int) + 1))) none al
  obtain ⟨l3, s3, a3, b3⟩ := slice_sub l (some (n % ((l.length : Int) + 1))) (some (n % ((l.length : Int) + 1) + 1)) al
  obtain ⟨c, hc, c1⟩ := sign (n / 64)
  refine ⟨l1 ++ l3 ++ l2, ?_, asc_app (asc_app a1 a3) a2, by simp; omega⟩
  have el := S_len l
  have ez : l.length ≤ PySem.sizeLine := line_of (by omega)
  have nz : ¬ ((l.length : Int) + 1 = 0) := by omega
  have z1 : (S l1).length + (S l3).length ≤ PySem.sizeLine := line_of (by rw [S_len, S_len]; omega)
  have z2 : (S l1 ++ S l3).length + (S l2).length ≤ PySem.sizeLine := line_of (by rw [app_len, S_len, S_len, S_len]; omega)
  rw [← S_app, ← S_app]
  have sg := sg_size
  generalize S l1 = L1 at *
  generalize S l2 = L2 at *
  generalize S l3 = L3 at *
  unfold Gen.g_law_spoiled Gen.f_law_spoiled
  simp [h, el, ez, nz, hc, s1, s2, s3, z1, z2, sg]
theorem spoiled4 (h : n / 1024 % 10 = 4) : ∃ l', Gen.g_law_spoiled [.str (S l), .int n] = some (.fz (.str (S l'))) ∧ Asc l' ∧ l'.length ≤ 5000 := by
  obtain ⟨l1, s1, a1, b1⟩ := slice_sub l none (some (n % ((l.length : Int) + 1))) al
  obtain ⟨l2, s2, a2, b2⟩ := slice_sub l (some (n % ((l.length : Int) + 1) + 2)) none al
  obtain ⟨l3, s3, a3, b3⟩ := slice_sub l (some (n % ((l.length : Int) + 1))) (some (n % ((l.length : Int) + 1) + 1)) al
  obtain ⟨l4, s4, a4, b4⟩ := slice_sub l (some (n % ((l.length : Int) + 1) + 1)) (some (n % ((l.length : Int) + 1) + 2)) al
  obtain ⟨c, hc, c1⟩ := sign (n / 64)
  refine ⟨l1 ++ (l4 ++ l3) ++ l2, ?_, asc_app (asc_app a1 (asc_app a4 a3)) a2, by simp; omega⟩
  have el := S_len l
  have ez : l.length ≤ PySem.sizeLine := line_of (by omega)
  have nz : ¬ ((l.length : Int) + 1 = 0) := by omega
  have z0 : (S l4).length + (S l3).length ≤ PySem.sizeLine := line_of (by rw [S_len, S_len]; omega)
  have z1 : (S l1).length + (S l4 ++ S l3).length ≤ PySem.sizeLine := line_of (by rw [app_len, S_len, S_len, S_len]; omega)
  have z2 : (S l1 ++ (S l4 ++ S l3)).length + (S l2).length ≤ PySem.sizeLine := line_of (by rw [app_len, app_len, S_len, S_len, S_len, S_len]; omega)
  rw [← S_app, ← S_app, ← S_app]
  have sg := sg_size
  generalize S l1 = L1 at *
  generalize S l2 = L2 at *
  generalize S l3 = L3 at *
  generalize S l4 = L4 at *
  unfold Gen.g_law_spoiled Gen.f_law_spoiled
  simp [h, el, ez, nz, hc, s1, s2, s3, s4, z0, z1, z2, sg]
theorem spoiled5 (h : n / 1024 % 10 = 5) : ∃ d, Gen.g_law_spoiled [.str (S l), .int n] = some (.fz d) ∧ (Odd d ∨ d = .str (S [])) := by
  obtain ⟨c, hc, c1⟩ := sign (n / 64)
  have el := S_len l
  have ez : l.length ≤ PySem.sizeLine := line_of (by omega)
  have nz : ¬ ((l.length : Int) + 1 = 0) := by omega
  have sg := sg_size
  have k1 : (1 : Nat) ≤ PySem.sizeLine := by decide
  have k2 : (2 : Nat) ≤ PySem.sizeLine := by decide
  have k5 : (5 : Nat) ≤ PySem.sizeLine := by decide
  have he : Str.ofString "" = S [] := rfl
  have hr : ∃ d, (Odd d ∨ d = .str (S [])) ∧ L2.atI [D.non, D.int n, D.lst [.str (S l)], D.tup [.str (S l), .tup []], D.str (S [])] (n / 64 % 5) = some d := by
    have : n / 64 % 5 = 0 ∨ n / 64 % 5 = 1 ∨ n / 64 % 5 = 2 ∨ n / 64 % 5 = 3 ∨ n / 64 % 5 = 4 := by omega
    rcases this with e | e | e | e | e <;> rw [e]
    · exact ⟨_, .inl (.inl rfl), rfl⟩
    · exact ⟨_, .inl (.inr (.inl ⟨n, rfl⟩)), rfl⟩
    · exact ⟨_, .inl (.inr (.inr (.inl ⟨_, rfl⟩))), rfl⟩
    · exact ⟨_, .inl (.inr (.inr (.inr ⟨_, rfl⟩))), rfl⟩
    · exact ⟨_, .inr rfl, rfl⟩
  obtain ⟨d, hd, hr⟩ := hr
  refine ⟨d, ?_, hd⟩
  generalize S l = X at *
  unfold Gen.g_law_spoiled Gen.f_law_spoiled
  simp [h, el, ez, nz, hc, sg, k1, k2, k5, he, hr]
theorem spoiled6 (h0 : ¬ n / 1024 % 10 = 0) (h1 : ¬ n / 1024 % 10 = 1) (h2 : ¬ n / 1024 % 10 = 2) (h3 : ¬ n / 1024 % 10 = 3) (h4 : ¬ n / 1024 % 10 = 4) (h5 : ¬ n / 1024 % 10 = 5) : Gen.g_law_spoiled [.str (S l), .int n] = some (.fz (.str (S l))) := by
  obtain ⟨c, hc, c1⟩ := sign (n / 64)
  have el := S_len l
  have ez : l.length ≤ PySem.sizeLine := line_of (by omega)
  have nz : ¬ ((l.length : Int) + 1 = 0) := by omega
  have sg := sg_size
  unfold Gen.g_law_spoiled Gen.f_law_spoiled
  simp [h0, h1, h2, h3, h4, h5, el, ez, nz, hc, sg]
theorem spoiled : ∃ d, Gen.g_law_spoiled [.str (S l), .int n] = some (.fz d) ∧ (Odd d ∨ Plain 5000 d) := by
  have pl : ∀ {g : Option SV}, (∃ l', g = some (.fz (.str (S l'))) ∧ Asc l' ∧ l'.length ≤ 5000) → ∃ d, g = some (.fz d) ∧ (Odd d ∨ Plain 5000 d) := fun ⟨l', e, a, b⟩ => ⟨_, e, .inr ⟨l', rfl, a, b⟩⟩
  by_cases h0 : n / 1024 % 10 = 0
  · exact pl (spoiled0 l al hl n h0)
  by_cases h1 : n / 1024 % 10 = 1
  · exact pl (spoiled1 l al hl n h1)
  by_cases h2 : n / 1024 % 10 = 2
  · exact pl (spoiled2 l al hl n h2)
  by_cases h3 : n / 1024 % 10 = 3
  · exact pl (spoiled3 l al hl n h3)
  by_cases h4 : n / 1024 % 10 = 4
  · exact pl (spoiled4 l al hl n h4)
  by_cases h5 : n / 1024 % 10 = 5
  · obtain ⟨d, e, h⟩ := spoiled5 l al hl n h5
    refine ⟨d, e, h.imp_right fun z => ⟨[], z, (fun _ h => nomatch h), by simp⟩⟩
  · exact pl ⟨l, spoiled6 l al hl n h0 h1 h2 h3 h4 h5, al, by omega⟩
end
end My

/-! the law, turn by turn -/
namespace My
open DL PySem
noncomputable abbrev REF : D := .tup [.str "refused", .bl true]
theorem told_x (d : D) (h : Gen.h_read_hands [d] = some (.x NH)) : Gen.g_law_told [d] = some (.fz REF) := by
  unfold Gen.g_law_told Gen.f_law_told Gen.s_law_told_1
  have fb : inFl (.bl true) [D.bl false, D.bl false, D.bl false, D.bl false, D.bl false, D.bl false, D.bl false, D.bl false] = false := by decide +kernel
  have z2 : (2 : Nat) ≤ PySem.sizeLine := by decide
  have z4 : (4 : Nat) ≤ PySem.sizeLine := by decide
  have z8 : (8 : Nat) ≤ PySem.sizeLine := by decide
  simp [h, fb, z2, z4, z8]
theorem told_v (d : D) (r : List D) (h : Gen.h_read_hands [d] = some (.v (.ol r))) : Gen.g_law_told [d] = some (.ol r) := by
  unfold Gen.g_law_told Gen.f_law_told
  simp [h]
theorem odd_read {d : D} (h : Odd d) : Gen.h_read_hands [d] = some (.x NH) := by
  unfold Gen.h_read_hands Gen.f_read_hands
  rcases h with rfl | ⟨i, rfl⟩ | ⟨x, rfl⟩ | ⟨x, rfl⟩ <;> simp [-compXD]
theorem odd_due {d : D} (h : Odd d) : Gen.g_law_due [d] = some (.fz (.bl false)) := by
  unfold Gen.g_law_due Gen.f_law_due
  rcases h with rfl | ⟨i, rfl⟩ | ⟨x, rfl⟩ | ⟨x, rfl⟩ <;> simp [-forD]
inductive Fate (d : D) : Prop
  | bad (h1 : Gen.g_law_due [d] = some (.fz (.bl false))) (h2 : Gen.g_law_told [d] = some (.fz REF))
  | good (x : Str) (r : List D) (e : d = .str x) (h1 : Gen.g_law_due [d] = some (.fz (.bl true))) (h2 : Gen.g_law_told [d] = some (.ol r)) (h3 : 1 ≤ r.length ∧ r.length ≤ 6) (h4 : Gen.g_show_hands [.lst r] = some (.fz d))
theorem fate {d : D} (h : Odd d ∨ Plain 5000 d) : Fate d := by
  rcases h with h | ⟨l, rfl, al, bl⟩
  · exact .bad (odd_due h) (told_x d (odd_read h))
  · obtain ⟨ps, f, e, hn⟩ := fits_all am (by decide) _ l (Nat.le_refl _)
    subst e
    obtain ⟨b, hb, ed⟩ := due ps f al (by omega)
    rcases readHands ps f al (by omega) (by omega) with ⟨hs, g, e1, e2, e3⟩ | ⟨g, e3⟩
    · rw [hb.mpr g] at ed
      have hl : hs.length = ps.length := by rw [e1, List.length_map]
      have p1 : 1 ≤ ps.length := by
        cases ps with
        | nil => exact f.elim
        | cons p r => simp
      refine .good _ _ rfl ed (told_v _ _ e3) ⟨by rw [List.length_map]; omega, by rw [List.length_map, hl]; exact g.1⟩ ?_
      rw [showHands hs (by rw [hl]; exact g.1) e2, ← e1]
    · have : b = false := by
        cases b with
        | false => rfl
        | true => exact (g (hb.mp rfl)).elim
      rw [this] at ed
      exact .bad ed (told_x _ e3)
theorem ref_eq : eqN 48 REF REF = some true := by simp
noncomputable def tlF : FS := seqF (setF 4 (callF 1 Gen.g_law_told (argCons (nameF 3) (argNil)))) (seqF (ifS (andF (notF (testF (callF 1 Gen.g_law_due (argCons (nameF 3) (argNil))))) (testF (binF neX (nameF 4) (tupF (dispCons (constF (.str "refused")) (dispCons (constF (.bl true)) (dispNil))))))) (retF (constF (.bl false))) (nextF)) (ifS (testF (callF 1 Gen.g_law_due (argCons (nameF 3) (argNil)))) (ifS (orF (notF (testF (unF (isiD "list") (nameF 4)))) (orF (notF (testF (chainF leD leD (constF (.int 1)) (primF lenD (argCons (nameF 4) argNil)) (constF (.int 6))))) (testF (binF neX (callF 1 Gen.g_show_hands (argCons (nameF 4) (argNil))) (nameF 3))))) (retF (constF (.bl false))) (nextF)) (nextF)))
theorem tail_bad (x0 s1 s2 x4 : Option SV) (d : D) (h1 : Gen.g_law_due [d] = some (.fz (.bl false))) (h2 : Gen.g_law_told [d] = some (.fz REF)) : tlF [x0, s1, s2, some (.fz d), x4] = some (.nx [x0, s1, s2, some (.fz d), some (.fz REF)]) := by
  have z2 : (2 : Nat) ≤ PySem.sizeLine := by decide
  have rq := ref_eq
  unfold tlF
  simp [-eqN, h1, h2, rq, z2]
theorem tail_good (x0 s1 s2 x4 : Option SV) (x : Str) (r : List D) (h1 : Gen.g_law_due [.str x] = some (.fz (.bl true))) (h2 : Gen.g_law_told [.str x] = some (.ol r)) (h4 : 1 ≤ r.length ∧ r.length ≤ 6) (h5 : Gen.g_show_hands [.lst r] = some (.fz (.str x))) : tlF [x0, s1, s2, some (.fz (.str x)), x4] = some (.nx [x0, s1, s2, some (.fz (.str x)), some (.ol r)]) := by
  have r1 : (1 : Int) ≤ (r.length : Int) := by omega
  have r6 : (r.length : Int) ≤ 6 := by omega
  have r1' : 1 ≤ r.length := h4.1
  have r6' := h4.2
  have rz : r.length ≤ PySem.sizeLine := line_of (by omega)
  unfold tlF
  simp [-eqN, h1, h2, h5, r1, r6, r1', r6', rz]
theorem turn (x0 : Option SV) (c : Int) (x2 x3 x4 : Option SV) : ∃ y2 y3 y4, Gen.b_law_1 [x0, some (.fz (.int c)), x2, x3, x4] = some (.nx [x0, some (.fz (.int c)), y2, y3, y4]) := by
  obtain ⟨ms, em, hm, lm⟩ := numbers_ok c 46 (by decide)
  have em : Gen.g_law_numbers [.int c, .int 46] = some (.ol (ms.map D.int)) := em
  obtain ⟨l1, e1, a1, b1⟩ := free ms hm lm
  obtain ⟨l2, e2, a2, b2⟩ := text ms hm lm
  have e45 := at_ms ms 45 45 (by omega) rfl
  obtain ⟨d2, e3, h3⟩ := spoiled l2 a2 b2 ms[45]
  generalize ms.map D.int = M at *
  generalize S l2 = X2 at *
  have pre : ∃ d, (Odd d ∨ Plain 5000 d) ∧ Gen.b_law_1 [x0, some (.fz (.int c)), x2, x3, x4] = tlF [x0, some (.fz (.int c)), some (.ol M), some (.fz d), x4] := by
    by_cases hc : c % 2 = 0
    · refine ⟨d2, h3, ?_⟩
      show seqF _ (seqF _ (seqF _ tlF)) _ = _
      rcases h3 with (rfl | ⟨i, rfl⟩ | ⟨x, rfl⟩ | ⟨x, rfl⟩) | ⟨l', rfl, _⟩ <;> simp [em, e1, e2, e3, e45, hc]
    · refine ⟨.str (S l1), .inr ⟨l1, rfl, a1, by omega⟩, ?_⟩
      show seqF _ (seqF _ (seqF _ tlF)) _ = _
      generalize S l1 = X1 at *
      simp [em, e1, hc]
  obtain ⟨d, hd, e⟩ := pre
  rw [e]
  cases fate hd with
  | bad h1 h2 => exact ⟨_, _, _, tail_bad x0 _ _ x4 d h1 h2⟩
  | good x r e h1 h2 h4 h5 =>
    subst e
    exact ⟨_, _, _, tail_good x0 _ _ x4 x r h1 h2 h4 h5⟩
theorem loop_ok (x0 : Option SV) : ∀ (cs : List Int) (x1 x2 x3 x4 : Option SV), ∃ y1 y2 y3 y4, forD (gNameF 1) Gen.b_law_1 (cs.map D.int) [x0, x1, x2, x3, x4] = some (.nx [x0, y1, y2, y3, y4])
  | [], x1, x2, x3, x4 => ⟨x1, x2, x3, x4, rfl⟩
  | c :: cs, x1, x2, x3, x4 => by
    obtain ⟨y2, y3, y4, e⟩ := turn x0 c x2 x3 x4
    obtain ⟨z1, z2, z3, z4, e2⟩ := loop_ok x0 cs (some (.fz (.int c))) y2 y3 y4
    exact ⟨z1, z2, z3, z4, (forD_nx (by simp) e).trans e2⟩
theorem cell_at (ns : List Int) : ∃ c : Int, Gen.g_law_cell_at [.lst (ns.map D.int), .int 0] = some (.fz (.int c)) := by
  unfold Gen.g_law_cell_at Gen.f_law_cell_at
  cases ns with
  | nil => exact ⟨0, by simp⟩
  | cons a r =>
    have h1 : (0 : Int) < ((r.length : Nat) : Int) + 1 := by omega
    have ec : L2.atI (D.int a :: r.map D.int) 0 = some (.int a) := at_nat _ 0 _ rfl
    exact ⟨a, by simp [ec, h1]⟩
theorem law_true (ns : List Int) (hns : ns.length ≤ 63) : Gen.g_law [.lst (ns.map D.int)] = some (.fz (.bl true)) := by
  obtain ⟨c, ec⟩ := cell_at ns
  obtain ⟨ms, em, lm⟩ := cut_map ns (some 1) (some 16)
  obtain ⟨y1, y2, y3, y4, e⟩ := loop_ok (some (.fz (.lst (ns.map D.int)))) (c :: ms) none none none none
  rw [List.map_cons] at e
  have z1 : (1 : Nat) ≤ PySem.sizeLine := by decide
  have z2 : 1 + (ms.map D.int).length ≤ PySem.sizeLine := line_of (by rw [List.length_map]; omega)
  have z3 : (ms.map D.int).length + 1 ≤ PySem.sizeLine := by rw [Nat.add_comm]; exact z2
  generalize ms.map D.int = M at *
  generalize ns.map D.int = N at *
  unfold Gen.g_law Gen.f_law
  simp [-forD, ec, em, e, z1, z2, z3, Nat.add_comm]
end My

def PySem.W.Fast.tw10198827828850078153:=()
def PySem.W.Fast.tw6988407670489719996:=()
def PySem.W.Fast.tw859263223024667827:=()
def PySem.W.Fast.tw611250349320727956:=()
def PySem.W.Fast.tw6378839899541733913:=()
def PySem.W.Fast.tw15156742551605835913:=()
def PySem.W.Fast.tw14228864432183388315:=()
def PySem.W.Fast.tw2215524538759947464:=()
def PySem.W.Fast.tw13974218769007215884:=()
def PySem.W.Fast.tw13244023250652277488:=()
def PySem.W.Fast.tw9281835044535539064:=()
def PySem.W.Fast.tw11353993137791666252:=()
def PySem.W.Fast.tw6205876285234330365:=()
def PySem.W.Fast.tw12065611194837018434:=()
def PySem.W.Fast.tw2165324937951761233:=()
def PySem.W.Fast.tw7623441129544033035:=()
def PySem.W.Fast.tw3773061286929136613:=()
def PySem.W.Fast.tw1486625045534820610:=()
def PySem.W.Fast.tw7104514801713778030:=()
def PySem.W.Fast.tw17388301095265922546:=()
def PySem.W.Fast.tw6432715879954286623:=()
def PySem.W.Fast.tw4449793700797220607:=()
def PySem.W.Fast.tw7407824044169404720:=()
def PySem.W.Fast.tw14743397526232502510:=()
open PySem PySem.W PyProof.Rows
set_option maxRecDepth 100000 in
set_option maxHeartbeats 0 in
theorem PySem.Challenge.cw_citeward_k02_whole_any_text_of_hands_holds : PySem.Challenge.rw_citeward_k02_whole_any_text_of_hands.Holds := by
  w_on; o_law; k_head; (case hw => w_witness2)
  k_fill
  refine Gen.walk (l := PySem.Challenge.rw_citeward_k02_whole_any_text_of_hands) rfl rfl (fun w h Y => PySem.W.kIn_of Y) ?F My.law_true
  case F =>
    intro w mg fa h KX G hmg
    refine' Gen.all_mk KX G hmg ?alaw_numbers ?llaw_numbers ?claw_numbers ?klaw_numbers ?alaw_free ?llaw_free ?claw_free ?klaw_free ?ais_all_of ?lis_all_of ?cis_all_of ?kis_all_of ?ais_text_of ?lis_text_of ?cis_text_of ?kis_text_of ?aread_hand ?lread_hand ?cread_hand ?kread_hand ?aread_hands ?lread_hands ?cread_hands ?kread_hands ?alaw_told ?llaw_told ?claw_told ?klaw_told ?alaw_is_word ?llaw_is_word ?claw_is_word ?klaw_is_word ?alaw_is_hand ?llaw_is_hand ?claw_is_hand ?klaw_is_hand ?alaw_due ?llaw_due ?claw_due ?klaw_due ?alaw_cell_at ?llaw_cell_at ?claw_cell_at ?klaw_cell_at ?alaw_spoiled ?llaw_spoiled ?claw_spoiled ?klaw_spoiled ?alaw_word ?llaw_word ?claw_word ?klaw_word ?alaw_text ?llaw_text ?claw_text ?klaw_text ?ashow_hand ?lshow_hand ?cshow_hand ?kshow_hand ?ashow_hands ?lshow_hands ?cshow_hands ?kshow_hands ?alaw ?llaw ?claw ?klaw ?zValueError ?zall ?zint ?zisinstance ?zlen ?zlist ?zrange ?zstr ?ztuple ?zLETTERS ?zMOST_GIVENS ?zMOST_HANDS ?zWORD_LENGTH ?zc_CiteError ?zc_NoHands ?zc_NoList ?zc_NoName ?zc_NoNumber ?zc_NoPlain ?zc_NoRow ?zc_NoStyle ?zc_NoText ?zc_NoWork ?zc_Ring ?ty_NoHands ?ic_NoHands ?be_NoHands ?h_NoHands_NoHands ?q0_NoHands ?q1_NoHands ?q2_NoHands ?q3_NoHands ?q4_NoHands ?q5_NoHands ?q6_NoHands ?q7_NoHands ?q8_NoHands ?q9_NoHands ?q10_NoHands ?ecl_NoHands ?ega_NoHands ?egt_NoHands ?eca_NoHands ?egs_NoHands ?etk_NoHands ?eob_NoHands ?ebe_NoHands ?ow_NoHands
    (case alaw_numbers => k_is)
    (case llaw_numbers => k_is)
    (case claw_numbers => k_is)
    (case klaw_numbers => k_is)
    (case alaw_free => k_is)
    (case llaw_free => k_is)
    (case claw_free => k_is)
    (case klaw_free => k_is)
    (case ais_all_of => k_is)
    (case lis_all_of => k_is)
    (case cis_all_of => k_is)
    (case kis_all_of => k_is)
    (case ais_text_of => k_is)
    (case lis_text_of => k_is)
    (case cis_text_of => k_is)
    (case kis_text_of => k_is)
    (case aread_hand => k_is)
    (case lread_hand => k_is)
    (case cread_hand => k_is)
    (case kread_hand => k_is)
    (case aread_hands => k_is)
    (case lread_hands => k_is)
    (case cread_hands => k_is)
    (case kread_hands => k_is)
    (case alaw_told => k_is)
    (case llaw_told => k_is)
    (case claw_told => k_is)
    (case klaw_told => k_is)
    (case alaw_is_word => k_is)
    (case llaw_is_word => k_is)
    (case claw_is_word => k_is)
    (case klaw_is_word => k_is)
    (case alaw_is_hand => k_is)
    (case llaw_is_hand => k_is)
    (case claw_is_hand => k_is)
    (case klaw_is_hand => k_is)
    (case alaw_due => k_is)
    (case llaw_due => k_is)
    (case claw_due => k_is)
    (case klaw_due => k_is)
    (case alaw_cell_at => k_is)
    (case llaw_cell_at => k_is)
    (case claw_cell_at => k_is)
    (case klaw_cell_at => k_is)
    (case alaw_spoiled => k_is)
    (case llaw_spoiled => k_is)
    (case claw_spoiled => k_is)
    (case klaw_spoiled => k_is)
    (case alaw_word => k_is)
    (case llaw_word => k_is)
    (case claw_word => k_is)
    (case klaw_word => k_is)
    (case alaw_text => k_is)
    (case llaw_text => k_is)
    (case claw_text => k_is)
    (case klaw_text => k_is)
    (case ashow_hand => k_is)
    (case lshow_hand => k_is)
    (case cshow_hand => k_is)
    (case kshow_hand => k_is)
    (case ashow_hands => k_is)
    (case lshow_hands => k_is)
    (case cshow_hands => k_is)
    (case kshow_hands => k_is)
    (case alaw => k_is)
    (case llaw => k_is)
    (case claw => k_is)
    (case klaw => k_is)
    (case zValueError => k_is)
    (case zall => k_is)
    (case zint => k_is)
    (case zisinstance => k_is)
    (case zlen => k_is)
    (case zlist => k_is)
    (case zrange => k_is)
    (case zstr => k_is)
    (case ztuple => k_is)
    (case zLETTERS => k_is)
    (case zMOST_GIVENS => k_is)
    (case zMOST_HANDS => k_is)
    (case zWORD_LENGTH => k_is)
    (case zc_CiteError => k_is)
    (case zc_NoHands => k_is)
    (case zc_NoList => k_is)
    (case zc_NoName => k_is)
    (case zc_NoNumber => k_is)
    (case zc_NoPlain => k_is)
    (case zc_NoRow => k_is)
    (case zc_NoStyle => k_is)
    (case zc_NoText => k_is)
    (case zc_NoWork => k_is)
    (case zc_Ring => k_is)
    (case ty_NoHands => k_is)
    (case ic_NoHands => k_is)
    (case be_NoHands => k_is)
    (case h_NoHands_NoHands => k_is)
    (case q0_NoHands => kit_is)
    (case q1_NoHands => kit_is)
    (case q2_NoHands => kit_is)
    (case q3_NoHands => kit_is)
    (case q4_NoHands => kit_is)
    (case q5_NoHands => kit_is)
    (case q6_NoHands => kit_is)
    (case q7_NoHands => kit_is)
    (case q8_NoHands => kit_is)
    (case q9_NoHands => kit_is)
    (case q10_NoHands => kit_is)
    (case ecl_NoHands => k_is)
    (case ega_NoHands => k_is)
    (case egt_NoHands => k_is)
    (case eca_NoHands => k_is)
    (case egs_NoHands => k_is)
    (case etk_NoHands => k_is)
    (case eob_NoHands => k_is)
    (case ebe_NoHands => k_is)
    (case ow_NoHands => k_exc)

