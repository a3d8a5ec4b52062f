import PyProof.Rows.All
import Wide.All
import OpenK.AllK
import Wide.FinOn
import Lean
import PyProof.EqAt
import PyProof.EqKinds
import PyProof.TupleCall
import PyProof.NeKinds
import PyProof.EnumMake
import PyProof.ConsumeWalk
import PyProof.StrWalks
import PyProof.WalksMore
import PyProof.StrLawsNeg
import PySem.Challenge.RW_citeward_k13_one_piece
set_option Elab.async false
set_option linter.all false
set_option maxRecDepth 100000
set_option maxHeartbeats 4000000
namespace L2
open PySem PySem.Spec PyProof.Rows

noncomputable abbrev Key := Sum Int Str
noncomputable def keyIs : Key → Value → Bool
  | .inl k, v => Value.isInt k v
  | .inr x, v => Value.isStrOf x v
noncomputable def keyH (w : World) : Key → Int
  | .inl k => hashInt k
  | .inr x => hashStr w x
theorem keyIs_shape : ∀ {k : Key} {v : Value}, keyIs k v = true → (∃ i t, k = Sum.inl i ∧ v = Value.int i t) ∨ (∃ x t, k = Sum.inr x ∧ v = Value.str x t)
  | .inl i, v, h => by
    obtain ⟨t, e⟩ := Value.isInt_shape (k := i) (v := v) h
    exact .inl ⟨i, t, rfl, e⟩
  | .inr x, v, h => by
    obtain ⟨t, e⟩ := Value.isStrOf_shape (x := x) (v := v) h
    exact .inr ⟨x, t, rfl, e⟩
theorem key_ll (a b : Int) : decide ((Sum.inl a : Key) = Sum.inl b) = (a == b) := by
  by_cases e : a = b
  · subst e; simp
  · have h : ¬ (Sum.inl a : Key) = Sum.inl b := fun q => e (Sum.inl.inj q)
    rw [decide_eq_false h]
    exact (beq_eq_false_iff_ne.mpr e).symm
theorem key_rr (a b : Str) : decide ((Sum.inr a : Key) = Sum.inr b) = decide (a = b) := by
  by_cases e : a = b
  · subst e; simp
  · have h : ¬ (Sum.inr a : Key) = Sum.inr b := fun q => e (Sum.inr.inj q)
    rw [decide_eq_false h, decide_eq_false e]
theorem key_lr (a : Int) (b : Str) : decide ((Sum.inl a : Key) = Sum.inr b) = false := decide_eq_false (fun q => nomatch q)
theorem key_rl (a : Str) (b : Int) : decide ((Sum.inr a : Key) = Sum.inl b) = false := decide_eq_false (fun q => nomatch q)

noncomputable def mixKind (prog : Program) (w : World) : PySem.KeyKind prog w Key where
  is := keyIs
  hash := keyH w
  inj := fun v a b ha hb => by
    rcases keyIs_shape ha with ⟨i, t, rfl, rfl⟩ | ⟨x, t, rfl, rfl⟩
    · rcases keyIs_shape hb with ⟨j, u, rfl, e⟩ | ⟨y, u, rfl, e⟩
      · injection e with e1 _; rw [e1]
      · exact nomatch e
    · rcases keyIs_shape hb with ⟨j, u, rfl, e⟩ | ⟨y, u, rfl, e⟩
      · exact nomatch e
      · injection e with e1 _; rw [e1]
  byValue := fun k v h => by
    rcases keyIs_shape h with ⟨i, t, rfl, rfl⟩ | ⟨x, t, rfl, rfl⟩ <;> rfl
  pyHash := fun hv h => by
    rcases keyIs_shape hv with ⟨i, t, rfl, rfl⟩ | ⟨x, t, rfl, rfl⟩
    · exact wpAny_pyHash_int h
    · exact wpAny_pyHash_str h
  eqBool := fun hu hv h => by
    rcases keyIs_shape hu with ⟨i, t, rfl, rfl⟩ | ⟨x, t, rfl, rfl⟩
    · rcases keyIs_shape hv with ⟨j, u, rfl, rfl⟩ | ⟨y, u, rfl, rfl⟩
      · rw [key_ll] at h; exact wpAny_eqBool_int h
      · rw [key_lr] at h; exact SeqAt.EqAt.int_str i t y u _ _ _ _ h
    · rcases keyIs_shape hv with ⟨j, u, rfl, rfl⟩ | ⟨y, u, rfl, rfl⟩
      · rw [key_rl] at h; exact SeqAt.EqAt.str_int x t j u _ _ _ _ h
      · rw [key_rr] at h; exact wpAny_eqBool_str h
  «strs» := fun k x t v h => by
    rcases keyIs_shape h with ⟨i, u, rfl, e⟩ | ⟨y, u, rfl, e⟩
    · exact nomatch e
    · injection e with e1 _
      subst e1
      cases v <;> rfl

theorem mixKind_is (prog : Program) (w : World) (k : Key) (v : Value) : (mixKind prog w).is k v = keyIs k v := rfl
end L2

namespace L2
open PySem PySem.Spec PyProof.Rows

inductive V where
  | non | bl (b : Bool) | int (i : Int) | str (x : Str) | byt (b : Array UInt8) | flt (b : UInt64) | ref (a : Addr) | ty (n : String)
  deriving DecidableEq

noncomputable def RelV : V → Value → Prop
  | .non, u => u = Value.none
  | .bl b, u => u = Value.bool b
  | .int i, u => ∃ t, u = Value.int i t
  | .str x, u => ∃ t, u = Value.str x t
  | .byt b, u => ∃ t, u = Value.bytes b t
  | .flt b, u => ∃ t, u = Value.float b t
  | .ref a, u => u = Value.ref a
  | .ty n, u => u = Value.type n

noncomputable abbrev Vals : List V → List Value → Prop := Paired RelV
theorem Vals.length {xs : List V} {us : List Value} (r : Vals xs us) : xs.length = us.length := Paired.length r
theorem Vals.get : ∀ {xs : List V} {us : List Value} {i : Nat} {x : V}, Vals xs us → xs[i]? = some x → ∃ u, us[i]? = some u ∧ RelV x u
  | _, _, _, _, .nil, e => by simp at e
  | _, _, 0, _, .cons r _, e => by simp at e; subst e; exact ⟨_, rfl, r⟩
  | _, _, i + 1, x, .cons _ t, e => by
    obtain ⟨u, h1, h2⟩ := Vals.get (i := i) (x := x) t (by simpa using e)
    exact ⟨u, by simpa using h1, h2⟩
theorem Vals.append : ∀ {xs ys : List V} {us ws : List Value}, Vals xs us → Vals ys ws → Vals (xs ++ ys) (us ++ ws)
  | _, _, _, _, .nil, s => s
  | _, _, _, _, .cons r t, s => .cons r (Vals.append t s)
theorem Vals.take : ∀ {xs : List V} {us : List Value} (n : Nat), Vals xs us → Vals (xs.take n) (us.take n)
  | _, _, 0, _ => .nil
  | _, _, _ + 1, .nil => .nil
  | _, _, n + 1, .cons r t => .cons r (Vals.take n t)
theorem Vals.drop : ∀ {xs : List V} {us : List Value} (n : Nat), Vals xs us → Vals (xs.drop n) (us.drop n)
  | _, _, 0, r => r
  | _, _, _ + 1, .nil => .nil
  | _, _, n + 1, .cons _ t => Vals.drop n t

noncomputable def RelO : Option V → Option Value → Prop
  | some v, some u => RelV v u
  | none, none => True
  | _, _ => False
noncomputable def KV {κ : Type} : List (κ × V) → List (κ × Value) → Prop := Paired fun (p : κ × V) (q : κ × Value) => p.1 = q.1 ∧ RelV p.2 q.2

noncomputable def kV : Key → V
  | .inl i => .int i
  | .inr x => .str x

inductive HO where
  | lst (xs : List V)
  | tup (xs : List V)
  | dK (kvs : List (Key × V)) (ep : Nat) | dT (kvs : List (List Key × V)) (ep : Nat) (bs : List Addr)
  | set (S : Int → Bool) (n : Nat)
  | ins (C dx : Addr) (fs : List (Str × V))
  | own (x : Addr)
  | xd (fs : List (Str × V))
  | met (f x : Addr)
  | rng (lo hi : Int)
  | frz (o : Obj) (u : HO)
  | tbl (ps : Array Value)
  | ext (φ : Heap → Prop)

noncomputable abbrev Hp := Addr → Option HO
noncomputable def upd (H : Hp) (a : Addr) (o : HO) : Hp := fun b => if b = a then some o else H b
theorem upd_same {H : Hp} {a : Addr} {o : HO} : upd H a o a = some o := by unfold upd; rw [if_pos rfl]
theorem upd_ne {H : Hp} {a b : Addr} {o : HO} (h : b ≠ a) : upd H a o b = H b := by unfold upd; rw [if_neg h]
theorem ne_of_none {H : Hp} {a b : Addr} {o : HO} (h : H a = some o) (h' : H b = none) : a ≠ b := by
  intro e; subst e; rw [h] at h'; cases h'

section
variable (P : Program) (w : World)
noncomputable def ObjOk (H : Hp) (h : Heap) (a : Addr) : HO → Prop
  | .lst xs => xs.length ≤ sizeLine ∧ ∃ (its : List Value) (n : Nat), Vals xs its ∧ h.get? a = some { cls := .type "list", data := .seq its.toArray n }
  | .tup xs => xs.length ≤ sizeLine ∧ ∃ its : List Value, Vals xs its ∧ IsTup h a its.toArray
  | .dK kvs ep => kvs.length ≤ sizeLine ∧ (a == sysModules) = false ∧ ∃ vs, KV kvs vs ∧ h.DictAt (mixKind P w) a vs ep
  | .dT kvs ep bs => kvs.length ≤ sizeLine ∧ (a == sysModules) = false ∧ ∃ xs : List (List Key × Addr × Value),
      Paired (fun (p : List Key × V) (q : List Key × Addr × Value) => p.1 = q.1 ∧ H q.2.1 = some (.tup (p.1.map kV)) ∧ RelV p.2 q.2.2) kvs xs ∧
      ∃ o es, h.get? a = some o ∧ o.ExactDict ∧ o.data = .dict es ep ∧ es.toList = xs.map (entryOfKey (tupleKind (mixKind P w))) ∧ (xs.map (·.1)).Nodup ∧ (xs.map fun x => x.2.1) = bs
  | .set S n => h.SetOf (intKind P w) a S n
  | .ins C dx fs => H dx = some (.own a) ∧ fs.length ≤ 1000 ∧ dx ≠ a ∧ h.get? a = some (PySem.W.instObj C dx) ∧
      ∃ mA, h.Ns1 dx mA ∧ (∀ f, RelO (fs.lookup f) (mA f)) ∧ PySem.Within mA (fs.map (·.1))
  | .own _ => ∃ o, h.get? a = some o
  | .xd fs => ∃ mA, h.Ns1 a mA ∧ ∀ f, RelO (fs.lookup f) (mA f)
  | .rng lo hi => ∃ t u v, h.get? a = some { cls := .type "range", data := .fields #[.int lo t, .int hi u, .int 1 v] }
  | .frz o u => h.get? a = some o ∧ ObjOk H h a u
  | .tbl ps => h.get? a = some { cls := .none, data := .fields ps }
  | .met f x => h.get? a = some (PySem.W.methodObj (.ref f) (.ref x))
  | .ext φ => φ h ∧ (∃ o, h.get? a = some o) ∧ ∀ h1 h2 : Heap, φ h1 → (∀ o, h1.get? a = some o → h2.get? a = some o) → φ h2
noncomputable def HOk (H : Hp) (h : Heap) : Prop := ∀ a o, H a = some o → ObjOk P w H h a o
end

section
variable {P : Program} {w : World} {H H' : Hp} {h h' : Heap} {a : Addr} {o : HO}
theorem ObjOk.lt (x : ObjOk P w H h a o) : a < h.objs.size := by
  cases o with
  | lst xs => obtain ⟨_, _, _, _, e⟩ := x; exact Heap.lt_size e
  | tup xs => obtain ⟨_, _, _, p⟩ := x; exact p.lt
  | dK kvs ep => obtain ⟨_, _, _, _, o, _, e, _⟩ := x; exact Heap.lt_size e
  | dT kvs ep bs => obtain ⟨_, _, _, _, o, _, e, _⟩ := x; exact Heap.lt_size e
  | set S n => obtain ⟨o, _, _, _, e, _⟩ := x; exact Heap.lt_size e
  | ins C dx fs => obtain ⟨_, _, _, e, _⟩ := x; exact Heap.lt_size e
  | own y => obtain ⟨_, e⟩ := x; exact Heap.lt_size e
  | xd fs => obtain ⟨_, ⟨_, _, _, e, _⟩, _⟩ := x; exact Heap.lt_size e
  | rng lo hi => obtain ⟨_, _, _, e⟩ := x; exact Heap.lt_size e
  | frz ob u => obtain ⟨e, _⟩ := x; exact Heap.lt_size e
  | tbl ps => exact Heap.lt_size (show h.get? a = some _ from x)
  | met f y => exact Heap.lt_size (show h.get? a = some _ from x)
  | ext φ => obtain ⟨_, ⟨_, e⟩, _⟩ := x; exact Heap.lt_size e
theorem Paired.mapP {α β : Type} {F G : α → β → Prop} : ∀ {l₁ : List α} {l₂ : List β}, Paired F l₁ l₂ → (∀ a b, F a b → G a b) → Paired G l₁ l₂
  | _, _, .nil, _ => .nil
  | _, _, .cons r t, f => .cons (f _ _ r) (Paired.mapP t f)
theorem ObjOk.stay (x : ObjOk P w H h a o) (k : ∀ b u, (b = a ∨ H b = some (.own a)) → h.get? b = some u → h'.get? b = some u)
    (ho : ∀ b, H b = some (.own a) → H' b = some (.own a)) (ht : ∀ b xs, H b = some (.tup xs) → H' b = some (.tup xs)) : ObjOk P w H' h' a o := by
  induction o with
  | lst xs => obtain ⟨z, its, n, r, e⟩ := x; exact ⟨z, its, n, r, k _ _ (.inl rfl) e⟩
  | tup xs => obtain ⟨z, its, r, ob, e, c⟩ := x; exact ⟨z, its, r, ob, k _ _ (.inl rfl) e, c⟩
  | dK kvs ep => obtain ⟨z, y, vs, r, ob, es, e, c⟩ := x; exact ⟨z, y, vs, r, ob, es, k _ _ (.inl rfl) e, c⟩
  | dT kvs ep bs =>
    obtain ⟨z, y, xs, r, ob, es, e, c⟩ := x
    exact ⟨z, y, xs, Paired.mapP r fun p q z => ⟨z.1, ht _ _ z.2.1, z.2.2⟩, ob, es, k _ _ (.inl rfl) e, c⟩
  | set S n => obtain ⟨ob, es, ep, t, e, c⟩ := x; exact ⟨ob, es, ep, t, k _ _ (.inl rfl) e, c⟩
  | ins C dx fs =>
    obtain ⟨d, z, ne, e, mA, ⟨od, es, ep, e2, c⟩, r⟩ := x
    exact ⟨ho _ d, z, ne, k _ _ (.inl rfl) e, mA, ⟨od, es, ep, k _ _ (.inr d) e2, c⟩, r⟩
  | own y => obtain ⟨ob, e⟩ := x; exact ⟨ob, k _ _ (.inl rfl) e⟩
  | xd fs => obtain ⟨mA, ⟨od, es, ep, e, c⟩, r⟩ := x; exact ⟨mA, ⟨od, es, ep, k _ _ (.inl rfl) e, c⟩, r⟩
  | rng lo hi => obtain ⟨t, u, v, e⟩ := x; exact ⟨t, u, v, k _ _ (.inl rfl) e⟩
  | frz ob u ih => obtain ⟨e, q⟩ := x; exact ⟨k _ _ (.inl rfl) e, ih q⟩
  | tbl ps =>
    have e : h.get? a = some { cls := .none, data := .fields ps } := x
    show h'.get? a = some { cls := .none, data := .fields ps }
    exact k a _ (.inl rfl) e
  | met f y =>
    have e : h.get? a = some (PySem.W.methodObj (.ref f) (.ref y)) := x
    show h'.get? a = some (PySem.W.methodObj (.ref f) (.ref y))
    exact k a _ (.inl rfl) e
  | ext φ => obtain ⟨p, ⟨o, e⟩, st⟩ := x; exact ⟨st _ _ p fun o q => k _ _ (.inl rfl) q, ⟨o, k _ _ (.inl rfl) e⟩, st⟩
theorem HOk.lt (x : HOk P w H h) (e : H a = some o) : a < h.objs.size := (x a o e).lt
theorem HOk.fresh (x : HOk P w H h) (e : h.objs.size ≤ a) : H a = none := by
  cases q : H a with
  | none => rfl
  | some u => exact absurd (Nat.lt_of_lt_of_le (x.lt q) e) (Nat.lt_irrefl _)
theorem HOk.kept (x : HOk P w H h) (k : ∀ b u, h.get? b = some u → h'.get? b = some u) : HOk P w H h' := fun a o e =>
  (x a o e).stay (fun b u _ q => k b u q) (fun _ q => q) fun _ _ q => q
theorem HOk.laid (x : HOk P w H h) (k : ∀ b u, h.get? b = some u → h'.get? b = some u) (hp : h.objs.size ≤ a) (new : ObjOk P w (upd H a o) h' a o) : HOk P w (upd H a o) h' := fun b u e => by
  have hn := x.fresh hp
  by_cases hb : b = a
  · subst hb; rw [upd_same] at e; cases e; exact new
  · rw [upd_ne hb] at e
    exact (x b u e).stay (fun c v _ q => k c v q) (fun c q => by rw [upd_ne (ne_of_none q hn)]; exact q) fun c xs q => by rw [upd_ne (ne_of_none q hn)]; exact q
end

noncomputable def Rd (H : Hp) (a : Addr) (u : HO) : Prop := H a = some u ∨ ∃ o, H a = some (.frz o u)
theorem Rd.ok {P : Program} {w : World} {H : Hp} {h : Heap} {a : Addr} {u : HO} (r : Rd H a u) (x : HOk P w H h) : ObjOk P w H h a u := by
  rcases r with r | ⟨o, r⟩
  · exact x a u r
  · obtain ⟨_, q⟩ := x a _ r
    exact q
noncomputable def HK (H : Hp) (a : Addr) (kvs : List (Key × V)) : Prop := ∃ ep, H a = some (.dK kvs ep)
noncomputable def HTt (H : Hp) (a : Addr) (kvs : List (List Key × V)) : Prop := ∃ ep bs, H a = some (.dT kvs ep bs)
noncomputable def RdK (H : Hp) (a : Addr) (kvs : List (Key × V)) : Prop := ∃ ep, Rd H a (.dK kvs ep)
noncomputable def RdT (H : Hp) (a : Addr) (kvs : List (List Key × V)) : Prop := ∃ ep bs, Rd H a (.dT kvs ep bs)
noncomputable def putB (kvs : List (List Key × V)) (bs : List Addr) (k : List Key) (b : Addr) : List Addr := if (kvs.any fun kv => decide (kv.1 = k)) = true then bs else bs ++ [b]
noncomputable def Mut : Option HO → Prop
  | some (.lst _) => True
  | some (.dK _ _) => True
  | some (.dT _ _ _) => True
  | some (.set _ _) => True
  | some (.ins _ _ _) => True
  | some (.ext _) => True
  | _ => False
section
variable {P : Program} {w : World} {H : Hp} {h h' : Heap} {x e : Addr} {o' : HO}
theorem HOk.write (ok : HOk P w H h) (mu : Mut (H x)) (he : e = x ∨ H e = some (.own x)) (k : ∀ b u, b ≠ e → h.get? b = some u → h'.get? b = some u) (heo : ∃ u, h'.get? e = some u)
    (new : ObjOk P w (upd H x o') h' x o') : HOk P w (upd H x o') h' := fun b u q => by
  have nown : ∀ c y, H c = some (.own y) → c ≠ x := fun c y r z => by subst z; rw [r] at mu; exact mu
  have ntup : ∀ c xs, H c = some (.tup xs) → c ≠ x := fun c xs r z => by subst z; rw [r] at mu; exact mu
  by_cases hb : b = x
  · subst hb; rw [upd_same] at q; cases q; exact new
  · rw [upd_ne hb] at q
    by_cases hbe : b = e
    · have q' : H b = some (.own x) := by
        rcases he with z | z
        · exact absurd (hbe.trans z) hb
        · rw [hbe]; exact z
      rw [q] at q'; cases q'
      obtain ⟨v, hv⟩ := heo
      exact ⟨v, by rw [hbe]; exact hv⟩
    · refine (ok b u q).stay (fun c v hc r => k c v ?_ r) (fun c r => by rw [upd_ne (nown c b r)]; exact r) fun c xs r => by rw [upd_ne (ntup c xs r)]; exact r
      rcases hc with rfl | hc
      · exact hbe
      · rintro rfl
        rcases he with z | z
        · exact nown c b hc z
        · rw [hc] at z; cases z; exact hb rfl
end

structure Un (fs ex : List Addr) (H H' : Hp) (h h' : Heap) : Prop where
  keep : ∀ b o, h.get? b = some o → H b = none → b ∉ fs → b ∉ ex → h'.get? b = some o
  slot : ∀ b o, h.get? b = some o → H b = none → b ∈ fs → b ∉ ex → ∃ sl, h'.get? b = some { o with slots := sl }
  free : ∀ b o, h.get? b = some o → H b = none → b ∉ ex → H' b = none
  there : ∀ b o, h.get? b = some o → b ∉ ex → ∃ o', h'.get? b = some o'
  tups : ∀ b xs, H b = some (.tup xs) → H' b = some (.tup xs)
  frzs : ∀ b o u, H b = some (.frz o u) → H' b = some (.frz o u)
  tbls : ∀ b ps, H b = some (.tbl ps) → ∃ more, H' b = some (.tbl (ps ++ more))
section
variable {fs fs' ex ex' : List Addr} {H H1 H2 : Hp} {h h1 h2 h' : Heap} {a x e : Addr} {o : HO}
theorem Un.any (u : Un fs ex H H1 h h1) {b : Addr} {ob : Obj} (q : h.get? b = some ob) (n : H b = none) (hx : b ∉ ex) : ∃ sl, h1.get? b = some { ob with slots := sl } := by
  by_cases hb : b ∈ fs
  · exact u.slot b ob q n hb hx
  · exact ⟨ob.slots, u.keep b ob q n hb hx⟩
theorem Un.kept (k : ∀ b u, h.get? b = some u → h'.get? b = some u) : Un fs ex H H h h' :=
  ⟨fun b ob q _ _ _ => k b ob q, fun b ob q _ _ _ => ⟨ob.slots, k b ob q⟩, fun _ _ _ n _ => n, fun b ob q _ => ⟨ob, k b ob q⟩, fun _ _ q => q, fun _ _ _ q => q, fun _ ps q => ⟨#[], by rw [q]; simp⟩⟩
theorem Un.refl : Un fs ex H H h h := Un.kept fun _ _ q => q
theorem Un.laid (k : ∀ b u, h.get? b = some u → h'.get? b = some u) (hp : h.objs.size ≤ a) (hn : H a = none) : Un fs ex H (upd H a o) h h' where
  keep := fun b u q _ _ _ => k b u q
  slot := fun b u q _ _ _ => ⟨u.slots, k b u q⟩
  free := fun b u q n _ => by rw [upd_ne (Nat.ne_of_lt (Nat.lt_of_lt_of_le (Heap.lt_size q) hp))]; exact n
  there := fun b u q _ => ⟨u, k b u q⟩
  tups := fun b xs q => by rw [upd_ne (ne_of_none q hn)]; exact q
  frzs := fun b u xs q => by rw [upd_ne (ne_of_none q hn)]; exact q
  tbls := fun b ps q => ⟨#[], by rw [upd_ne (ne_of_none q hn), q]; simp⟩
theorem Un.write (mu : Mut (H x)) (he : e = x ∨ H e = some (.own x)) (k : ∀ b u, b ≠ e → h.get? b = some u → h'.get? b = some u) (heo : ∃ u, h'.get? e = some u) : Un fs ex H (upd H x o) h h' := by
  have hx : ∀ b, H b = none → b ≠ x := fun b n z => by subst z; rw [n] at mu; exact mu
  have hb : ∀ b, H b = none → b ≠ e := fun b n z => by
    subst z
    rcases he with r | r
    · exact hx b n r
    · rw [n] at r; cases r
  have hm : ∀ b u, H b = some u → ¬ Mut (some u) → b ≠ x := fun b u q nm z => by subst z; rw [q] at mu; exact nm mu
  refine ⟨fun b u q n _ _ => k b u (hb b n) q, fun b u q n _ _ => ⟨u.slots, k b u (hb b n) q⟩, fun b u q n _ => by rw [upd_ne (hx b n)]; exact n, fun b u q _ => ?_,
    fun b xs q => by rw [upd_ne (hm b _ q fun z => z)]; exact q, fun b u xs q => by rw [upd_ne (hm b _ q fun z => z)]; exact q, fun b ps q => ⟨#[], by rw [upd_ne (hm b _ q fun z => z), q]; simp⟩⟩
  by_cases hbe : b = e
  · subst hbe; exact heo
  · exact ⟨u, k b u hbe q⟩
end

noncomputable def trk (h : Heap) (H : Hp) : List Addr := (List.range h.objs.size).filter fun a => (H a).isSome
noncomputable def hidT (h : Heap) (H : Hp) : Heap := PySem.W.hideAll h (trk h H)
theorem hidT_size (h : Heap) (H : Hp) : (hidT h H).objs.size = h.objs.size := PySem.W.hideAll_size _ _
theorem hidT_get {h : Heap} {H : Hp} {b : Addr} {o : Obj} (e : h.get? b = some o) (n : H b = none) : (hidT h H).get? b = some o :=
  PySem.W.hideAll_get _ e fun hm => by
    have q : (H b).isSome = true := (List.mem_filter.mp hm).2
    rw [n] at q; simp at q
theorem of_hidT {h : Heap} {H : Hp} {b : Addr} {o : Obj} (e : (hidT h H).get? b = some o) : h.get? b = some o ∧ H b = none := by
  have e' : h.get? b = some o := PySem.W.of_hideAll (trk h H) e
  refine ⟨e', ?_⟩
  cases q : H b with
  | none => rfl
  | some x =>
    have hm : b ∈ trk h H := List.mem_filter.mpr ⟨List.mem_range.mpr (Heap.lt_size e'), by simp [q]⟩
    have z : (hidT h H).get? b = none := PySem.W.hideAll_none (trk h H) hm
    rw [z] at e; cases e

noncomputable def allNews (g h : Heap) (L : Addr) : List (Addr × Obj) := (List.range h.objs.size).filterMap fun a => if a = L ∨ (g.get? a).isSome = true then none else (h.get? a).map fun o => (a, o)
noncomputable def rest (g h : Heap) (L d : Addr) : List (Addr × Obj) := (allNews g h L).filter fun p => decide (p.1 ≠ d)
end L2

namespace L2
open PySem PySem.Spec PyProof.Rows

structure Mod (K : PySem.W.Frag) (mg : Str → Option Value) (base : Heap) : Prop where
  kin : K.In base
  glob : base.Ns mainGlobals mg
  blt : ∃ mb, base.Ns builtinsNs mb ∧ ∀ x : Str, x ≠ "__name__" → mb x = bootBuiltins x
  nolimit : base.NoLimit

structure Cx where
  prog : Program
  w : World
  K : PySem.W.Frag
  mg : Str → Option Value
  base : Heap
  A : Around
  N : List Str
  s₀ : Shared
  H₀ : Hp
  env : Env
  outer : List Env
  stack : List Env
  ex : List Addr
  fn : Str → Bool
  calm : Bool
  pn : List (Addr × Obj)
  xe : Value → Shared → Prop
noncomputable def frs (l : List Env) : List Addr := l.filterMap (·.frame)
noncomputable abbrev Cx.fs (X : Cx) : List Addr := frs X.outer

noncomputable def Vis (sc : Scope) (x : Str) : Prop := sc.names.lookup x = some .local ∨ sc.names.lookup x = some .cell ∨ sc.names.lookup x = some .free
noncomputable def Loc (sc : Scope) (x : Str) : Prop := sc.names.lookup x = some .local ∨ sc.names.lookup x = some .cell
noncomputable def Look (env : Env) (h : Heap) (m : Str → Option Value) (x : Str) (u : Value) : Prop :=
  (env.kindOf x = some .local ∧ m x = some u) ∨ ((env.kindOf x = some .cell ∨ env.kindOf x = some .free) ∧ ∃ c, env.cells.lookup x = some c ∧ h.IsCell c (some u))

structure Cx.Ok (X : Cx) : Prop where
  mod : Mod X.K X.mg X.base
  kind : X.env.scope.kind = .function
  glob : X.env.globals = mainGlobals
  blt : X.env.builtins = builtinsNs
  above : X.s₀.heap.objs.size ≤ X.env.locals
  inj : ∀ x y c, X.env.cells.lookup x = some c → X.env.cells.lookup y = some c → x = y
  has : ∀ x, (X.env.kindOf x = some .cell ∨ X.env.kindOf x = some .free) → ∃ c, X.env.cells.lookup x = some c
  cab : ∀ x c, X.fn x = true → X.env.cells.lookup x = some c → X.s₀.heap.objs.size ≤ c
  hd : X.calm = true → X.A.handled = none
  frames : X.A.frames = some X.stack
  stk : X.stack = X.outer ∨ (X.stack = X.env :: X.outer ∧ X.env.frame = some X.env.locals)
  exf : ∀ b ∈ X.ex, b ≠ X.env.locals ∧ ∀ x c, X.env.cells.lookup x = some c → c ≠ b
  bs : ∀ b o, X.base.get? b = some o → X.s₀.heap.get? b = some o ∧ X.H₀ b = none
  bsz : X.base.objs.size ≤ X.s₀.heap.objs.size
  noex : ∀ b o, X.base.get? b = some o → b ∉ X.ex
  exfs : ∀ b ∈ X.ex, b ∉ X.fs
  funs : X.s₀.heap.FunFrames X.base X.outer
  frf : ∀ b ∈ X.fs, X.H₀ b = none

structure Inv (X : Cx) (pins : List (Addr × Obj)) (σ : List (Option V)) (H : Hp) (s : Shared) : Prop where
  ok : X.Ok
  os : s.os = X.s₀.os
  bare : AllBare s.gens
  base : Un X.fs X.ex X.H₀ H X.s₀.heap s.heap
  loc : ∃ m, s.heap.Ns X.env.locals m ∧ ∀ (i : Nat) (x : Str) (v : V), X.N[i]? = some x → σ[i]? = some (some v) → Vis X.env.scope x → ∃ u, RelV v u ∧ Look X.env s.heap m x u
  cell : ∀ x c, X.env.cells.lookup x = some c → ∃ v, s.heap.IsCell c v
  free : H X.env.locals = none
  freeC : ∀ x c, X.env.cells.lookup x = some c → H c = none
  pin : ∀ p ∈ X.pn ++ pins, s.heap.get? p.1 = some p.2 ∧ H p.1 = none ∧ p.1 ≠ X.env.locals ∧ p.1 ∉ X.fs ∧ ∀ v, p.2.data ≠ .cell v
  hok : HOk X.prog X.w H s.heap
  len : σ.length = X.N.length

section
variable {X : Cx} {pins : List (Addr × Obj)} {σ : List (Option V)} {H H' : Hp} {s : Shared} {h' : Heap}

theorem Cx.Ok.nofr (ok : X.Ok) {b : Addr} {o : Obj} (e : X.base.get? b = some o) : b ∉ X.fs := fun hb => by
  have := (ok.funs.mem hb).1
  rw [e] at this; cases this
theorem Inv.bs (I : Inv X pins σ H s) : ∀ b o, X.base.get? b = some o → s.heap.get? b = some o ∧ H b = none := fun b o e =>
  ⟨I.base.keep b o (I.ok.bs b o e).1 (I.ok.bs b o e).2 (I.ok.nofr e) (I.ok.noex b o e), I.base.free b o (I.ok.bs b o e).1 (I.ok.bs b o e).2 (I.ok.noex b o e)⟩
theorem Inv.bk (I : Inv X pins σ H s) : ∀ b o, X.base.get? b = some o → s.heap.get? b = some o := fun b o e => (I.bs b o e).1
theorem Inv.mod (I : Inv X pins σ H s) : Mod X.K X.mg X.base := I.ok.mod
theorem Inv.kIn (I : Inv X pins σ H s) : X.K.In s.heap := I.ok.mod.kin.keeps I.bk
theorem Inv.lt (I : Inv X pins σ H s) : X.env.locals < s.heap.objs.size := let ⟨_, hn, _⟩ := I.loc; hn.lt
theorem Inv.sz (I : Inv X pins σ H s) : X.s₀.heap.objs.size ≤ s.heap.objs.size := Nat.le_trans I.ok.above (Nat.le_of_lt I.lt)
theorem Inv.nofs (I : Inv X pins σ H s) {a : Addr} (h : s.heap.objs.size ≤ a) : a ∉ X.fs := fun hb => by
  obtain ⟨_, o, ho, _⟩ := I.ok.funs.mem hb
  exact absurd (Nat.lt_of_lt_of_le (Heap.lt_size ho) (Nat.le_trans I.sz h)) (Nat.lt_irrefl _)
theorem Inv.cne (I : Inv X pins σ H s) : ∀ x c, X.env.cells.lookup x = some c → c ≠ X.env.locals := fun x c e z => by
  obtain ⟨v, o, ho, hd⟩ := I.cell x c e
  obtain ⟨m, ⟨o', es, ep, ho', hd', _⟩, _⟩ := I.loc
  rw [z, ho'] at ho; cases ho; rw [hd'] at hd; cases hd
theorem Inv.funs (I : Inv X pins σ H s) : s.heap.FunFrames X.base X.outer := by
  have all : ∀ (l : List Env), (∀ b ∈ frs l, b ∈ X.fs) → X.s₀.heap.FunFrames X.base l → s.heap.FunFrames X.base l := by
    intro l
    induction l with
    | nil => intro _ _; trivial
    | cons env r ih =>
      intro hs hl
      obtain ⟨hk, ⟨L, o, hf, hn, ho, hd⟩, hr⟩ := hl
      have hL : L ∈ X.fs := hs L (by unfold frs; rw [List.filterMap_cons, hf]; exact List.mem_cons_self)
      obtain ⟨sl, e⟩ := I.base.slot L o ho (I.ok.frf L hL) hL fun z => I.ok.exfs L z hL
      exact ⟨hk, ⟨L, _, hf, hn, e, hd⟩, ih (fun b hb => hs b (by unfold frs; rw [List.filterMap_cons, hf]; exact List.mem_cons_of_mem _ hb)) hr⟩
  exact all X.outer (fun _ hb => hb) I.ok.funs

theorem Inv.stack (I : Inv X pins σ H s) : s.heap.FunFrames X.base X.stack := by
  rcases I.ok.stk with e | ⟨e, hf⟩
  · rw [e]; exact I.funs
  · rw [e]
    obtain ⟨m, hn, _⟩ := I.loc
    refine .cons (by rw [I.ok.kind]; decide) hf hn ?_ I.funs
    exact Heap.get?_none_of_le (Nat.le_trans I.ok.bsz I.ok.above)
theorem Inv.stkSub (I : Inv X pins σ H s) : ∀ b ∈ frs X.stack, b ∈ X.env.locals :: X.fs := fun b hb => by
  rcases I.ok.stk with e | ⟨e, hf⟩
  · rw [e] at hb; exact List.mem_cons_of_mem _ hb
  · rw [e] at hb
    unfold frs at hb
    rw [List.filterMap_cons, hf] at hb
    exact hb
theorem Inv.stkFree (I : Inv X pins σ H s) : ∀ b ∈ frs X.stack, H b = none := fun b hb => by
  rcases List.mem_cons.mp (I.stkSub b hb) with e | hb
  · rw [e]; exact I.free
  · obtain ⟨_, o, ho, _⟩ := I.ok.funs.mem hb
    exact I.base.free b o ho (I.ok.frf b hb) fun z => I.ok.exfs b z hb

theorem Inv.step {g' : Array GenState} {t' : Nat} {d' : Drawn} {ch : List Addr} (I : Inv X pins σ H s)
    (hch : ∀ b ∈ ch, (b ∈ X.ex ∨ X.s₀.heap.objs.size ≤ b) ∧ b ≠ X.env.locals ∧ (∀ x c, X.env.cells.lookup x = some c → c ≠ b) ∧ ∀ p ∈ X.pn ++ pins, p.1 ≠ b)
    (keep : ∀ b o, b ≠ X.env.locals → b ∉ X.fs → b ∉ ch → s.heap.get? b = some o → H b = none → h'.get? b = some o)
    (slot : ∀ b o, b ≠ X.env.locals → b ∈ X.fs → b ∉ ch → s.heap.get? b = some o → H b = none → ∃ sl, h'.get? b = some { o with slots := sl }) (free : ∀ b o, b ∉ ch → s.heap.get? b = some o → H b = none → H' b = none)
    (there : ∀ b o, b ∉ ch → s.heap.get? b = some o → ∃ o', h'.get? b = some o')
    (tups : ∀ b xs, H b = some (.tup xs) → H' b = some (.tup xs)) (frzs : ∀ b o u, H b = some (.frz o u) → H' b = some (.frz o u)) (tbls : ∀ b ps, H b = some (.tbl ps) → ∃ more, H' b = some (.tbl (ps ++ more)))
    (ns : ∀ m, s.heap.Ns X.env.locals m → h'.Ns X.env.locals m) (hok : HOk X.prog X.w H' h') (hg : AllBare g') :
    Inv X pins σ H' { s with heap := h', gens := g', drawn := d', toks := t' } := by
  have neL : ∀ b o, X.s₀.heap.get? b = some o → b ≠ X.env.locals := fun b o e => Nat.ne_of_lt (Nat.lt_of_lt_of_le (Heap.lt_size e) I.ok.above)
  have neC : ∀ b o, X.s₀.heap.get? b = some o → b ∉ X.ex → b ∉ ch := fun b o e hx hb => by
    rcases (hch b hb).1 with z | z
    · exact hx z
    · exact absurd (Nat.lt_of_lt_of_le (Heap.lt_size e) z) (Nat.lt_irrefl _)
  have cellK : ∀ x c, X.env.cells.lookup x = some c → ∀ v, s.heap.IsCell c v → h'.IsCell c v := fun x c e v ⟨o, ho, hd⟩ => by
    have nch : c ∉ ch := fun z => (hch c z).2.2.1 x c e rfl
    by_cases hc : c ∈ X.fs
    · obtain ⟨sl, q⟩ := slot c o (I.cne x c e) hc nch ho (I.freeC x c e)
      exact ⟨_, q, hd⟩
    · exact ⟨o, keep c o (I.cne x c e) hc nch ho (I.freeC x c e), hd⟩
  refine ⟨I.ok, I.os, hg, ⟨fun b o e n hb hx => ?_, fun b o e n hb hx => ?_, fun b o e n hx => ?_, fun b o e hx => ?_, fun b xs e => tups b xs (I.base.tups b xs e), fun b o xs e => frzs b o xs (I.base.frzs b o xs e), fun b ps e => ?_⟩, ?_, fun x c e => ?_, ?_, fun x c e => ?_, fun p hp => ?_, hok, I.len⟩
  · exact keep b o (neL b o e) hb (neC b o e hx) (I.base.keep b o e n hb hx) (I.base.free b o e n hx)
  · obtain ⟨sl, e1⟩ := I.base.slot b o e n hb hx
    obtain ⟨sl', e2⟩ := slot b _ (neL b o e) hb (neC b o e hx) e1 (I.base.free b o e n hx)
    exact ⟨sl', e2⟩
  · obtain ⟨o', e1⟩ := I.base.there b o e hx
    exact free b o' (neC b o e hx) e1 (I.base.free b o e n hx)
  · obtain ⟨o', e1⟩ := I.base.there b o e hx
    exact there b o' (neC b o e hx) e1
  · obtain ⟨m1, e1⟩ := I.base.tbls b ps e
    obtain ⟨m2, e2⟩ := tbls b _ e1
    exact ⟨m1 ++ m2, by rw [e2, Array.append_assoc]⟩
  · obtain ⟨m, hn, hl⟩ := I.loc
    refine ⟨m, ns m hn, fun i x v e1 e2 e3 => ?_⟩
    obtain ⟨u, r, l⟩ := hl i x v e1 e2 e3
    refine ⟨u, r, ?_⟩
    rcases l with l | ⟨k, c, e, z⟩
    · exact .inl l
    · exact .inr ⟨k, c, e, cellK x c e _ z⟩
  · obtain ⟨v, z⟩ := I.cell x c e
    exact ⟨v, cellK x c e v z⟩
  · obtain ⟨m, ⟨o, _, _, ho, _⟩, _⟩ := I.loc
    exact free _ o (fun z => (hch _ z).2.1 rfl) ho I.free
  · obtain ⟨v, o, ho, hd⟩ := I.cell x c e
    exact free c o (fun z => (hch c z).2.2.1 x c e rfl) ho (I.freeC x c e)
  · obtain ⟨e, n, ne, nf, d⟩ := I.pin p hp
    have nch : p.1 ∉ ch := fun z => (hch p.1 z).2.2.2 p hp rfl
    exact ⟨keep p.1 p.2 ne nf nch e n, free p.1 p.2 nch e n, ne, nf, d⟩
theorem Inv.un {t' : Nat} (I : Inv X pins σ H s) (u : Un X.fs [] H H' s.heap h') (hok : HOk X.prog X.w H' h') : Inv X pins σ H' { s with heap := h', toks := t' } := by
  obtain ⟨m, ⟨o, es, ep, ho, r⟩, _⟩ := id I.loc
  obtain ⟨sl, hL⟩ := u.any ho I.free (by simp)
  exact I.step (g' := s.gens) (d' := s.drawn) (ch := []) (fun _ z => nomatch z) (fun b o _ hb _ e n => u.keep b o e n hb (by simp)) (fun b o _ hb _ e n => u.slot b o e n hb (by simp)) (fun b o _ e n => u.free b o e n (by simp)) (fun b o _ e => u.there b o e (by simp)) u.tups u.frzs u.tbls (fun m' hm => by
    obtain ⟨o', es', ep', ho', r'⟩ := hm
    rw [ho] at ho'; cases ho'
    exact ⟨_, es', ep', hL, r'⟩) hok I.bare
theorem Inv.call {g' : Array GenState} {t' : Nat} {d' : Drawn} {ch : List Addr} (I : Inv X pins σ H s) (u : Un (frs X.stack) ch H H' s.heap h') (hok : HOk X.prog X.w H' h') (hg : AllBare g')
    (hch : ∀ b ∈ ch, (b ∈ X.ex ∨ X.s₀.heap.objs.size ≤ b) ∧ b ≠ X.env.locals ∧ (∀ x c, X.env.cells.lookup x = some c → c ≠ b) ∧ ∀ p ∈ X.pn ++ pins, p.1 ≠ b) :
    Inv X pins σ H' { s with heap := h', gens := g', drawn := d', toks := t' } := by
  obtain ⟨m, ⟨o, es, ep, ho, r⟩, _⟩ := id I.loc
  obtain ⟨sl, hL⟩ := u.any ho I.free fun z => (hch _ z).2.1 rfl
  exact I.step (ch := ch) hch (fun b o hL hb hc e n => u.keep b o e n (fun z => (List.mem_cons.mp (I.stkSub b z)).elim hL hb) hc) (fun b o _ _ hc e n => u.any e n hc) (fun b o hc e n => u.free b o e n hc) (fun b o hc e => u.there b o e hc) u.tups u.frzs u.tbls (fun m' hm => by
    obtain ⟨o', es', ep', ho', r'⟩ := hm
    rw [ho] at ho'; cases ho'
    exact ⟨_, es', ep', hL, r'⟩) hok hg
theorem Inv.turned {t' : Nat} {it : Addr} (I : Inv X pins σ H s) (k : ∀ b o, b ≠ it → s.heap.get? b = some o → h'.get? b = some o) (hn : H it = none) (hL : it ≠ X.env.locals)
    (h1 : it ∈ X.ex ∨ X.s₀.heap.objs.size ≤ it) (h2 : ∀ x c, X.env.cells.lookup x = some c → c ≠ it) (h3 : ∀ p ∈ X.pn ++ pins, p.1 ≠ it) : Inv X pins σ H { s with heap := h', toks := t' } := by
  have nit : ∀ b u, H b = some u → b ≠ it := fun b u e z => by rw [z, hn] at e; cases e
  refine I.step (g' := s.gens) (d' := s.drawn) (ch := [it]) (fun b hb => ?_) (fun b o _ _ hc e _ => k b o (fun z => hc (by simp [z])) e) (fun b o _ _ hc e _ => ⟨o.slots, k b o (fun z => hc (by simp [z])) e⟩) (fun _ _ _ _ n => n)
    (fun b o hc e => ⟨o, k b o (fun z => hc (by simp [z])) e⟩) (fun _ _ e => e) (fun _ _ _ e => e) (fun b ps e => ⟨#[], by rw [e]; simp⟩) (fun m hm => ?_) (fun b u e => ?_) I.bare
  · have e : b = it := by simpa using hb
    subst e
    exact ⟨h1, hL, h2, h3⟩
  · obtain ⟨o, es, ep, ho, r⟩ := hm
    exact ⟨o, es, ep, k _ o (Ne.symm hL) ho, r⟩
  · refine (I.hok b u e).stay (fun c v hc q => k c v ?_ q) (fun _ q => q) fun _ _ q => q
    rcases hc with z | z
    · rw [z]; exact nit b u e
    · exact nit c _ z
theorem Inv.tok (I : Inv X pins σ H s) (t : Nat) : Inv X pins σ H { s with toks := t } := I.un (h' := s.heap) (t' := t) Un.refl I.hok
theorem Inv.kept {t' : Nat} (I : Inv X pins σ H s) (k : ∀ b u, s.heap.get? b = some u → h'.get? b = some u) : Inv X pins σ H { s with heap := h', toks := t' } := I.un (Un.kept k) (I.hok.kept k)
theorem Inv.laid {a : Addr} {o : HO} {t' : Nat} (I : Inv X pins σ H s) (k : ∀ b u, s.heap.get? b = some u → h'.get? b = some u) (hp : s.heap.objs.size ≤ a) (new : ObjOk X.prog X.w (upd H a o) h' a o) :
    Inv X pins σ (upd H a o) { s with heap := h', toks := t' } := I.un (Un.laid k hp (I.hok.fresh hp)) (I.hok.laid k hp new)
theorem Inv.write {x e : Addr} {o : HO} {t' : Nat} (I : Inv X pins σ H s) (mu : Mut (H x)) (he : e = x ∨ H e = some (.own x)) (k : ∀ b u, b ≠ e → s.heap.get? b = some u → h'.get? b = some u) (heo : ∃ u, h'.get? e = some u)
    (new : ObjOk X.prog X.w (upd H x o) h' x o) : Inv X pins σ (upd H x o) { s with heap := h', toks := t' } := I.un (Un.write mu he k heo) (I.hok.write mu he k heo new)
theorem Inv.pins_of {pins' : List (Addr × Obj)} (I : Inv X pins σ H s) (h : ∀ p ∈ pins', s.heap.get? p.1 = some p.2 ∧ H p.1 = none ∧ p.1 ≠ X.env.locals ∧ p.1 ∉ X.fs ∧ ∀ v, p.2.data ≠ .cell v) : Inv X pins' σ H s :=
  ⟨I.ok, I.os, I.bare, I.base, I.loc, I.cell, I.free, I.freeC, fun p hp => (List.mem_append.mp hp).elim (fun z => I.pin p (List.mem_append_left _ z)) (h p), I.hok, I.len⟩

theorem nodup_ix {N : List Str} (hN : N.Nodup) {i j : Nat} {x : Str} (a : N[i]? = some x) (b : N[j]? = some x) : i = j := by
  obtain ⟨h1, e1⟩ := List.getElem?_eq_some_iff.mp a
  obtain ⟨h2, e2⟩ := List.getElem?_eq_some_iff.mp b
  exact (List.getElem_inj hN).mp (e1.trans e2.symm)

theorem store_ok2 {M : Model} {A : Around} {E : Value → Shared → Prop} {i : Nat} {x : Str} {v : V} {u : Value} {Q : Unit → Shared → Prop} (I : Inv X pins σ H s) (hN : X.N.Nodup) (hi : X.N[i]? = some x) (hx : Loc X.env.scope x) (r : RelV v u)
    (h : ∀ s', Inv X pins (σ.set i (some v)) H s' → (∃ a, Heap.SameBut a s.heap s'.heap ∧ (a = X.env.locals ∨ X.env.cells.lookup x = some a)) → Q () s') (hf : X.fn x = true ∨ X.env.scope.names.lookup x = some .local := by first | exact .inl rfl | exact .inr rfl | assumption) : wpAny M A (storeName X.env x u) Q E s := by
  obtain ⟨m, hn, hl⟩ := id I.loc
  have hcls : (X.env.scope.kind == .class || (X.env.scope.kind == .module && X.env.locals != X.env.globals)) = false := by rw [I.ok.kind]; rfl
  have hiσ : i < σ.length := by rw [I.len]; exact (List.getElem?_eq_some_iff.mp hi).1
  have cne := I.cne
  have tracked : ∀ {a : Addr} {h' : Heap}, (∃ o, s.heap.get? a = some o ∧ H a = none) → Heap.SameBut a s.heap h' → HOk X.prog X.w H h' := fun {a h'} ha hs b ob e => by
    obtain ⟨_, _, hfree⟩ := ha
    refine (I.hok b ob e).stay (fun c w' hc q => (hs.2 c ?_).trans q) (fun _ q => q) fun _ _ q => q
    rintro rfl
    rcases hc with rfl | hc
    · rw [hfree] at e; cases e
    · rw [hfree] at hc; cases hc
  rcases hx with hk | hk
  · refine wpAny_storeName_local hk hn (fun h' hn' hs => ?_) hcls
    obtain ⟨oL, _, _, hoL, _⟩ := id hn
    refine h _ ⟨I.ok, I.os, I.bare, ⟨fun b o e n hb hx => ?_, fun b o e n hb hx => ?_, I.base.free, fun b o e hx => ?_, I.base.tups, I.base.frzs, I.base.tbls⟩, ⟨_, hn', fun j y v' e1 e2 e3 => ?_⟩, fun y c e => ?_, I.free, I.freeC, fun p hp => ?_, tracked ⟨oL, hoL, I.free⟩ hs, by simpa using I.len⟩ ⟨_, hs, .inl rfl⟩
    · exact (hs.2 b (Nat.ne_of_lt (Nat.lt_of_lt_of_le (Heap.lt_size e) I.ok.above))).trans (I.base.keep b o e n hb hx)
    · obtain ⟨sl, e1⟩ := I.base.slot b o e n hb hx
      exact ⟨sl, (hs.2 b (Nat.ne_of_lt (Nat.lt_of_lt_of_le (Heap.lt_size e) I.ok.above))).trans e1⟩
    · obtain ⟨o', e1⟩ := I.base.there b o e hx
      exact ⟨o', (hs.2 b (Nat.ne_of_lt (Nat.lt_of_lt_of_le (Heap.lt_size e) I.ok.above))).trans e1⟩
    · by_cases hj : j = i
      · subst hj
        rw [hi] at e1; cases e1
        rw [List.getElem?_set_self hiσ] at e2
        cases e2
        exact ⟨u, r, .inl ⟨hk, by simp⟩⟩
      · rw [List.getElem?_set_ne (Ne.symm hj)] at e2
        obtain ⟨u', r', q⟩ := hl j y v' e1 e2 e3
        refine ⟨u', r', ?_⟩
        rcases q with ⟨k, e⟩ | ⟨k, c, e, z⟩
        · refine .inl ⟨k, ?_⟩
          have : y ≠ x := fun e => hj (nodup_ix hN e1 (e ▸ hi))
          simp [this, e]
        · exact .inr ⟨k, c, e, z.sameBut hs (cne y c e)⟩
    · obtain ⟨w', z⟩ := I.cell y c e
      exact ⟨w', z.sameBut hs (cne y c e)⟩
    · obtain ⟨e, n, ne, nf, d⟩ := I.pin p hp
      exact ⟨(hs.2 p.1 ne).trans e, n, ne, nf, d⟩
  · have hfn : X.fn x = true := by
      rcases hf with z | z
      · exact z
      · rw [z] at hk; cases hk
    obtain ⟨c, hc⟩ := I.ok.has x (.inl hk)
    obtain ⟨w', z⟩ := I.cell x c hc
    refine wpAny_storeName_cell I.ok.kind hk hc z (fun h' hc' hs => ?_)
    obtain ⟨oc, hoc, hocd⟩ := id z
    refine h { s with heap := h' } ⟨I.ok, I.os, I.bare, ⟨fun b o e n hb hx => ?_, fun b o e n hb hx => ?_, I.base.free, fun b o e hx => ?_, I.base.tups, I.base.frzs, I.base.tbls⟩, ⟨m, hn.sameBut hs (Ne.symm (cne x c hc)), fun j y v' e1 e2 e3 => ?_⟩, fun y c' e => ?_, I.free, I.freeC, fun p hp => ?_, tracked ⟨oc, hoc, I.freeC x c hc⟩ hs, by simpa using I.len⟩ ⟨c, hs, .inr hc⟩
    · exact (hs.2 b (Nat.ne_of_lt (Nat.lt_of_lt_of_le (Heap.lt_size e) (I.ok.cab x c hfn hc)))).trans (I.base.keep b o e n hb hx)
    · obtain ⟨sl, e1⟩ := I.base.slot b o e n hb hx
      exact ⟨sl, (hs.2 b (Nat.ne_of_lt (Nat.lt_of_lt_of_le (Heap.lt_size e) (I.ok.cab x c hfn hc)))).trans e1⟩
    · obtain ⟨o', e1⟩ := I.base.there b o e hx
      exact ⟨o', (hs.2 b (Nat.ne_of_lt (Nat.lt_of_lt_of_le (Heap.lt_size e) (I.ok.cab x c hfn hc)))).trans e1⟩
    · by_cases hj : j = i
      · subst hj
        rw [hi] at e1; cases e1
        rw [List.getElem?_set_self hiσ] at e2
        cases e2
        exact ⟨u, r, .inr ⟨.inl hk, c, hc, hc'⟩⟩
      · rw [List.getElem?_set_ne (Ne.symm hj)] at e2
        obtain ⟨u', r', q⟩ := hl j y v' e1 e2 e3
        refine ⟨u', r', ?_⟩
        rcases q with q | ⟨k, c', e, z'⟩
        · exact .inl q
        · refine .inr ⟨k, c', e, z'.sameBut hs ?_⟩
          rintro rfl
          exact hj (nodup_ix hN e1 (I.ok.inj _ _ _ e hc ▸ hi))
    · by_cases hcc : c' = c
      · subst hcc; exact ⟨_, hc'⟩
      · obtain ⟨w2, z2⟩ := I.cell y c' e
        exact ⟨w2, z2.sameBut hs hcc⟩
    · obtain ⟨e, n, ne, nf, d⟩ := I.pin p hp
      refine ⟨(hs.2 p.1 ?_).trans e, n, ne, nf, d⟩
      intro q
      rw [q, hoc] at e
      have q' : oc = p.2 := Option.some.inj e
      exact d w' (by rw [← q']; exact hocd)
theorem store_ok {M : Model} {A : Around} {E : Value → Shared → Prop} {i : Nat} {x : Str} {v : V} {u : Value} {Q : Unit → Shared → Prop} (I : Inv X pins σ H s) (hN : X.N.Nodup) (hi : X.N[i]? = some x) (hx : Loc X.env.scope x) (r : RelV v u)
    (h : ∀ s', Inv X pins (σ.set i (some v)) H s' → Q () s') (hf : X.fn x = true ∨ X.env.scope.names.lookup x = some .local := by first | exact .inl rfl | exact .inr rfl | assumption) : wpAny M A (storeName X.env x u) Q E s :=
  store_ok2 I hN hi hx r (fun s' I' _ => h s' I') hf
theorem Inv.call' {s' : Shared} {ch : List Addr} (I : Inv X pins σ H s) (ho : s'.os = s.os) (u : Un (frs X.stack) ch H H' s.heap s'.heap) (hok : HOk X.prog X.w H' s'.heap) (hg : AllBare s'.gens)
    (hch : ∀ b ∈ ch, (b ∈ X.ex ∨ X.s₀.heap.objs.size ≤ b) ∧ b ≠ X.env.locals ∧ (∀ x c, X.env.cells.lookup x = some c → c ≠ b) ∧ ∀ p ∈ X.pn ++ pins, p.1 ≠ b) : Inv X pins σ H' s' := by
  obtain ⟨h', g', d', t', o'⟩ := s'
  have e : o' = s.os := ho
  subst e
  exact I.call (g' := g') (t' := t') (d' := d') u hok hg hch
end

noncomputable abbrev XK := Value → Option Addr → Hp → Prop
noncomputable abbrev St := List (Option V)
noncomputable abbrev VK := V → Hp → Prop
noncomputable abbrev TE := St → Hp → VK → Prop
noncomputable abbrev TT := St → Hp → (Bool → Hp → Prop) → Prop
noncomputable abbrev TA := St → Hp → (List V → Hp → Prop) → Prop
structure Ends where
  nx : St → Hp → Prop
  rt : VK
  bk : St → Hp → Prop := fun _ _ => False
  ct : St → Hp → Prop := fun _ _ => False
noncomputable abbrev TS := Ends → St → Hp → Prop

noncomputable def EP (X : Cx) (pins : List (Addr × Obj)) (σ : St) (Q : VK) (u : Value) (s' : Shared) : Prop := ∃ v H', Inv X pins σ H' s' ∧ RelV v u ∧ Q v H'
noncomputable def TP (X : Cx) (pins : List (Addr × Obj)) (σ : St) (Q : Bool → Hp → Prop) (b : Bool) (s' : Shared) : Prop := ∃ H', Inv X pins σ H' s' ∧ Q b H'
noncomputable def AP (X : Cx) (pins : List (Addr × Obj)) (σ : St) (Q : List V → Hp → Prop) (us : List Value) (s' : Shared) : Prop := ∃ vs H', Inv X pins σ H' s' ∧ Vals vs us ∧ Q vs H'
noncomputable def SP (X : Cx) (pins : List (Addr × Obj)) (D : Ends) (f : Flow) (s' : Shared) : Prop :=
  match f with
  | .next => ∃ σ' H', Inv X pins σ' H' s' ∧ D.nx σ' H'
  | .brk => ∃ σ' H', Inv X pins σ' H' s' ∧ D.bk σ' H'
  | .cont => ∃ σ' H', Inv X pins σ' H' s' ∧ D.ct σ' H'
  | .ret u => ∃ v σ' H', Inv X pins σ' H' s' ∧ RelV v u ∧ D.rt v H'

noncomputable def PE (X : Cx) (e : Expr) (t : TE) : Prop :=
  ∀ (pins : List (Addr × Obj)) (s : Shared) (σ : St) (H : Hp) (Q : VK), Inv X pins σ H s → t σ H Q → wpAny (model X.prog X.w) X.A (eval e X.env) (EP X pins σ Q) X.xe s
noncomputable def PT (X : Cx) (e : Expr) (t : TT) : Prop :=
  ∀ (pins : List (Addr × Obj)) (s : Shared) (σ : St) (H : Hp) (Q : Bool → Hp → Prop), Inv X pins σ H s → t σ H Q → wpAny (model X.prog X.w) X.A (isTrue e X.env (eval e X.env)) (TP X pins σ Q) X.xe s
noncomputable def PW (X : Cx) (e : Expr) (t : TT) : Prop :=
  ∀ (whole : Sem Value) (pins : List (Addr × Obj)) (s : Shared) (σ : St) (H : Hp) (Q : Bool → Hp → Prop), Inv X pins σ H s → t σ H Q → wpAny (model X.prog X.w) X.A (isTrue e X.env whole) (TP X pins σ Q) X.xe s
theorem PW.pt {X : Cx} {e : Expr} {t : TT} (h : PW X e t) : PT X e t := h _
noncomputable def PA (X : Cx) (es : List Expr) (t : TA) : Prop :=
  ∀ (pos : Pos) (pins : List (Addr × Obj)) (s : Shared) (σ : St) (H : Hp) (Q : List V → Hp → Prop), Inv X pins σ H s → t σ H Q → wpAny (model X.prog X.w) X.A (spliced (backTo pos (starEach es X.env))) (AP X pins σ Q) X.xe s
noncomputable def PS (X : Cx) (st : Stmt) (t : TS) : Prop :=
  ∀ (pins : List (Addr × Obj)) (s : Shared) (σ : St) (H : Hp) (D : Ends), Inv X pins σ H s → t D σ H → wpAny (model X.prog X.w) X.A (exec st X.env) (SP X pins D) X.xe s
noncomputable def PSs (X : Cx) (st : List Stmt) (t : TS) : Prop :=
  ∀ (pins : List (Addr × Obj)) (s : Shared) (σ : St) (H : Hp) (D : Ends), Inv X pins σ H s → t D σ H → wpAny (model X.prog X.w) X.A (execs st X.env) (SP X pins D) X.xe s
theorem thn {α : Type} {t : Sem α} {Q Q' : α → Shared → Prop} {M : Model} {A : Around} {E : Value → Shared → Prop} {s : Shared} (h : wpAny M A t Q E s) (hQ : ∀ a s, Q a s → Q' a s) : wpAny M A t Q' E s := wpAny_mono h hQ fun _ _ x => x
end L2

namespace L2
open PySem PySem.Spec PyProof.Rows
section
variable {X : Cx}


noncomputable def tVar (i : Nat) : TE := fun σ H Q => ∃ v, σ[i]? = some (some v) ∧ Q v H
noncomputable def tC (v : V) : TE := fun _ H Q => Q v H
theorem pe_var {i : Nat} {x : Str} {pos : Pos} (hN : X.N[i]? = some x) (hv : Vis X.env.scope x) (hd : (x == ("__debug__" : Str)) = false := by decide) (hcd : (x == ("__classdict__" : Str)) = false := by decide) : PE X (.Name x pos) (tVar i) := by
  intro pins s σ H Q I h
  obtain ⟨v, e, h⟩ := h
  obtain ⟨m, hn, hl⟩ := I.loc
  obtain ⟨u, r, l⟩ := hl i x v hN e hv
  have fin : EP X pins σ Q u s := ⟨v, H, I, r, h⟩
  rcases l with ⟨hk, hm⟩ | ⟨hk, c, hc, hcell⟩
  · exact wpAny_Name (wpAny_loadName_local I.ok.kind hk hn hm fin) hd
  · rcases hk with hk | hk
    · exact wpAny_Name (wpAny_loadName_cell I.ok.kind hk hc hcell fin) hd
    · exact wpAny_Name (wpAny_loadName_free I.ok.kind hk hc hcell fin hcd) hd
theorem pe_int {i j pos} : PE X (.Constant (.int i) j pos) (tC (.int i)) := fun _ _ _ H _ I h => wpAny_Constant_int ⟨.int i, H, I.tok _, ⟨_, rfl⟩, h⟩
theorem pe_bl {b j pos} : PE X (.Constant (.bool b) j pos) (tC (.bl b)) := fun _ _ _ H _ I h => Constant_bool ⟨.bl b, H, I, rfl, h⟩
theorem pe_str {x j pos} : PE X (.Constant (.str x) j pos) (tC (.str x)) := fun _ _ _ H _ I h => Calls.Constant_str ⟨.str x, H, I.tok _, ⟨_, rfl⟩, h⟩

noncomputable def Gl (X : Cx) (x : Str) : Prop := X.env.kindOf x = some .globalImplicit
theorem ld_glob {E : Value → Shared → Prop} {pins : List (Addr × Obj)} {s : Shared} {σ : St} {H : Hp} {x : Str} {u : Value} {pos : Pos} {Q : Value → Shared → Prop} (I : Inv X pins σ H s) (hg : Gl X x) (hm : X.mg x = some u) (h : Q u s)
    (hd : (x == ("__debug__" : Str)) = false := by decide) : wpAny (model X.prog X.w) X.A (eval (.Name x pos) X.env) Q E s :=
  Calls.Name_function_global I.ok.kind hg (Calls.loadGlobal_global (by rw [I.ok.glob]; exact I.mod.glob.keeps I.bk) hm h) hd
theorem ld_blt {E : Value → Shared → Prop} {pins : List (Addr × Obj)} {s : Shared} {σ : St} {H : Hp} {x : Str} {u : Value} {pos : Pos} {Q : Value → Shared → Prop} (I : Inv X pins σ H s) (hg : Gl X x) (hm : X.mg x = none) (hv : bootBuiltins x = some u) (h : Q u s)
    (hn : x ≠ "__name__" := by decide) (hd : (x == ("__debug__" : Str)) = false := by decide) : wpAny (model X.prog X.w) X.A (eval (.Name x pos) X.env) Q E s := by
  obtain ⟨mb, h1, h2⟩ := I.mod.blt
  exact Calls.Name_function_global I.ok.kind hg (Calls.loadGlobal_builtin (by rw [I.ok.glob]; exact I.mod.glob.keeps I.bk) hm (by rw [I.ok.blt]; exact h1.keeps I.bk) ((h2 x hn).trans hv) h) hd
theorem pe_glob {x : Str} {v : V} {u : Value} {pos : Pos} (hg : Gl X x) (hm : X.mg x = some u) (r : RelV v u) (hd : (x == ("__debug__" : Str)) = false := by decide) : PE X (.Name x pos) (tC v) :=
  fun _ _ _ H _ I h => ld_glob I hg hm ⟨v, H, I, r, h⟩ hd
theorem pe_bltn {x : Str} {v : V} {u : Value} {pos : Pos} (hg : Gl X x) (hm : X.mg x = none) (hv : bootBuiltins x = some u) (r : RelV v u) (hn : x ≠ "__name__" := by decide) (hd : (x == ("__debug__" : Str)) = false := by decide) : PE X (.Name x pos) (tC v) :=
  fun _ _ _ H _ I h => ld_blt I hg hm hv ⟨v, H, I, r, h⟩ hn hd

noncomputable def t2I (ta tb : TE) (k : Int → Int → Hp → Prop) : St → Hp → Prop := fun σ H => ta σ H fun x H1 => tb σ H1 fun y H2 => ∃ i j, x = .int i ∧ y = .int j ∧ k i j H2
noncomputable def tAdd (ta tb : TE) : TE := fun σ H Q => t2I ta tb (fun i j H2 => Q (.int (i + j)) H2) σ H
noncomputable def tSub (ta tb : TE) : TE := fun σ H Q => t2I ta tb (fun i j H2 => Q (.int (i - j)) H2) σ H
noncomputable def tMul (ta tb : TE) : TE := fun σ H Q => t2I ta tb (fun i j H2 => (-(2 ^ 64) < i ∧ i < 2 ^ 64) ∧ Q (.int (i * j)) H2) σ H
variable {a b : Expr} {ta tb : TE} {pos : Pos}

noncomputable def PC (X : Cx) (op : CmpOp) (a b : Expr) (t : TE) : Prop :=
  ∀ (pins : List (Addr × Obj)) (s : Shared) (σ : St) (H : Hp) (Q : VK), Inv X pins σ H s → t σ H Q →
    wpAny (model X.prog X.w) X.A (eval a X.env) (fun v s₁ => wpAny (model X.prog X.w) X.A (eval b X.env) (fun u s₂ => wpAny (model X.prog X.w) X.A (compareOp op v u) (EP X pins σ Q) X.xe s₂) X.xe s₁) X.xe s
noncomputable def tCmp (p : Int → Int → Bool) (ta tb : TE) : TE := fun σ H Q => t2I ta tb (fun i j H2 => Q (.bl (p i j)) H2) σ H
noncomputable abbrev tLt : TE → TE → TE := tCmp fun i j => decide (i < j)
noncomputable abbrev tLe : TE → TE → TE := tCmp fun i j => decide (i ≤ j)
noncomputable abbrev tGt : TE → TE → TE := tCmp fun i j => decide (j < i)
noncomputable abbrev tGe : TE → TE → TE := tCmp fun i j => decide (j ≤ i)
noncomputable abbrev tEqI : TE → TE → TE := tCmp fun i j => decide (i = j)
noncomputable abbrev tNeI : TE → TE → TE := tCmp fun i j => !decide (i = j)
noncomputable def tIsN (ta : TE) : TE := fun σ H Q => ta σ H fun x H1 => Q (.bl (decide (x = .non))) H1
noncomputable def tNotN (ta : TE) : TE := fun σ H Q => ta σ H fun x H1 => Q (.bl (!decide (x = .non))) H1
noncomputable def tB (t : TE) : TT := fun σ H Q => t σ H fun x H1 => ∃ c, x = .bl c ∧ Q c H1
theorem pt_val {e : Expr} {t : TE} (h : PE X e t) (he : ∀ whole, isTrue e X.env whole = (do let v ← whole; standAt e.pos; holding [v] (truthy v)) := by intro _; rfl) : PT X e (tB t) := by
  intro pins s σ H Q I hw
  refine isTrue_plain (thn (h pins s σ H _ I hw) fun v s1 ⟨x, H1, I1, r1, q1⟩ => ?_) (he _)
  obtain ⟨d, rfl, q⟩ := q1
  cases r1
  exact wpAny_truthy_bool ⟨H1, I1, q⟩

variable {tA tB' : TT} {rest : List Expr}
noncomputable def tAnd (t u : TT) : TT := fun σ H Q => t σ H fun c H1 => if c = true then u σ H1 Q else Q false H1
noncomputable def tOr (t u : TT) : TT := fun σ H Q => t σ H fun c H1 => if c = true then Q true H1 else u σ H1 Q
noncomputable def tNot (t : TT) : TT := fun σ H Q => t σ H fun c H1 => Q (!c) H1
theorem pw_and1 (ha : PT X a tA) : PW X (.BoolOp .And [a] pos) tA := by
  intro wh pins s σ H Q I h
  refine isTrue_and (thn (ha pins s σ H Q I h) fun c s1 e => ?_)
  cases c with
  | true => exact isTrue_and_nil e
  | false => exact e
theorem pw_or1 (ha : PT X a tA) : PW X (.BoolOp .Or [a] pos) tA := by
  intro wh pins s σ H Q I h
  refine isTrue_or (thn (ha pins s σ H Q I h) fun c s1 e => ?_)
  cases c with
  | false => exact isTrue_or_nil e
  | true => exact e
theorem pw_and (ha : PT X a tA) (hb : PW X (.BoolOp .And (b :: rest) pos) tB') : PW X (.BoolOp .And (a :: b :: rest) pos) (tAnd tA tB') := by
  intro wh pins s σ H Q I h
  refine isTrue_and (thn (ha pins s σ H _ I h) fun c s1 ⟨H1, I1, q1⟩ => ?_)
  cases c with
  | true => exact hb wh pins s1 σ H1 Q I1 q1
  | false => exact ⟨H1, I1, q1⟩
theorem pw_or (ha : PT X a tA) (hb : PW X (.BoolOp .Or (b :: rest) pos) tB') : PW X (.BoolOp .Or (a :: b :: rest) pos) (tOr tA tB') := by
  intro wh pins s σ H Q I h
  refine isTrue_or (thn (ha pins s σ H _ I h) fun c s1 ⟨H1, I1, q1⟩ => ?_)
  cases c with
  | true => exact ⟨H1, I1, q1⟩
  | false => exact hb wh pins s1 σ H1 Q I1 q1
theorem pt_not (ha : PT X a tA) : PT X (.UnaryOp .Not a pos) (tNot tA) := by
  intro pins s σ H Q I h
  exact isTrue_not (ha pins s σ H (fun c H1 => Q (!c) H1) I h)
noncomputable def tAndV (ta tb : TE) : TE := fun σ H Q => ta σ H fun x H1 => ∃ c, x = .bl c ∧ if c = true then tb σ H1 Q else Q (.bl false) H1
noncomputable def tOrV (ta tb : TE) : TE := fun σ H Q => ta σ H fun x H1 => ∃ c, x = .bl c ∧ if c = true then Q (.bl true) H1 else tb σ H1 Q
noncomputable def tNotV (ta : TE) : TE := fun σ H Q => ta σ H fun x H1 => ∃ c, x = .bl c ∧ Q (.bl (!c)) H1
theorem pe_one {op} {t : TE} (h : PE X a t) : PE X (.BoolOp op [a] pos) t := fun pins s σ H Q I hw => BoolOp_one (h pins s σ H Q I hw)
theorem pe_and (ha : PE X a ta) (hb : PE X (.BoolOp .And (b :: rest) pos) tb) : PE X (.BoolOp .And (a :: b :: rest) pos) (tAndV ta tb) := by
  intro pins s σ H Q I h
  refine BoolOp_and (thn (ha pins s σ H _ I h) fun v s1 ⟨x, H1, I1, r1, q1⟩ => ?_)
  obtain ⟨c, rfl, q1⟩ := q1
  cases r1
  refine wpAny_truthy_bool ?_
  cases c with
  | true => exact hb pins s1 σ H1 Q I1 q1
  | false => exact ⟨.bl false, H1, I1, rfl, q1⟩
theorem pe_not (ha : PE X a ta) : PE X (.UnaryOp .Not a pos) (tNotV ta) := by
  intro pins s σ H Q I h
  refine UnaryOp_ (thn (ha pins s σ H _ I h) fun v s1 ⟨x, H1, I1, r1, q1⟩ => ?_)
  obtain ⟨c, rfl, q1⟩ := q1
  cases r1
  exact not_of (wpAny_truthy_bool ⟨.bl (!c), H1, I1, rfl, q1⟩)
noncomputable def tIf (t : TT) (ta tb : TE) : TE := fun σ H Q => t σ H fun c H1 => if c = true then ta σ H1 Q else tb σ H1 Q
end
end L2

namespace L2
open PySem PySem.Spec PyProof.Rows

noncomputable def SqL (K : PySem.W.Frag) (H : Hp) (a : Addr) (xs : List V) : Prop :=
  Rd H a (.lst xs) ∨
    ∃ (o : Obj) (its : Array Value) (n : Nat), K.lookup a = some o ∧ o.cls = .type "list" ∧ o.dict = none ∧ o.data = .seq its n ∧ its.size ≤ sizeLine ∧ Vals xs its.toList
noncomputable def SqT (K : PySem.W.Frag) (H : Hp) (a : Addr) (xs : List V) : Prop :=
  Rd H a (.tup xs) ∨
    ∃ (o : Obj) (its : Array Value) (n : Nat), K.lookup a = some o ∧ o.cls = .type "tuple" ∧ o.data = .seq its n ∧ its.size ≤ sizeLine ∧ Vals xs its.toList
noncomputable def absV : Value → Option V
  | .none => some .non
  | .bool b => some (.bl b)
  | .int i _ => some (.int i)
  | .str x _ => some (.str x)
  | .bytes b _ => some (.byt b)
  | .float b _ => some (.flt b)
  | .ref a => some (.ref a)
  | .type n => some (.ty n)
  | _ => none
theorem RelV.abs {x : V} {u : Value} (r : RelV x u) : absV u = some x := by
  cases x with
  | non => cases r; rfl
  | bl _ => cases r; rfl
  | int _ => obtain ⟨t, rfl⟩ := r; rfl
  | str _ => obtain ⟨t, rfl⟩ := r; rfl
  | byt _ => obtain ⟨t, rfl⟩ := r; rfl
  | flt _ => obtain ⟨t, rfl⟩ := r; rfl
  | ref _ => cases r; rfl
  | ty _ => cases r; rfl
theorem RelV.inj {x y : V} {u : Value} (r : RelV x u) (q : RelV y u) : x = y := Option.some.inj (r.abs.symm.trans q.abs)
theorem Vals.inj : ∀ {xs ys : List V} {us : List Value}, Vals xs us → Vals ys us → xs = ys
  | _, _, _, .nil, .nil => rfl
  | _, _, _, .cons r t, .cons r' t' => by rw [r.inj r', Vals.inj t t']
section
variable {X : Cx} {pins : List (Addr × Obj)} {σ : St} {H : Hp} {s : Shared} {a : Addr} {xs ys : List V}
theorem Inv.list (I : Inv X pins σ H s) (h : SqL X.K H a xs) : ∃ its : List Value, Vals xs its ∧ PlainL s.heap a its.toArray ∧ xs.length ≤ sizeLine := by
  rcases h with h | ⟨o, its, n, hk, hc, hd, hs, hz, r⟩
  · obtain ⟨z, its, n, r, e⟩ := h.ok I.hok
    exact ⟨its, r, ⟨_, n, e, rfl, rfl, rfl⟩, z⟩
  · refine ⟨its.toList, r, ⟨o, n, I.kIn a o hk, hc, hd, by simpa using hs⟩, ?_⟩
    have e := r.length
    simp only [Array.length_toList] at e
    omega
theorem Inv.tuple (I : Inv X pins σ H s) (h : SqT X.K H a xs) : ∃ its : List Value, Vals xs its ∧ IsTup s.heap a its.toArray ∧ xs.length ≤ sizeLine := by
  rcases h with h | ⟨o, its, n, hk, hc, hs, hz, r⟩
  · obtain ⟨z, its, r, p⟩ := h.ok I.hok
    exact ⟨its, r, p, z⟩
  · refine ⟨its.toList, r, ⟨o, I.kIn a o hk, hc, n, by simpa using hs⟩, ?_⟩
    have e := r.length
    simp only [Array.length_toList] at e
    omega
theorem Inv.list_inj (I : Inv X pins σ H s) (h : SqL X.K H a xs) (h' : SqL X.K H a ys) : xs = ys := by
  obtain ⟨its, r, ⟨o, n, e, _, _, d⟩, _⟩ := I.list h
  obtain ⟨its', r', ⟨o', n', e', _, _, d'⟩, _⟩ := I.list h'
  rw [e] at e'; cases e'
  rw [d] at d'
  injection d' with d1 _
  have : its = its' := by simpa using congrArg Array.toList d1
  subst this
  exact r.inj r'
theorem Inv.tuple_inj (I : Inv X pins σ H s) (h : SqT X.K H a xs) (h' : SqT X.K H a ys) : xs = ys := by
  obtain ⟨its, r, ⟨o, e, _, n, d⟩, _⟩ := I.tuple h
  obtain ⟨its', r', ⟨o', e', _, n', d'⟩, _⟩ := I.tuple h'
  rw [e] at e'; cases e'
  rw [d] at d'
  injection d' with d1 _
  have : its = its' := by simpa using congrArg Array.toList d1
  subst this
  exact r.inj r'
end

noncomputable abbrev Cx.wish (X : Cx) (E : Value → Shared → Prop) : Cx := { X with xe := E }
noncomputable abbrev Cx.nox (X : Cx) : Cx := X.wish fun _ _ => False
theorem Cx.Ok.wish {X : Cx} (ok : X.Ok) (E : Value → Shared → Prop) : (X.wish E).Ok :=
  ⟨ok.mod, ok.kind, ok.glob, ok.blt, ok.above, ok.inj, ok.has, ok.cab, ok.hd, ok.frames, ok.stk, ok.exf, ok.bs, ok.bsz, ok.noex, ok.exfs, ok.funs, ok.frf⟩
theorem Cx.Ok.unwish {X : Cx} {E : Value → Shared → Prop} (ok : (X.wish E).Ok) : X.Ok :=
  ⟨ok.mod, ok.kind, ok.glob, ok.blt, ok.above, ok.inj, ok.has, ok.cab, ok.hd, ok.frames, ok.stk, ok.exf, ok.bs, ok.bsz, ok.noex, ok.exfs, ok.funs, ok.frf⟩
section
variable {X : Cx} {pins : List (Addr × Obj)} {σ : St} {H : Hp} {s : Shared} {E : Value → Shared → Prop}
theorem Inv.wish (I : Inv X pins σ H s) (E : Value → Shared → Prop) : Inv (X.wish E) pins σ H s := ⟨I.ok.wish E, I.os, I.bare, I.base, I.loc, I.cell, I.free, I.freeC, I.pin, I.hok, I.len⟩
theorem Inv.unwish (I : Inv (X.wish E) pins σ H s) : Inv X pins σ H s := ⟨I.ok.unwish, I.os, I.bare, I.base, I.loc, I.cell, I.free, I.freeC, I.pin, I.hok, I.len⟩
theorem SP.unwish {D : Ends} {f : Flow} {s' : Shared} (h : SP (X.wish E) pins D f s') : SP X pins D f s' := by
  cases f with
  | next => obtain ⟨σ', H', I, q⟩ := h; exact ⟨σ', H', I.unwish, q⟩
  | brk => obtain ⟨σ', H', I, q⟩ := h; exact ⟨σ', H', I.unwish, q⟩
  | cont => obtain ⟨σ', H', I, q⟩ := h; exact ⟨σ', H', I.unwish, q⟩
  | ret u => obtain ⟨v, σ', H', I, r, q⟩ := h; exact ⟨v, σ', H', I.unwish, r, q⟩
theorem PSs.nox {st : List Stmt} {t : TS} (h : PSs X.nox st t) : PSs X st t := fun pins s σ H D I hw =>
  wpAny_mono (h pins s σ H D (I.wish _) hw) (fun _ _ q => q.unwish) fun _ _ z => False.elim z
end

section
variable {X : Cx} {st : Stmt} {rest : List Stmt} {t u : TS} {e : Expr} {te : TE} {pos : Pos}
noncomputable def tNext : TS := fun D σ H => D.nx σ H
noncomputable def tSeq (t u : TS) : TS := fun D σ H => t { D with nx := u D } σ H
theorem pss_nil : PSs X [] tNext := fun _ _ σ H _ I h => wpAny_execs_nil ⟨σ, H, I, h⟩
theorem pss_cons (h1 : PS X st t) (h2 : PSs X rest u) : PSs X (st :: rest) (tSeq t u) := by
  intro pins s σ H D I h
  refine wpAny_execs_cons (thn (h1 pins s σ H { D with nx := u D } I h) fun f s1 q => ?_)
  cases f with
  | next =>
    obtain ⟨σ', H', I', q⟩ := q
    exact h2 pins s1 σ' H' D I' q
  | ret v => exact q
  | brk => exact q
  | cont => exact q
theorem pss_one (h1 : PS X st t) : PSs X [st] t := by
  intro pins s σ H D I h
  refine wpAny_execs_cons (thn (h1 pins s σ H D I h) fun f s1 q => ?_)
  cases f with
  | next => exact wpAny_execs_nil q
  | ret v => exact q
  | brk => exact q
  | cont => exact q
noncomputable def tBreak : TS := fun D σ H => D.bk σ H
noncomputable def tCont : TS := fun D σ H => D.ct σ H
theorem Inv.quiet {pins : List (Addr × Obj)} {σ : St} {H : Hp} {s : Shared} (I : Inv X pins σ H s) : interactive X.env = false := by simp [interactive, I.ok.kind]
noncomputable def tDrop (te : TE) : TS := fun D σ H => te σ H fun _ H1 => D.nx σ H1
theorem ps_expr (he : PE X e te) (hs : swapsWith e none pos.line X.env = pure false := by rfl) : PS X (.Expr e pos) (tDrop te) := by
  intro pins s σ H D I h
  exact wpAny_Expr_any (thn (he pins s σ H _ I h) fun v s1 ⟨x, H1, I1, r1, q1⟩ => ⟨σ, H1, I1, q1⟩) I.quiet hs
noncomputable def tRet (te : TE) : TS := fun D σ H => te σ H D.rt
theorem ps_ret (he : PE X e te) : PS X (.Return (some e) pos) (tRet te) := by
  intro pins s σ H D I h
  exact wpAny_Return_some (thn (he pins s σ H _ I h) fun v s1 ⟨x, H1, I1, r1, q1⟩ => ⟨x, σ, H1, I1, r1, q1⟩)
noncomputable def tRetN : TS := fun D _ H => D.rt .non H
noncomputable def tIfS (c : TT) (t u : TS) : TS := fun D σ H => c σ H fun b H1 => if b = true then t D σ H1 else u D σ H1
theorem ps_if {c : Expr} {a b : List Stmt} {tc : TT} (hc : PT X c tc) (ha : PSs X a t) (hb : PSs X b u) : PS X (.If c a b pos) (tIfS tc t u) := by
  intro pins s σ H D I h
  refine wpAny_If (thn (hc pins s σ H _ I h) fun d s1 ⟨H1, I1, q1⟩ => ?_)
  cases d with
  | true => exact ha pins s1 σ H1 D I1 q1
  | false => exact hb pins s1 σ H1 D I1 q1
noncomputable def tNever : TS := fun _ _ _ => False
theorem ps_never : PS X st tNever := fun _ _ _ _ _ _ h => h.elim
end

noncomputable abbrev TG := V → St → Hp → (St → Hp → Prop) → Prop
noncomputable abbrev TGs := List V → St → Hp → (St → Hp → Prop) → Prop
noncomputable def PG (X : Cx) (target : Expr) (t : TG) : Prop :=
  ∀ (pins : List (Addr × Obj)) (s : Shared) (σ : St) (H : Hp) (v : V) (u : Value) (Q : St → Hp → Prop), Inv X pins σ H s → RelV v u → t v σ H Q →
    wpAny (model X.prog X.w) X.A (assign target X.env u) (fun _ s' => ∃ σ' H', Inv X pins σ' H' s' ∧ Q σ' H') X.xe s
noncomputable def PGs (X : Cx) (ts : List Expr) (t : TGs) : Prop :=
  ∀ (pins : List (Addr × Obj)) (s : Shared) (σ : St) (H : Hp) (vs : List V) (us : List Value) (Q : St → Hp → Prop), Inv X pins σ H s → Vals vs us → t vs σ H Q →
    wpAny (model X.prog X.w) X.A (assignInOrder ((assignEach ts X.env).map (·.2)) us) (fun _ s' => ∃ σ' H', Inv X pins σ' H' s' ∧ Q σ' H') X.xe s
noncomputable abbrev TSet := V → V → V → Hp → (Hp → Prop) → Prop
noncomputable def PSet (X : Cx) (t : TSet) : Prop :=
  ∀ (pins : List (Addr × Obj)) (s : Shared) (σ : St) (H : Hp) (o i v : V) (ov iv u : Value) (Q : Hp → Prop), Inv X pins σ H s → RelV o ov → RelV i iv → RelV v u → t o i v H Q →
    wpAny (model X.prog X.w) X.A (setItem ov iv u) (fun _ s' => ∃ H', Inv X pins σ H' s' ∧ Q H') X.xe s
noncomputable abbrev TIp := V → V → Hp → VK → Prop
noncomputable def PIp (X : Cx) (op : Operator) (t : TIp) : Prop :=
  ∀ (pins : List (Addr × Obj)) (s : Shared) (σ : St) (H : Hp) (x y : V) (v u : Value) (Q : VK), Inv X pins σ H s → RelV x v → RelV y u → t x y H Q →
    wpAny (model X.prog X.w) X.A (inplaceOp op v u) (EP X pins σ Q) X.xe s
section
variable {X : Cx} {pos : Pos}
noncomputable def gName (i : Nat) : TG := fun v σ H Q => Q (σ.set i (some v)) H
theorem pg_name {i : Nat} {x : Str} (hN : X.N.Nodup) (hi : X.N[i]? = some x) (hx : Loc X.env.scope x) (hf : X.fn x = true ∨ X.env.scope.names.lookup x = some .local := by first | exact .inl rfl | exact .inr rfl | assumption) : PG X (.Name x pos) (gName i) := by
  intro pins s σ H v u Q I r h
  exact wpAny_assign_Name (store_ok I hN hi hx r (fun s' I' => ⟨_, H, I', h⟩) hf)
noncomputable def gNil : TGs := fun vs σ H Q => vs = [] ∧ Q σ H
noncomputable def gCons (t : TG) (u : TGs) : TGs := fun vs σ H Q => ∃ v r, vs = v :: r ∧ t v σ H fun σ' H' => u r σ' H' Q
theorem pgs_nil : PGs X [] gNil := by
  intro pins s σ H vs us Q I r h
  obtain ⟨e, h⟩ := h
  subst e
  cases r
  exact assignInOrder_nil ⟨σ, H, I, h⟩
theorem pgs_cons {e : Expr} {es : List Expr} {t : TG} {u : TGs} (h1 : PG X e t) (h2 : PGs X es u)
    (hs : (assignEach (e :: es) X.env).map (·.2) = assign e X.env :: (assignEach es X.env).map (·.2) := by rfl) : PGs X (e :: es) (gCons t u) := by
  intro pins s σ H vs us Q I r h
  obtain ⟨v, vr, e1, h⟩ := h
  subst e1
  cases r with
  | cons r rr =>
    rw [hs]
    refine assignInOrder_cons (thn (h1 pins s σ H _ _ _ I r h) fun _ s1 ⟨σ1, H1, I1, q1⟩ => ?_)
    exact h2 pins s1 σ1 H1 _ _ Q I1 rr q1
noncomputable def gTup (K : PySem.W.Frag) (n : Nat) (t : TGs) : TG := fun v σ H Q => ∃ a xs, v = .ref a ∧ SqT K H a xs ∧ xs.length = n ∧ t xs σ H Q
theorem pg_tup {es : List Expr} {k : Nat} {t : TGs} {n : Nat} (hc : X.calm = true) (h : PGs X es t)
    (hn : (assignEach es X.env).length = n := by rfl) (hst : (assignEach es X.env).findIdx? (·.1) = none := by rfl) : PG X (.Tuple es k pos) (gTup X.K n t) := by
  intro pins s σ H v u Q I r hw
  obtain ⟨a, xs, e1, hq, hl, hw⟩ := hw
  subst e1
  cases r
  obtain ⟨its, rv, ht, hz⟩ := I.tuple hq
  refine assign_Tuple_tuple (I.ok.hd hc) ht (by simp [hn, ← hl, rv.length]) hst fun h' hx => ?_
  have I1 : Inv X pins σ H { s with heap := h' } := I.kept (t' := s.toks) fun b o e => hx b o (Nat.ne_of_lt (Heap.lt_size e)) e
  exact h pins _ σ H xs _ Q I1 (by simpa using rv) hw
noncomputable def gSub (to ti : TE) (t : TSet) : TG := fun v σ H Q => to σ H fun o H1 => ti σ H1 fun i H2 => t o i v H2 fun H3 => Q σ H3
noncomputable def tAsg (te : TE) (g : TG) : TS := fun D σ H => te σ H fun x H1 => g x σ H1 D.nx
theorem ps_asg {tg e : Expr} {te : TE} {g : TG} (he : PE X e te) (hg : PG X tg g) (hs : swapsWithSole [tg] e pos.line X.env = pure false := by rfl) (hw : swappedStores [tg] e X.env = pure none := by rfl)
    (h1 : (assignEach [tg] X.env).map (·.2) = [assign tg X.env] := by rfl) : PS X (.Assign [tg] e pos) (tAsg te g) := by
  intro pins s σ H D I h
  refine wpAny_Assign_stores (thn (he pins s σ H _ I h) fun v s1 ⟨x, H1, I1, r1, q1⟩ => ?_) hs hw
  rw [h1]
  exact thn (hg pins s1 σ H1 x v _ I1 r1 q1) fun _ s2 q => q
theorem ps_set {i : Nat} {x : Str} {e : Expr} {te : TE} {pos' : Pos} (hN : X.N.Nodup) (hi : X.N[i]? = some x) (hx : Loc X.env.scope x) (he : PE X e te) (hs : swapsWith e (some (.Name x pos')) pos.line X.env = pure false := by rfl) (hf : X.fn x = true ∨ X.env.scope.names.lookup x = some .local := by first | exact .inl rfl | exact .inr rfl | assumption) :
    PS X (.Assign [.Name x pos'] e pos) (tAsg te (gName i)) := by
  intro pins s σ H D I h
  refine wpAny_Assign_Name (thn (he pins s σ H _ I h) fun v s1 ⟨y, H1, I1, r1, q1⟩ => ?_) hs
  exact store_ok I1 hN hi hx r1 (fun s2 I2 => ⟨_, H1, I2, q1⟩) hf
noncomputable def tPar (i j : Nat) (ta : TA) : TS := fun D σ H => ta σ H fun vs H1 => ∃ v w, vs = [v, w] ∧ D.nx ((σ.set i (some v)).set j (some w)) H1
noncomputable def tAug (i : Nat) (te : TE) (ti : TIp) : TS := fun D σ H => ∃ x, σ[i]? = some (some x) ∧ te σ H fun y H1 => ti x y H1 fun z H2 => D.nx (σ.set i (some z)) H2
theorem ps_aug {i : Nat} {x : Str} {e : Expr} {te : TE} {op : Operator} {ti : TIp} {pos' : Pos} (hN : X.N.Nodup) (hi : X.N[i]? = some x) (hx : Loc X.env.scope x) (he : PE X e te) (ho : PIp X op ti) (hf : X.fn x = true ∨ X.env.scope.names.lookup x = some .local := by first | exact .inl rfl | exact .inr rfl | assumption) :
    PS X (.AugAssign (.Name x pos') op e pos) (tAug i te ti) := by
  intro pins s σ H D I h
  obtain ⟨v, e1, h⟩ := h
  obtain ⟨m, hn, hl⟩ := I.loc
  have vis : Vis X.env.scope x := by rcases hx with k | k; exact .inl k; exact .inr (.inl k)
  obtain ⟨u, r, l⟩ := hl i x v hi e1 vis
  refine wpAny_AugAssign_Name ?_
  have go : wpAny (model X.prog X.w) X.A (eval e X.env) (fun w s₂ => wpAny (model X.prog X.w) X.A (inplaceOp op u w) (fun r s₃ => wpAny (model X.prog X.w) X.A (storeName X.env x r) (fun _ => SP X pins D .next) X.xe s₃) X.xe s₂) X.xe s := by
    refine thn (he pins s σ H _ I h) fun w s1 ⟨y, H1, I1, r1, q1⟩ => ?_
    refine thn (ho pins s1 σ H1 v y u w _ I1 r r1 q1) fun z s2 ⟨zv, H2, I2, r2, q2⟩ => ?_
    exact store_ok I2 hN hi hx r2 (fun s3 I3 => ⟨_, H2, I3, q2⟩) hf
  rcases l with ⟨hk, hm⟩ | ⟨hk, c, hc, hcell⟩
  · exact wpAny_loadName_local I.ok.kind hk hn hm go
  · rcases hk with hk | hk
    · exact wpAny_loadName_cell I.ok.kind hk hc hcell go
    · rcases hx with k | k
      · have : X.env.scope.names.lookup x = some .free := hk
        rw [k] at this; cases this
      · have : X.env.scope.names.lookup x = some .free := hk
        rw [k] at this; cases this
noncomputable def tAugS (to ti te : TE) (tget : V → V → Hp → VK → Prop) (tip : TIp) (tset : TSet) : TS := fun D σ H => to σ H fun o H1 => ti σ H1 fun i H2 => tget o i H2 fun x H3 => te σ H3 fun y H4 => tip x y H4 fun z H5 => tset o i z H5 fun H6 => D.nx σ H6
noncomputable def PGet (X : Cx) (t : V → V → Hp → VK → Prop) : Prop :=
  ∀ (pins : List (Addr × Obj)) (s : Shared) (σ : St) (H : Hp) (o i : V) (ov iv : Value) (Q : VK), Inv X pins σ H s → RelV o ov → RelV i iv → t o i H Q →
    wpAny (model X.prog X.w) X.A (getItem ov iv) (EP X pins σ Q) X.xe s
noncomputable def ipI (f : Int → Int → Int) : TIp := fun x y H Q => ∃ i j, x = .int i ∧ y = .int j ∧ Q (.int (f i j)) H
theorem ip_add : PIp X .Add (ipI fun i j => i + j) := by
  intro pins s σ H x y v u Q I r1 r2 h
  obtain ⟨i, j, e1, e2, q⟩ := h
  subst e1; subst e2
  obtain ⟨t, rfl⟩ := r1
  obtain ⟨t', rfl⟩ := r2
  exact iadd_int ⟨.int _, H, I.tok _, ⟨_, rfl⟩, q⟩
end

section
variable {X : Cx} {pos : Pos}
noncomputable def tWhile (c : TT) (tb : TS) : TS := fun D σ H => ∃ W : Nat → St → Hp → Prop, (∃ m, W m σ H) ∧ ∀ m σ H, W m σ H →
  c σ H fun b H1 => if b = true then ∃ N : St → Hp → Prop, (∀ σ' H', N σ' H' → ∃ m', m' < m ∧ W m' σ' H') ∧ tb { D with nx := N, ct := N, bk := D.nx } σ H1 else D.nx σ H1
theorem ps_while {c : Expr} {body : List Stmt} {tc : TT} {tb : TS} (hp : PassesOwn (model X.prog X.w) X.A X.env X.xe) (hc : PT X c tc) (hb : PSs X body tb) : PS X (.While c body [] pos) (tWhile tc tb) := by
  intro pins s σ H D I h
  obtain ⟨W, ⟨m0, w0⟩, turn⟩ := h
  refine wpAny_While (codeAny_whileLoop (fun n s' => ∃ σ' H', Inv X pins σ' H' s' ∧ W n σ' H') ?_ m0 ⟨σ, H, I, w0⟩)
  rintro n s1 ⟨σ1, H1, I1, w1⟩
  refine wpAny_passesOwn hp (thn (hc pins s1 σ1 H1 _ I1 (turn n σ1 H1 w1)) fun b s2 ⟨H2, I2, q2⟩ => ?_)
  cases b with
  | true =>
    obtain ⟨N, hN, q2⟩ := q2
    rw [if_pos rfl]
    refine wpAny_passesOwn hp (thn (hb pins s2 σ1 H2 _ I2 q2) fun f s3 q3 => ?_)
    cases f with
    | next =>
      obtain ⟨σ3, H3, I3, n3⟩ := q3
      obtain ⟨m', hm, w3⟩ := hN σ3 H3 n3
      exact ⟨m', hm, σ3, H3, I3, w3⟩
    | cont =>
      obtain ⟨σ3, H3, I3, n3⟩ := q3
      obtain ⟨m', hm, w3⟩ := hN σ3 H3 n3
      exact ⟨m', hm, σ3, H3, I3, w3⟩
    | brk => exact q3
    | ret v => exact q3
  | false =>
    rw [if_neg Bool.false_ne_true]
    exact wpAny_execs_nil ⟨σ1, H2, I2, q2⟩
end

structure It where
  go : Nat → Hp → Prop
  yld : Nat → Hp → V → Hp → Prop
  stop : Nat → Hp → Prop
noncomputable def FpOk (X : Cx) (pins : List (Addr × Obj)) (H : Hp) (b : Addr) : Prop :=
  H b = none ∧ b ≠ X.env.locals ∧ b ∉ X.fs ∧ (b ∈ X.ex ∨ X.s₀.heap.objs.size ≤ b) ∧ (∀ x c, X.env.cells.lookup x = some c → c ≠ b) ∧ ∀ p ∈ X.pn ++ pins, p.1 ≠ b
theorem Inv.fpOk {X : Cx} {pins : List (Addr × Obj)} {σ : St} {H H' : Hp} {s : Shared} {b : Addr} (I : Inv X pins σ H s) (hb : s.heap.objs.size ≤ b) (hn : H' b = none) : FpOk X pins H' b := by
  refine ⟨hn, Nat.ne_of_gt (Nat.lt_of_lt_of_le I.lt hb), I.nofs hb, .inr (Nat.le_trans I.sz hb), fun x c e z => ?_, fun p hp z => ?_⟩
  · obtain ⟨v, q⟩ := I.cell x c e
    exact absurd (Nat.lt_of_lt_of_le q.lt (by rw [z]; exact hb)) (Nat.lt_irrefl _)
  · exact absurd (Nat.lt_of_lt_of_le (Heap.lt_size (I.pin p hp).1) (by rw [z]; exact hb)) (Nat.lt_irrefl _)
structure Turn (P : Program) (w : World) (K : PySem.W.Frag) (tg : Expr) (J : It) (fp : List Addr) (it : Addr) (tn : Nat → Heap → Prop) : Prop where
  mem : it ∈ fp
  obj : ∀ i h, tn i h → ∀ b ∈ fp, ∃ o, h.get? b = some o ∧ ∀ v, o.data ≠ .cell v
  keep : ∀ i h h', tn i h → (∀ b ∈ fp, ∀ o, h.get? b = some o → h'.get? b = some o) → tn i h'
  item : ∀ (X : Cx), X.prog = P → X.w = w → X.K = K → X.calm = true → ∀ (i : Nat) (pins : List (Addr × Obj)) (s : Shared) (σ : St) (H : Hp) (E : Value → Shared → Prop), Inv X pins σ H s → (∀ b ∈ fp, FpOk X pins H b) → tn i s.heap → J.go i H →
    wpAny (model P w) X.A (pyNext (.ref it)) (fun r s1 => ∃ u, r = some u ∧
      wpAny (model P w) X.A (letOwnedTupleGo tg (.ref it) u) (fun _ s2 => ∃ x H', Inv X pins σ H' s2 ∧ RelV x u ∧ J.yld i H x H' ∧ tn (i + 1) s2.heap ∧ ∀ b ∈ fp, H' b = none) E s1) E s
  done : ∀ (X : Cx), X.prog = P → X.w = w → X.K = K → X.calm = true → ∀ (i : Nat) (pins : List (Addr × Obj)) (s : Shared) (σ : St) (H : Hp) (E : Value → Shared → Prop), Inv X pins σ H s → (∀ b ∈ fp, FpOk X pins H b) → tn i s.heap → J.stop i H →
    wpAny (model P w) X.A (pyNext (.ref it)) (fun r s1 => r = none ∧ Inv X pins σ H s1) E s
  self : ∀ (A : Around) (i : Nat) (s : Shared) (Q : Value → Shared → Prop) (E : Value → Shared → Prop), tn i s.heap → Q (.ref it) s → wpAny (model P w) A (pyIter (.ref it)) Q E s
noncomputable abbrev TI := St → Hp → (It → Hp → Prop) → Prop
noncomputable def PIE (X : Cx) (pins : List (Addr × Obj)) (σ : St) (tg : Expr) (R : It → Hp → Prop) (itv : Value) (s2 : Shared) : Prop :=
  ∃ (it : Addr) (fp : List Addr) (tn : Nat → Heap → Prop) (J : It) (H' : Hp), itv = .ref it ∧ Inv X pins σ H' s2 ∧ Turn X.prog X.w X.K tg J fp it tn ∧ tn 0 s2.heap ∧ (∀ b ∈ fp, FpOk X pins H' b) ∧ R J H'
noncomputable def PI (X : Cx) (tg iter : Expr) (wi : TI) : Prop :=
  ∀ (pins : List (Addr × Obj)) (s : Shared) (σ : St) (H : Hp) (R : It → Hp → Prop), Inv X pins σ H s → wi σ H R →
    wpAny (model X.prog X.w) X.A (eval iter X.env) (fun v s1 => wpAny (model X.prog X.w) X.A (pyIter v) (PIE X pins σ tg R) X.xe s1) X.xe s

theorem go_of {M : Model} {A : Around} {E : Value → Shared → Prop} {s : Shared} {tg : Expr} {it : Addr} {u : Value} {o : Obj} {n : String} {vs : Array Value} {Q : Unit → Shared → Prop} (ho : s.heap.get? it = some o) (hc : o.cls = .type n) (hd : o.data = .fields vs)
    (hn : ["enumerate", "zip", "dict_itemiterator", "dict_reverseitemiterator", "odict_iterator", "itertools.zip_longest", "itertools.pairwise"].contains n = false) (hQ : Q () s) : wpAny M A (letOwnedTupleGo tg (.ref it) u) Q E s := by
  unfold letOwnedTupleGo
  cases tg <;> first
    | exact wpAny_pure hQ
    | (cases u <;> first
        | exact wpAny_pure hQ
        | (refine wpAny_bind (wpAny_load ho ?_)
           rw [hc, hd]
           show wpAny M A (if (["enumerate", "zip", "dict_itemiterator", "dict_reverseitemiterator", "odict_iterator", "itertools.zip_longest", "itertools.pairwise"].contains n && vs[0]? == some (rawInt _)) = true then _ else _) Q E s
           rw [if_neg (by intro h; rw [hn, Bool.false_and] at h; cases h)]
           exact wpAny_pure hQ))

noncomputable def Itl (K : PySem.W.Frag) (a : Addr) : It :=
  ⟨fun i H => ∃ xs x, SqL K H a xs ∧ xs[i]? = some x, fun i H x H' => H' = H ∧ ∀ xs, SqL K H a xs → xs[i]? = some x, fun i H => ∃ xs, SqL K H a xs ∧ xs.length ≤ i⟩
noncomputable def Itt (K : PySem.W.Frag) (a : Addr) : It :=
  ⟨fun i H => ∃ xs x, SqT K H a xs ∧ xs[i]? = some x, fun i H x H' => H' = H ∧ ∀ xs, SqT K H a xs → xs[i]? = some x, fun i H => ∃ xs, SqT K H a xs ∧ xs.length ≤ i⟩
noncomputable def Itr (lo : Int) (n : Nat) : It := ⟨fun i _ => i < n, fun i H x H' => H' = H ∧ x = .int (lo + i), fun i _ => n ≤ i⟩
theorem turn_list {P : Program} {w : World} {K : PySem.W.Frag} {tg : Expr} (a it : Addr) : Turn P w K tg (Itl K a) [it] it (fun i h => h.IsListIter it a i) where
  mem := by simp
  obj := fun i h st b hb => by
    have e : b = it := by simpa using hb
    subst e
    obtain ⟨o, e, c, d⟩ := st
    exact ⟨o, e, fun v z => by rw [d] at z; cases z⟩
  keep := fun i h h' st k => st.at fun o e => k it (by simp) o e
  item := by
    intro X hP hw hK hc i pins s σ H E I hf st hg
    subst hP hw hK
    obtain ⟨xs, x, hq, hx⟩ := hg
    obtain ⟨its, rv, p, hz⟩ := I.list hq
    obtain ⟨u, hu, ru⟩ := rv.get hx
    obtain ⟨f0, f1, f2, f3, f4, f5⟩ := hf it (by simp)
    refine wpAny_pyNext_list_item st p.isList (x := u) (by simpa using hu) fun h' st' sb => ?_
    have I1 : Inv X pins σ H { s with heap := h' } := I.turned (t' := s.toks) (fun b o hb e => (sb.2 b hb).trans e) f0 f1 f3 f4 f5
    obtain ⟨o, e, c, d⟩ := id st'
    exact ⟨u, rfl, go_of (s := { s with heap := h' }) e c d (by decide) ⟨x, H, I1, ru, ⟨rfl, fun ys hy => by rw [I.list_inj hy hq]; exact hx⟩, st', fun b hb => (hf b hb).1⟩⟩
  done := by
    intro X hP hw hK hc i pins s σ H E I hf st hg
    subst hP hw hK
    obtain ⟨xs, hq, hx⟩ := hg
    obtain ⟨its, rv, p, hz⟩ := I.list hq
    obtain ⟨f0, f1, f2, f3, f4, f5⟩ := hf it (by simp)
    have hl := rv.length
    exact wpAny_pyNext_list_end (I.ok.hd hc) st p.isList (by simp; omega) fun h' eb => ⟨rfl, I.turned (t' := s.toks) (fun b o hb e => eb b o hb e) f0 f1 f3 f4 f5⟩
  self := fun _ _ _ _ _ st h => wpAny_pyIter_listiter st h
theorem turn_tuple {P : Program} {w : World} {K : PySem.W.Frag} {tg : Expr} (a it : Addr) : Turn P w K tg (Itt K a) [it] it (fun i h => h.IsTupleIter it a i) where
  mem := by simp
  obj := fun i h st b hb => by
    have e : b = it := by simpa using hb
    subst e
    obtain ⟨o, e, c, d⟩ := st
    exact ⟨o, e, fun v z => by rw [d] at z; cases z⟩
  keep := fun i h h' st k => st.at fun o e => k it (by simp) o e
  item := by
    intro X hP hw hK hc i pins s σ H E I hf st hg
    subst hP hw hK
    obtain ⟨xs, x, hq, hx⟩ := hg
    obtain ⟨its, rv, p, hz⟩ := I.tuple hq
    obtain ⟨u, hu, ru⟩ := rv.get hx
    obtain ⟨f0, f1, f2, f3, f4, f5⟩ := hf it (by simp)
    refine wpAny_pyNext_tuple_item st (show s.heap.IsTuple a its.toArray from p) (x := u) (by simpa using hu) fun h' st' sb => ?_
    have I1 : Inv X pins σ H { s with heap := h' } := I.turned (t' := s.toks) (fun b o hb e => (sb.2 b hb).trans e) f0 f1 f3 f4 f5
    obtain ⟨o, e, c, d⟩ := id st'
    exact ⟨u, rfl, go_of (s := { s with heap := h' }) e c d (by decide) ⟨x, H, I1, ru, ⟨rfl, fun ys hy => by rw [I.tuple_inj hy hq]; exact hx⟩, st', fun b hb => (hf b hb).1⟩⟩
  done := by
    intro X hP hw hK hc i pins s σ H E I hf st hg
    subst hP hw hK
    obtain ⟨xs, hq, hx⟩ := hg
    obtain ⟨its, rv, p, hz⟩ := I.tuple hq
    obtain ⟨f0, f1, f2, f3, f4, f5⟩ := hf it (by simp)
    have hl := rv.length
    exact wpAny_pyNext_tuple_end (I.ok.hd hc) st (show s.heap.IsTuple a its.toArray from p) (by simp; omega) fun h' eb => ⟨rfl, I.turned (t' := s.toks) (fun b o hb e => eb b o hb e) f0 f1 f3 f4 f5⟩
  self := fun _ _ _ _ _ st h => wpAny_pyIter_tupleiter st h
theorem turn_range {P : Program} {w : World} {K : PySem.W.Frag} {tg : Expr} (it : Addr) (lo : Int) (n : Nat) : Turn P w K tg (Itr lo n) [it] it (fun i h => IsRangeIter h it (lo + (i : Nat) * 1) ((n : Int) - (i : Nat)) 1) where
  mem := by simp
  obj := fun i h st b hb => by
    have e : b = it := by simpa using hb
    subst e
    exact ⟨_, st, fun v z => by
      have z' : Data.fields _ = Data.cell v := z
      cases z'⟩
  keep := fun i h h' st k => k it (by simp) _ st
  item := by
    intro X hP hw hK hc i pins s σ H E I hf st hg
    subst hP hw hK
    obtain ⟨f0, f1, f2, f3, f4, f5⟩ := hf it (by simp)
    have W := Walks.range (prog := X.prog) (w := X.w) (I.ok.hd hc) it lo 1 n
    refine W.item i s _ _ hg st fun v h' tk hv st' kk => ?_
    obtain ⟨t, rfl⟩ := hv
    have I1 : Inv X pins σ H { s with heap := h', toks := tk } := I.turned (fun b o hb e => kk b o (by simpa using hb) e) f0 f1 f3 f4 f5
    refine ⟨_, rfl, go_of (s := { s with heap := h', toks := tk }) (n := "range_iterator") st' rfl rfl (by decide) ⟨.int (lo + i), H, I1, ⟨t, ?_⟩, ⟨rfl, rfl⟩, st', fun b hb => (hf b hb).1⟩⟩
    rw [Int.mul_one]
  done := by
    intro X hP hw hK hc i pins s σ H E I hf st hg
    subst hP hw hK
    obtain ⟨f0, f1, f2, f3, f4, f5⟩ := hf it (by simp)
    exact wpAny_pyNext_range_end (I.ok.hd hc) st (by have : n ≤ i := hg; omega) fun h' eb => ⟨rfl, I.turned (t' := s.toks) (fun b o hb e => eb b o hb e) f0 f1 f3 f4 f5⟩
  self := fun _ _ _ _ _ st h => wpAny_pyIter_rangeiter st h
end L2

namespace L2
open PySem PySem.Spec PyProof.Rows
section
variable {X : Cx} {tg : Expr}
noncomputable def iList (K : PySem.W.Frag) (tl : TE) : TI := fun σ H R => tl σ H fun x H1 => ∃ a, x = .ref a ∧ (∃ xs, SqL K H1 a xs) ∧ R (Itl K a) H1
noncomputable def iTup (K : PySem.W.Frag) (tl : TE) : TI := fun σ H R => tl σ H fun x H1 => ∃ a, x = .ref a ∧ (∃ xs, SqT K H1 a xs) ∧ R (Itt K a) H1
theorem range_it {pins : List (Addr × Obj)} {σ : St} {H : Hp} {s : Shared} {R : It → Hp → Prop} {E : Value → Shared → Prop} {lo hi : Int} {t u v : Tok} {tk : Nat} (I : Inv X pins σ H s) (h1 : -(2 ^ 62) ≤ lo) (h2 : lo < 2 ^ 62) (h3 : -(2 ^ 62) ≤ hi) (h4 : hi < 2 ^ 62)
    (q : R (Itr lo (hi - lo).toNat) H) : wpAny (model X.prog X.w) X.A (pyIter (.ref s.heap.objs.size)) (PIE X pins σ tg R) E { s with heap := s.heap.push { cls := .type "range", data := .fields #[.int lo t, .int hi u, .int 1 v] }, toks := tk } := by
  refine wpAny_pyIter_range (IsRange.new ..) (small_one h1 h2 h3 h4) ?_
  have I1 : Inv X pins σ H { s with heap := s.heap.push { cls := .type "range", data := .fields #[.int lo t, .int hi u, .int 1 v] }, toks := tk } := I.kept fun b o e => Heap.get?_push_of_some _ e
  refine ⟨(s.heap.push { cls := .type "range", data := .fields #[.int lo t, .int hi u, .int 1 v] }).objs.size, [(s.heap.push { cls := .type "range", data := .fields #[.int lo t, .int hi u, .int 1 v] }).objs.size], _, _, H, rfl,
    I1.kept (t' := tk) fun b o e => Heap.get?_push_of_some _ e, turn_range _ lo (hi - lo).toNat, ?_, fun b hb => ?_, q⟩
  · have e1 : lo + ((0 : Nat) : Int) * 1 = lo := by simp
    have e2 : (((hi - lo).toNat : Nat) : Int) - ((0 : Nat) : Int) = Builtin.Range.rangeSize lo hi 1 := by rw [rangeSize_one]; split <;> omega
    show IsRangeIter _ _ (lo + ((0 : Nat) : Int) * 1) ((((hi - lo).toNat : Nat) : Int) - ((0 : Nat) : Int)) 1
    rw [e1, e2]
    exact Heap.get?_push_size _ rfl
  · have e : b = (s.heap.push { cls := .type "range", data := .fields #[.int lo t, .int hi u, .int 1 v] }).objs.size := by simpa using hb
    subst e
    exact I1.fpOk (Nat.le_refl _) (I1.hok.fresh (Nat.le_refl _))
noncomputable def iRng1 (ta : TA) : TI := fun σ H R => ta σ H fun vs H1 => ∃ j : Int, vs = [.int j] ∧ -(2 ^ 62) ≤ j ∧ j < 2 ^ 62 ∧ R (Itr 0 j.toNat) H1
noncomputable def iRng2 (ta : TA) : TI := fun σ H R => ta σ H fun vs H1 => ∃ i j : Int, vs = [.int i, .int j] ∧ (-(2 ^ 62) ≤ i ∧ i < 2 ^ 62 ∧ -(2 ^ 62) ≤ j ∧ j < 2 ^ 62) ∧ R (Itr i (j - i).toNat) H1
theorem pi_range1 {a : Expr} {ta : TA} {p pos : Pos} (hg : Gl X "range") (hm : X.mg "range" = none) (ha : PA X [a] ta) (hs : starEach [a] X.env = [(false, eval a X.env)] := by rfl) : PI X tg (.Call (.Name "range" p) [a] [] pos) (iRng1 ta) := by
  intro pins s σ H R I h
  refine Call_ (ld_blt I hg hm boot_range (PyProof.Rows.callWith_type1 (thn (ha pos pins s σ H _ I h) fun us s1 ⟨vs, H1, I1, r1, q1⟩ => ?_) hs rfl))
  obtain ⟨j, e, q1, q2, q⟩ := q1
  subst e
  cases r1 with
  | cons r rr =>
    cases rr
    obtain ⟨t, rfl⟩ := r
    exact call_range_1 (range_it I1 (by omega) (by omega) q1 q2 (by simpa using q))

noncomputable def tFor (wi : TI) (g : TG) (tb : TS) : TS := fun D σ H => wi σ H fun J H1 => ∃ W : Nat → Nat → St → Hp → Prop, (∃ m, W 0 m σ H1) ∧ ∀ i m σ H, W i m σ H →
  (J.stop i H ∧ D.nx σ H) ∨ (J.go i H ∧ ∃ N : St → Hp → Prop, (∀ σ' H', N σ' H' → ∃ m', m' < m ∧ W (i + 1) m' σ' H') ∧ ∀ x H', J.yld i H x H' → g x σ H' fun σ2 H2 => tb { D with nx := N, ct := N, bk := D.nx } σ2 H2)
noncomputable def pinsAt (fp : List Addr) (h : Heap) : List (Addr × Obj) := fp.filterMap fun b => (h.get? b).map fun o => (b, o)
theorem mem_pinsAt {fp : List Addr} {h : Heap} {b : Addr} {o : Obj} (hb : b ∈ fp) (e : h.get? b = some o) : (b, o) ∈ pinsAt fp h := List.mem_filterMap.mpr ⟨b, hb, by rw [e]; rfl⟩
theorem of_pinsAt {fp : List Addr} {h : Heap} {p : Addr × Obj} (hp : p ∈ pinsAt fp h) : p.1 ∈ fp ∧ h.get? p.1 = some p.2 := by
  obtain ⟨b, hb, e⟩ := List.mem_filterMap.mp hp
  cases q : h.get? b with
  | none => rw [q] at e; cases e
  | some o =>
    rw [q] at e
    have e' : (b, o) = p := Option.some.inj e
    subst e'
    exact ⟨hb, q⟩
theorem Inv.pinned {pins : List (Addr × Obj)} {σ : St} {H : Hp} {s : Shared} {fp : List Addr} (I : Inv X pins σ H s) (hf : ∀ b ∈ fp, FpOk X pins H b) (ho : ∀ b ∈ fp, ∃ o, s.heap.get? b = some o ∧ ∀ v, o.data ≠ .cell v) : Inv X (pins ++ pinsAt fp s.heap) σ H s :=
  I.pins_of fun p hp => (List.mem_append.mp hp).elim (fun z => I.pin p (List.mem_append_right _ z)) fun z => by
    obtain ⟨hb, e⟩ := of_pinsAt z
    obtain ⟨f0, f1, f2, _⟩ := hf p.1 hb
    obtain ⟨o, e', d⟩ := ho p.1 hb
    rw [e] at e'; cases e'
    exact ⟨e, f0, f1, f2, d⟩
theorem Inv.unpinned {pins pl : List (Addr × Obj)} {σ : St} {H : Hp} {s : Shared} (I : Inv X (pins ++ pl) σ H s) : Inv X pins σ H s := I.pins_of fun p hp => I.pin p (List.mem_append_right _ (List.mem_append_left _ hp))
theorem ps_for {iter : Expr} {body : List Stmt} {wi : TI} {g : TG} {tb : TS} {pos : Pos} (hp : PassesOwn (model X.prog X.w) X.A X.env X.xe) (hc : X.calm = true) (hi : PI X tg iter wi) (hg : PG X tg g) (hb : PSs X body tb)
    (hs : ∀ x, foldedSetIterable iter X.env x = pure x := by intro _; rfl) : PS X (.For tg iter body [] pos) (tFor wi g tb) := by
  intro pins s σ H D I h
  refine wpAny_For (thn (hi pins s σ H _ I h) fun v s1 h1 => thn h1 fun itv s2 h2 => ?_) hs
  obtain ⟨it, fp, tn, J, H2, e, I2, T, st2, f2, W, ⟨m0, w0⟩, turn⟩ := h2
  subst e
  -- what stays true of the iterator's objects through the loop
  have stat : ∀ {H' : Hp}, (∀ b ∈ fp, H' b = none) → ∀ b ∈ fp, FpOk X pins H' b := fun hn b hb => ⟨hn b hb, (f2 b hb).2⟩
  refine codeAny_forLoop_any (fun n s' => ∃ i σ' H', Inv X pins σ' H' s' ∧ tn i s'.heap ∧ (∀ b ∈ fp, H' b = none) ∧ W i n σ' H') ?_ m0 ⟨0, σ, H2, I2, st2, fun b hb => (f2 b hb).1, w0⟩
  rintro n s3 ⟨i, σ3, H3, I3, st3, fr3, w3⟩
  rcases turn i n σ3 H3 w3 with ⟨stop, qn⟩ | ⟨go, N, hN, step⟩
  · refine wpAny_passesOwn hp (thn (T.done X rfl rfl rfl hc i pins s3 σ3 H3 X.xe I3 (stat fr3) st3 stop) fun r s4 ⟨hr, I4⟩ => ?_)
    subst hr
    exact wpAny_execs_nil ⟨σ3, H3, I4, qn⟩
  · refine wpAny_passesOwn hp (thn (T.item X rfl rfl rfl hc i pins s3 σ3 H3 X.xe I3 (stat fr3) st3 go) fun r s4 ⟨u, hr, h4⟩ => ?_)
    subst hr
    refine wpAny_passesOwn hp (thn h4 fun _ s5 ⟨x, H5, I5, r5, y5, st5, fr5⟩ => ?_)
    have I5' := I5.pinned (stat fr5) (T.obj _ _ st5)
    refine wpAny_passesOwn hp (thn (hg _ s5 σ3 H5 x u _ I5' r5 (step x H5 y5)) fun _ s6 ⟨σ6, H6, I6, q6⟩ => ?_)
    refine wpAny_passesOwn hp (thn (hb _ s6 σ6 H6 _ I6 q6) fun f s7 q7 => ?_)
    have again : ∀ {σ7 : St} {H7 : Hp}, Inv X (pins ++ pinsAt fp s5.heap) σ7 H7 s7 → N σ7 H7 → ∃ m, m < n ∧ ∃ i σ' H', Inv X pins σ' H' s7 ∧ tn i s7.heap ∧ (∀ b ∈ fp, H' b = none) ∧ W i m σ' H' := fun {σ7 H7} I7 n7 => by
      obtain ⟨m', hm, w7⟩ := hN σ7 H7 n7
      refine ⟨m', hm, i + 1, σ7, H7, I7.unpinned, T.keep _ _ _ st5 fun b hb o e => (I7.pin (b, o) (List.mem_append_right _ (List.mem_append_right _ (mem_pinsAt hb e)))).1, fun b hb => ?_, w7⟩
      obtain ⟨o, e, d⟩ := T.obj _ _ st5 b hb
      exact (I7.pin (b, o) (List.mem_append_right _ (List.mem_append_right _ (mem_pinsAt hb e)))).2.1
    cases f with
    | next => obtain ⟨σ7, H7, I7, n7⟩ := q7; exact again I7 n7
    | cont => obtain ⟨σ7, H7, I7, n7⟩ := q7; exact again I7 n7
    | brk => obtain ⟨σ7, H7, I7, q7⟩ := q7; exact ⟨σ7, H7, I7.unpinned, q7⟩
    | ret v => obtain ⟨x7, σ7, H7, I7, r7, q7⟩ := q7; exact ⟨x7, σ7, H7, I7.unpinned, r7, q7⟩
end

end L2

namespace L2
open PySem PySem.Spec PyProof.Rows

noncomputable abbrev R2 := V → V → Hp → VK → Prop
noncomputable def OpR (X : Cx) (f : Value → Value → Sem Value) (r : R2) : Prop :=
  ∀ (pins : List (Addr × Obj)) (s : Shared) (σ : St) (H : Hp) (x y : V) (v u : Value) (Q : VK), Inv X pins σ H s → RelV x v → RelV y u → r x y H Q →
    wpAny (model X.prog X.w) X.A (f v u) (EP X pins σ Q) X.xe s
noncomputable def UnR (X : Cx) (f : Value → Sem Value) (r : V → Hp → VK → Prop) : Prop :=
  ∀ (pins : List (Addr × Obj)) (s : Shared) (σ : St) (H : Hp) (x : V) (v : Value) (Q : VK), Inv X pins σ H s → RelV x v → r x H Q →
    wpAny (model X.prog X.w) X.A (f v) (EP X pins σ Q) X.xe s
noncomputable def CallR (X : Cx) (f : Value) (r : List V → Hp → VK → Prop) : Prop :=
  ∀ (pins : List (Addr × Obj)) (s : Shared) (σ : St) (H : Hp) (xs : List V) (us : List Value) (Q : VK), Inv X pins σ H s → Vals xs us → r xs H Q →
    wpAny (model X.prog X.w) X.A (call f us) (EP X pins σ Q) X.xe s
noncomputable def TruR (X : Cx) (r : V → Hp → (Bool → Hp → Prop) → Prop) : Prop :=
  ∀ (pins : List (Addr × Obj)) (s : Shared) (σ : St) (H : Hp) (x : V) (v : Value) (Q : Bool → Hp → Prop), Inv X pins σ H s → RelV x v → r x H Q →
    wpAny (model X.prog X.w) X.A (truthy v) (TP X pins σ Q) X.xe s

noncomputable def tOp (r : R2) (ta tb : TE) : TE := fun σ H Q => ta σ H fun x H1 => tb σ H1 fun y H2 => r x y H2 Q
noncomputable def tUn (r : V → Hp → VK → Prop) (ta : TE) : TE := fun σ H Q => ta σ H fun x H1 => r x H1 Q
noncomputable def rI (C : Int → Int → Prop) (g : Int → Int → V) : R2 := fun x y H Q => ∃ i j, x = .int i ∧ y = .int j ∧ C i j ∧ Q (g i j) H
noncomputable def rI0 (g : Int → Int → V) : R2 := fun x y H Q => ∃ i j, x = .int i ∧ y = .int j ∧ Q (g i j) H
noncomputable def rU (g : Int → V) : V → Hp → VK → Prop := fun x H Q => ∃ i, x = .int i ∧ Q (g i) H

section
variable {X : Cx} {a b c : Expr} {ta tb tc : TE} {pos : Pos}

theorem binT (ha : PE X a ta) (hb : PE X b tb) {pins : List (Addr × Obj)} {s : Shared} {σ : St} {H : Hp} {R : V → V → Hp → Prop} (I : Inv X pins σ H s)
    (h : ta σ H fun x H1 => tb σ H1 fun y H2 => R x y H2) {Q : Value → Shared → Prop} {f : Value → Value → Sem Value}
    (hf : ∀ v u s2 x y H2, Inv X pins σ H2 s2 → RelV x v → RelV y u → R x y H2 → wpAny (model X.prog X.w) X.A (f v u) Q X.xe s2) :
    wpAny (model X.prog X.w) X.A (eval a X.env) (fun v s₁ => wpAny (model X.prog X.w) X.A (eval b X.env) (fun u s₂ => wpAny (model X.prog X.w) X.A (f v u) Q X.xe s₂) X.xe s₁) X.xe s := by
  refine thn (ha pins s σ H _ I h) fun v s1 ⟨x, H1, I1, r1, q1⟩ => ?_
  refine thn (hb pins s1 σ H1 _ I1 q1) fun u s2 ⟨y, H2, I2, r2, q2⟩ => ?_
  exact hf v u s2 x y H2 I2 r1 r2 q2

theorem pe_op {op : Operator} {r : R2} (ho : OpR X (binaryOp op) r) (ha : PE X a ta) (hb : PE X b tb) : PE X (.BinOp a op b pos) (tOp r ta tb) := by
  intro pins s σ H Q I h
  exact wpAny_BinOp (binT ha hb I h fun v u s2 x y H2 I2 rx ry q => ho pins s2 σ H2 x y v u Q I2 rx ry q)
theorem pe_un {op : UnaryOp} {r : V → Hp → VK → Prop} (ho : UnR X (unaryOp op) r) (ha : PE X a ta) : PE X (.UnaryOp op a pos) (tUn r ta) := by
  intro pins s σ H Q I h
  exact UnaryOp_ (thn (ha pins s σ H _ I h) fun v s1 ⟨x, H1, I1, r1, q1⟩ => ho pins s1 σ H1 x v Q I1 r1 q1)

theorem opI {f : Value → Value → Sem Value} {C : Int → Int → Prop} {g : Int → Int → Int}
    (rule : ∀ (i j : Int) (t u : Tok) (s : Shared) (Q : Value → Shared → Prop) (E : Value → Shared → Prop), C i j → Q (.int (g i j) s.toks) { s with toks := s.toks + 1 } → wpAny (model X.prog X.w) X.A (f (.int i t) (.int j u)) Q E s) :
    OpR X f (rI C fun i j => .int (g i j)) := by
  intro pins s σ H x y v u Q I rx ry h
  obtain ⟨i, j, rfl, rfl, hc, q⟩ := h
  obtain ⟨t, rfl⟩ := rx
  obtain ⟨t', rfl⟩ := ry
  exact rule i j t t' s _ _ hc ⟨.int (g i j), H, I.tok _, ⟨_, rfl⟩, q⟩
theorem opI0 {f : Value → Value → Sem Value} {g : Int → Int → Int}
    (rule : ∀ (i j : Int) (t u : Tok) (s : Shared) (Q : Value → Shared → Prop) (E : Value → Shared → Prop), Q (.int (g i j) s.toks) { s with toks := s.toks + 1 } → wpAny (model X.prog X.w) X.A (f (.int i t) (.int j u)) Q E s) :
    OpR X f (rI0 fun i j => .int (g i j)) := by
  intro pins s σ H x y v u Q I rx ry h
  obtain ⟨i, j, rfl, rfl, q⟩ := h
  obtain ⟨t, rfl⟩ := rx
  obtain ⟨t', rfl⟩ := ry
  exact rule i j t t' s _ _ ⟨.int (g i j), H, I.tok _, ⟨_, rfl⟩, q⟩
theorem opB0 {f : Value → Value → Sem Value} {g : Int → Int → Bool}
    (rule : ∀ (i j : Int) (t u : Tok) (s : Shared) (Q : Value → Shared → Prop) (E : Value → Shared → Prop), Q (.bool (g i j)) s → wpAny (model X.prog X.w) X.A (f (.int i t) (.int j u)) Q E s) :
    OpR X f (rI0 fun i j => .bl (g i j)) := by
  intro pins s σ H x y v u Q I rx ry h
  obtain ⟨i, j, rfl, rfl, q⟩ := h
  obtain ⟨t, rfl⟩ := rx
  obtain ⟨t', rfl⟩ := ry
  exact rule i j t t' s _ _ ⟨.bl (g i j), H, I, rfl, q⟩

noncomputable def CDiv (i j : Int) : Prop := 0 < j ∧ j < 1073741824
noncomputable def CDivN (i j : Int) : Prop := j ≠ 0 ∧ j.natAbs < 1073741824
noncomputable def CPow (i j : Int) : Prop := 0 ≤ j ∧ j ≤ 1000000 ∧ i.natAbs < 2 ^ 64
noncomputable def CMul (i j : Int) : Prop := (-(2 ^ 64) < i ∧ i < 2 ^ 64) ∨ (-(2 ^ 64) < j ∧ j < 2 ^ 64)
theorem CMul.ok {i j : Int} (h : CMul i j) : IntMulOk i j := by
  rcases h with ⟨h1, h2⟩ | ⟨h1, h2⟩
  · exact .of_left (intBits_le_64 h1 h2)
  · exact .of_right (intBits_le_64 h1 h2)

theorem op_add : OpR X (binaryOp .Add) (rI0 fun i j => .int (i + j)) := opI0 fun _ _ _ _ _ _ _ q => add_int q
theorem op_sub : OpR X (binaryOp .Sub) (rI0 fun i j => .int (i - j)) := opI0 fun _ _ _ _ _ _ _ q => sub_int q
theorem op_mul : OpR X (binaryOp .Mult) (rI CMul fun i j => .int (i * j)) := opI fun _ _ _ _ _ _ _ hc q => mul_int q hc.ok
theorem op_fdiv : OpR X (binaryOp .FloorDiv) (rI CDiv fun i j => .int (i / j)) := opI fun i j _ _ _ _ _ hc q => by
  have h1 : (0 : Int) < j := hc.1
  have h2 : j < 1073741824 := hc.2
  exact floordiv_int (by omega) (by rw [Int.fdiv_eq_ediv_of_nonneg i (by omega)]; exact q) (.inl (PyProof.noPylong_small (by omega)))
theorem op_mod : OpR X (binaryOp .Mod) (rI (fun _ j => 0 < j) fun i j => .int (i % j)) := opI fun i j _ _ _ _ _ hc q => by
  have h1 : (0 : Int) < j := hc
  exact mod_int' (by omega) (by rw [Int.fmod_eq_emod_of_nonneg i (by omega)]; exact q)


theorem unI {f : Value → Sem Value} {g : Int → Int}
    (rule : ∀ (i : Int) (t : Tok) (s : Shared) (Q : Value → Shared → Prop) (E : Value → Shared → Prop), Q (.int (g i) s.toks) { s with toks := s.toks + 1 } → wpAny (model X.prog X.w) X.A (f (.int i t)) Q E s) :
    UnR X f (rU fun i => .int (g i)) := by
  intro pins s σ H x v Q I rx h
  obtain ⟨i, rfl, q⟩ := h
  obtain ⟨t, rfl⟩ := rx
  exact rule i t s _ _ ⟨.int (g i), H, I.tok _, ⟨_, rfl⟩, q⟩
theorem un_neg : UnR X (unaryOp .USub) (rU fun i => .int (-i)) := unI fun _ _ _ _ _ q => neg_int q

end

noncomputable def scal : V → V → Bool
  | .non, .non => true | .non, .int _ => true | .int _, .non => true | .non, .bl _ => true | .bl _, .non => true | .non, .str _ => true | .str _, .non => true
  | .int _, .int _ => true | .bl _, .bl _ => true | .str _, .str _ => true | .byt _, .byt _ => true
  | .int _, .str _ => true | .str _, .int _ => true | .bl _, .str _ => true | .str _, .bl _ => true
  | _, _ => false
noncomputable def rEq : R2 := fun x y H Q => scal x y = true ∧ Q (.bl (decide (x = y))) H
noncomputable def rNe : R2 := fun x y H Q => scal x y = true ∧ Q (.bl (!decide (x = y))) H

theorem dec_int {i j : Int} : decide (V.int i = V.int j) = (i == j) := by
  rw [Bool.eq_iff_iff]
  simp
theorem dec_bl {i j : Bool} : decide (V.bl i = V.bl j) = (i == j) := by
  rw [Bool.eq_iff_iff]
  simp
theorem dec_str {i j : Str} : decide (V.str i = V.str j) = (i == j) := by
  rw [Bool.eq_iff_iff]
  simp
theorem dec_byt {i j : Array UInt8} : decide (V.byt i = V.byt j) = (i.toList == j.toList) := by
  rw [Bool.eq_iff_iff]
  cases i
  cases j
  simp

section
variable {X : Cx} {a b c : Expr} {ta tb tc : TE} {pos : Pos}
theorem fin_bl {pins : List (Addr × Obj)} {σ : St} {H : Hp} {s : Shared} {Q : VK} {k k' : Bool} (I : Inv X pins σ H s) (q : Q (.bl k) H) (e : k = k') : EP X pins σ Q (.bool k') s := by
  subst e
  exact ⟨.bl k, H, I, rfl, q⟩
theorem op_eq : OpR X (compareOp .Eq) rEq := by
  intro pins s σ H x y v u Q I rx ry h
  obtain ⟨hs, q⟩ := h
  cases x with
  | non =>
    cases rx
    cases y with
    | non => cases ry; exact PySem.EqNone.eq_none_none (fin_bl I q (by simp))
    | bl j => cases ry; exact PySem.EqNone.eq_none_bool (fin_bl I q (by simp))
    | int j => obtain ⟨t', rfl⟩ := ry; exact PySem.EqNone.eq_none_int (fin_bl I q (by simp))
    | str j => obtain ⟨t', rfl⟩ := ry; exact PySem.EqNone.eq_none_str (fin_bl I q (by simp))
    | _ => exact absurd (show false = true from hs) Bool.false_ne_true
  | bl i =>
    cases rx
    cases y with
    | non => cases ry; exact PySem.EqNone.eq_bool_none (fin_bl I q (by simp))
    | bl j => cases ry; exact eq_bool (fin_bl I q dec_bl)
    | str j => obtain ⟨t', rfl⟩ := ry; exact PySem.EqMixed.eq_bool_str (fin_bl I q (by simp))
    | _ => exact absurd (show false = true from hs) Bool.false_ne_true
  | int i =>
    obtain ⟨t, rfl⟩ := rx
    cases y with
    | non => cases ry; exact PySem.EqNone.eq_int_none (fin_bl I q (by simp))
    | int j => obtain ⟨t', rfl⟩ := ry; exact eq_int (fin_bl I q dec_int)
    | str j => obtain ⟨t', rfl⟩ := ry; exact PySem.EqMixed.eq_int_str (fin_bl I q (by simp))
    | _ => exact absurd (show false = true from hs) Bool.false_ne_true
  | str i =>
    obtain ⟨t, rfl⟩ := rx
    cases y with
    | non => cases ry; exact PySem.EqNone.eq_str_none (fin_bl I q (by simp))
    | bl j => cases ry; exact PySem.EqMixed.eq_str_bool (fin_bl I q (by simp))
    | int j => obtain ⟨t', rfl⟩ := ry; exact PySem.EqMixed.eq_str_int (fin_bl I q (by simp))
    | str j => obtain ⟨t', rfl⟩ := ry; exact eq_str (fin_bl I q dec_str)
    | _ => exact absurd (show false = true from hs) Bool.false_ne_true
  | byt i =>
    obtain ⟨t, rfl⟩ := rx
    cases y with
    | byt j => obtain ⟨t', rfl⟩ := ry; exact PySem.W.eq_bytes (fin_bl I q dec_byt)
    | _ => exact absurd (show false = true from hs) Bool.false_ne_true
  | _ => cases y <;> exact absurd (show false = true from hs) Bool.false_ne_true
theorem op_ne : OpR X (compareOp .NotEq) rNe := by
  intro pins s σ H x y v u Q I rx ry h
  obtain ⟨hs, q⟩ := h
  cases x with
  | non =>
    cases rx
    cases y with
    | non => cases ry; exact PySem.EqNone.ne_none_none (fin_bl I q (by simp))
    | bl j => cases ry; exact PySem.EqNone.ne_none_bool (fin_bl I q (by simp))
    | int j => obtain ⟨t', rfl⟩ := ry; exact PySem.EqNone.ne_none_int (fin_bl I q (by simp))
    | str j => obtain ⟨t', rfl⟩ := ry; exact PySem.EqNone.ne_none_str (fin_bl I q (by simp))
    | _ => exact absurd (show false = true from hs) Bool.false_ne_true
  | bl i =>
    cases rx
    cases y with
    | non => cases ry; exact PySem.EqNone.ne_bool_none (fin_bl I q (by simp))
    | bl j => cases ry; exact ne_bool (fin_bl I q (congrArg not dec_bl))
    | str j => obtain ⟨t', rfl⟩ := ry; exact PySem.EqMixed.ne_bool_str (fin_bl I q (by simp))
    | _ => exact absurd (show false = true from hs) Bool.false_ne_true
  | int i =>
    obtain ⟨t, rfl⟩ := rx
    cases y with
    | non => cases ry; exact PySem.EqNone.ne_int_none (fin_bl I q (by simp))
    | int j => obtain ⟨t', rfl⟩ := ry; exact ne_int (fin_bl I q (congrArg not dec_int))
    | str j => obtain ⟨t', rfl⟩ := ry; exact PySem.EqMixed.ne_int_str (fin_bl I q (by simp))
    | _ => exact absurd (show false = true from hs) Bool.false_ne_true
  | str i =>
    obtain ⟨t, rfl⟩ := rx
    cases y with
    | non => cases ry; exact PySem.EqNone.ne_str_none (fin_bl I q (by simp))
    | bl j => cases ry; exact PySem.EqMixed.ne_str_bool (fin_bl I q (by simp))
    | int j => obtain ⟨t', rfl⟩ := ry; exact PySem.EqMixed.ne_str_int (fin_bl I q (by simp))
    | str j => obtain ⟨t', rfl⟩ := ry; exact ne_str (fin_bl I q (congrArg not dec_str))
    | _ => exact absurd (show false = true from hs) Bool.false_ne_true
  | byt i =>
    obtain ⟨t, rfl⟩ := rx
    cases y with
    | byt j => obtain ⟨t', rfl⟩ := ry; exact PySem.W.ne_bytes (fin_bl I q (congrArg not dec_byt))
    | _ => exact absurd (show false = true from hs) Bool.false_ne_true
  | _ => cases y <;> exact absurd (show false = true from hs) Bool.false_ne_true

theorem op_lt : OpR X (compareOp .Lt) (rI0 fun i j => .bl (decide (i < j))) := opB0 fun _ _ _ _ _ _ _ q => lt_int q
theorem op_le : OpR X (compareOp .LtE) (rI0 fun i j => .bl (decide (i ≤ j))) := opB0 fun _ _ _ _ _ _ _ q => le_int q
theorem op_gt : OpR X (compareOp .Gt) (rI0 fun i j => .bl (decide (j < i))) := opB0 fun _ _ _ _ _ _ _ q => gt_int q
theorem op_in_str : OpR X (compareOp .In) (fun x y H Q => ∃ i j, x = .str i ∧ y = .str j ∧ Q (.bl (!(Builtin.Str.occurrences j i 0 j.length 1).isEmpty)) H) := by
  intro pins s σ H x y v u Q I rx ry h
  obtain ⟨i, j, rfl, rfl, q⟩ := h
  obtain ⟨t, rfl⟩ := rx
  obtain ⟨t', rfl⟩ := ry
  exact in_str (fin_bl I q rfl)


noncomputable def isObj : HO → Bool
  | .lst _ => true
  | .ins _ _ _ => true
  | _ => false

theorem OpR.or {f : Value → Value → Sem Value} {r r' : R2} (h : OpR X f r) (h' : OpR X f r') : OpR X f (fun x y H Q => r x y H Q ∨ r' x y H Q) := by
  intro pins s σ H x y v u Q I rx ry q
  rcases q with q | q
  · exact h pins s σ H x y v u Q I rx ry q
  · exact h' pins s σ H x y v u Q I rx ry q

theorem nomark (b : Expr) {op : CmpOp} (h : op ≠ .In := by decide) (h2 : op ≠ .NotIn := by decide) : behindInMarks op b = false := by
  have e1 : (op == CmpOp.In) = false := by cases op <;> first | rfl | exact absurd rfl h
  have e2 : (op == CmpOp.NotIn) = false := by cases op <;> first | rfl | exact absurd rfl h2
  cases b <;> simp [behindInMarks, e1, e2]
theorem pe_cmpR {op : CmpOp} {r : R2} (ho : OpR X (compareOp op) r) (ha : PE X a ta) (hb : PE X b tb) (hm : behindInMarks op b = false) : PE X (.Compare a [op] [b] pos) (tOp r ta tb) := by
  intro pins s σ H Q I h
  exact wpAny_Compare1 (binT ha hb I h fun v u s2 x y H2 I2 rx ry q => ho pins s2 σ H2 x y v u Q I2 rx ry q) hm
noncomputable def tTest (t : TE) : TT := fun σ H Q => t σ H fun x H' => ∃ k, x = .bl k ∧ Q k H'
theorem pt_cmpR {op : CmpOp} {r : R2} (ho : OpR X (compareOp op) r) (ha : PE X a ta) (hb : PE X b tb) (hm : behindInMarks op b = false) : PT X (.Compare a [op] [b] pos) (tTest (tOp r ta tb)) := by
  intro pins s σ H Q I h
  refine wpAny_isTrue_Compare1 (thn (ha pins s σ H _ I h) fun v s1 ⟨x, H1, I1, r1, q1⟩ => thn (hb pins s1 σ H1 _ I1 q1) fun u s2 ⟨y, H2, I2, r2, q2⟩ =>
    thn (ho pins s2 σ H2 x y v u _ I2 r1 r2 q2) fun c s3 ⟨z, H3, I3, r3, k, e, q3⟩ => ?_) hm
  subst e
  cases r3
  exact wpAny_truthy_bool ⟨H3, I3, q3⟩
noncomputable def tChain (r r' : R2) (ta tb tc : TE) : TE := fun σ H Q => ta σ H fun x H1 => tb σ H1 fun y H2 => r x y H2 fun z H3 => ∃ k, z = .bl k ∧
  (if k = true then tc σ H3 fun w' H4 => r' y w' H4 Q else Q (.bl false) H3)
theorem pe_chain {op op' : CmpOp} {r r' : R2} (ho : OpR X (compareOp op) r) (ho' : OpR X (compareOp op') r') (ha : PE X a ta) (hb : PE X b tb) (hc : PE X c tc)
    (hm : lastMarks [op, op'] [b, c] = false := by with_unfolding_all rfl) : PE X (.Compare a [op, op'] [b, c] pos) (tChain r r' ta tb tc) := by
  intro pins s σ H Q I h
  refine Compare_chain (thn (ha pins s σ H _ I h) fun v s1 ⟨x, H1, I1, r1, q1⟩ => chain_link (thn (hb pins s1 σ H1 _ I1 q1) fun u s2 ⟨y, H2, I2, r2, q2⟩ =>
    thn (ho pins s2 σ H2 x y v u _ I2 r1 r2 q2) fun d s3 ⟨z, H3, I3, r3, k, e, q3⟩ => ?_)) hm
  subst e
  cases r3
  refine wpAny_truthy_bool ?_
  cases k with
  | false => exact ite_ff ⟨.bl false, H3, I3, rfl, q3⟩
  | true => exact ite_tt (chain_last (thn (hc pins s3 σ H3 _ I3 q3) fun w' s4 ⟨z', H4, I4, r4, q4⟩ => ho' pins s4 σ H4 y z' u w' Q I4 r2 r4 q4))

noncomputable def TruV (K : PySem.W.Frag) (x : V) (H : Hp) (k : Bool) : Prop :=
  match x with
  | .non => k = false
  | .bl b => k = b
  | .int i => k = (i != 0)
  | .str y => y.length ≤ sizeLine ∧ k = ((y.length : Int) != 0)
  | .byt y => y.size ≤ sizeLine ∧ k = ((y.size : Int) != 0)
  | .ref p => (∃ xs, SqL K H p xs ∧ k = !xs.isEmpty) ∨ (∃ xs, SqT K H p xs ∧ k = !xs.isEmpty) ∨ ∃ kvs, HK H p kvs ∧ k = !kvs.isEmpty
  | _ => False
theorem line63 : (sizeLine : Nat) < 2 ^ 63 := by rw [sizeLine_eq]; decide

theorem op_add_str : OpR X (binaryOp .Add) (fun x y H Q => ∃ i j, x = .str i ∧ y = .str j ∧ i.length + j.length ≤ sizeLine ∧ Q (.str (i ++ j)) H) := by
  intro pins s σ H x y v u Q I rx ry h
  obtain ⟨i, j, rfl, rfl, hz, q⟩ := h
  obtain ⟨t, rfl⟩ := rx
  obtain ⟨t', rfl⟩ := ry
  exact add_str (fun t' tk => ⟨.str (i ++ j), H, I.tok _, ⟨_, rfl⟩, q⟩) hz

noncomputable def PlainIxT (b : Expr) : Prop := ∀ o i, subscripted b false o i = operate [o, i] (getItem o i)

theorem vals1 {x : V} {us : List Value} (r : Vals [x] us) : ∃ u, us = [u] ∧ RelV x u := by
  cases r with
  | cons r1 r2 => cases r2; exact ⟨_, rfl, r1⟩
theorem vals2 {x y : V} {us : List Value} (r : Vals [x, y] us) : ∃ u w', us = [u, w'] ∧ RelV x u ∧ RelV y w' := by
  cases r with
  | cons r1 r2 =>
    cases r2 with
    | cons r3 r4 => cases r4; exact ⟨_, _, rfl, r1, r3⟩
theorem call_str_int : CallR X (.type "str") (fun xs H Q => ∃ i, xs = [.int i] ∧ i.natAbs.log2 < 1920 ∧ Q (.str (toString i)) H) := by
  intro pins s σ H xs us Q I r h
  obtain ⟨i, rfl, hz, q⟩ := h
  obtain ⟨u, rfl, t, rfl⟩ := vals1 r
  exact PySem.P.str_of_int hz ⟨.str _, H, I.tok _, ⟨_, rfl⟩, q⟩
noncomputable def LenV (K : PySem.W.Frag) (x : V) (H : Hp) (n : Nat) : Prop :=
  match x with
  | .str y => y.length ≤ sizeLine ∧ n = y.length
  | .byt y => y.size ≤ sizeLine ∧ n = y.size
  | .ref p => (∃ xs, SqL K H p xs ∧ n = xs.length) ∨ ∃ xs, SqT K H p xs ∧ n = xs.length
  | _ => False
end
end L2

namespace L2
open PySem PySem.Spec PyProof.Rows

structure ObjM (h : Heap) (x dx C : Addr) (mA : Str → Option Value) : Prop where
  obj : h.get? x = some (PySem.W.instObj C dx)
  ns : h.Ns1 dx mA
  ne : dx ≠ x



section
variable {prog : Program} {w : World} {A : Around} {E : Value → Shared → Prop} {s : Shared} {K : PySem.W.Frag} {x dx C f : Addr} {mA : Str → Option Value} {name : Str} {v : Value}





end

noncomputable def putF (f : Str) (v : V) : List (Str × V) → List (Str × V)
  | [] => [(f, v)]
  | (g, x) :: r => if g = f then (g, v) :: r else (g, x) :: putF f v r


section
variable {P : Program} {w : World} {H H' : Hp} {h h' : Heap} {a C dx : Addr} {fs fs' : List (Str × V)}
end

structure Cls (K : PySem.W.Frag) (C : Addr) : Prop where
  pg : PySem.W.plainGet K C Str.empty = true
  hd : PySem.W.hasDictIn K C = true
  po : PySem.W.plainOver K C = true
  sa : PySem.W.findIn K (.ref C) "__setattr__" = some (some (.builtin "object.__setattr__"))
noncomputable def NoAttr (K : PySem.W.Frag) (C : Addr) (f : Str) : Prop := PySem.W.findIn K (.ref C) f = some none
structure Con (K : PySem.W.Frag) (C : Addr) (f : Str) (v : V) (u : Value) : Prop where
  at_ : PySem.W.findIn K (.ref C) f = some (some u)
  rel : RelV v u
  get : PySem.W.specialIn K u "__get__" = some none
  cp : PySem.W.copiedNames.contains f = false
structure Meth (K : PySem.W.Frag) (C : Addr) (m : Str) (f : Addr) : Prop where
  at_ : PySem.W.findIn K (.ref C) m = some (some (.ref f))
  fn : PySem.W.isFn K (.ref f) = true
  kp : PySem.W.keepIn K (.ref f) = true

section
variable {X : Cx} {pins : List (Addr × Obj)} {σ : St} {H : Hp} {s : Shared} {a C dx : Addr} {fs : List (Str × V)} {f : Str} {v : V} {A : Around} {E : Value → Shared → Prop}






end

noncomputable def tFld (K : PySem.W.Frag) (ta : TE) (f : Str) : TE := fun σ H Q => ta σ H fun x H1 => ∃ a C dx fs v, x = .ref a ∧ H1 a = some (.ins C dx fs) ∧ Cls K C ∧ NoAttr K C f ∧ fs.lookup f = some v ∧ Q v H1
noncomputable def tCon (K : PySem.W.Frag) (ta : TE) (f : Str) : TE := fun σ H Q => ta σ H fun x H1 => ∃ a C dx fs v u, x = .ref a ∧ H1 a = some (.ins C dx fs) ∧ Cls K C ∧ Con K C f v u ∧ fs.lookup f = none ∧ Q v H1
noncomputable def sFld (K : PySem.W.Frag) (ta tv : TE) (f : Str) : TS := fun D σ H => tv σ H fun y H1 => ta σ H1 fun x H2 => ∃ a C dx fs, x = .ref a ∧ H2 a = some (.ins C dx fs) ∧ Cls K C ∧ NoAttr K C f ∧ fs.length < 1000 ∧
  D.nx σ (upd H2 a (.ins C dx (putF f y fs)))
noncomputable def InOp (X : Cx) (op : Operator) (rd : V → V → Hp → VK → Prop) : Prop :=
  ∀ (pins : List (Addr × Obj)) (s : Shared) (σ : St) (H : Hp) (x y : V) (u v : Value) (Q : VK), Inv X pins σ H s → RelV x u → RelV y v → rd x y H Q → wpAny (model X.prog X.w) X.A (inplaceOp op u v) (EP X pins σ Q) X.xe s
noncomputable def sFldAug (K : PySem.W.Frag) (ta tv : TE) (rd : V → V → Hp → VK → Prop) (f : Str) : TS := fun D σ H => ta σ H fun x H1 => ∃ a C dx fs v, x = .ref a ∧ H1 a = some (.ins C dx fs) ∧ Cls K C ∧ NoAttr K C f ∧ fs.lookup f = some v ∧
  tv σ H1 fun y H2 => rd v y H2 fun z H3 => ∃ dx' fs', H3 a = some (.ins C dx' fs') ∧ fs'.length < 1000 ∧ D.nx σ (upd H3 a (.ins C dx' (putF f z fs')))

section
variable {X : Cx} {o e value : Expr} {f : Str} {pos pos' tpos : Pos} {ta tv : TE}
noncomputable def rAdd : V → V → Hp → VK → Prop := fun x y H Q => ∃ i j, x = .int i ∧ y = .int j ∧ Q (.int (i + j)) H
noncomputable def rSub : V → V → Hp → VK → Prop := fun x y H Q => ∃ i j, x = .int i ∧ y = .int j ∧ Q (.int (i - j)) H

end

section
variable {X : Cx} {pins : List (Addr × Obj)} {σ : St} {H : Hp} {s : Shared} {A : Around} {E : Value → Shared → Prop} {Q : Value → Shared → Prop} {c : Value} {b : Bool}
inductive TyOf (K : PySem.W.Frag) (H : Hp) : V → Value → Prop where
  | non : TyOf K H .non (.type "NoneType")
  | bl (x : Bool) : TyOf K H (.bl x) (.type "bool")
  | int (i : Int) : TyOf K H (.int i) (.type "int")
  | str (x : Str) : TyOf K H (.str x) (.type "str")
  | flt (x : UInt64) : TyOf K H (.flt x) (.type "float")
  | lst {a : Addr} {xs : List V} (e : H a = some (.lst xs)) : TyOf K H (.ref a) (.type "list")
  | frz {a : Addr} {o : Obj} {xs : List V} (e : H a = some (.frz o (.lst xs))) : TyOf K H (.ref a) (.type "list")
  | tup {a : Addr} {xs : List V} (e : H a = some (.tup xs)) : TyOf K H (.ref a) (.type "tuple")
  | dK {a : Addr} {kvs : List (Key × V)} {ep : Nat} (e : H a = some (.dK kvs ep)) : TyOf K H (.ref a) (.type "dict")
  | dT {a : Addr} {kvs : List (List Key × V)} {ep : Nat} {bs : List Addr} (e : H a = some (.dT kvs ep bs)) : TyOf K H (.ref a) (.type "dict")
  | ins {a C dx : Addr} {fs : List (Str × V)} (e : H a = some (.ins C dx fs)) (cl : Cls K C) (ha : PySem.W.findIn K (.ref C) "__class__" = some (some (.builtin "object.__class__")))
      (hn : PySem.W.specialIn K (.builtin "object.__class__") "__get__" = some (some (.builtin "getset_descriptor.__get__"))) (htk : PySem.W.takesIn K (.builtin "object.__class__") = some true)
      (hm : PySem.W.mroIn K C (.type "object") = some true) : TyOf K H (.ref a) (.ref C)
end
end L2

namespace L2
open PySem PySem.Spec PyProof.Rows

structure Room (k : Nat) (A : Around) : Prop where
  hd : A.handled = none
  dp : A.depth + 3 * k + 5 < recursionLimit
  un : A.units + 16 * k + 200 < cLine
theorem Room.mono {j k : Nat} {A : Around} (r : Room k A) (h : j ≤ k) : Room j A := ⟨r.hd, by have := r.dp; omega, by have := r.un; omega⟩
theorem Room.deeper {k : Nat} {A : Around} (r : Room (k + 1) A) (env : Env) : Room k (A.deeper env) :=
  ⟨r.hd, by have := r.dp; show A.depth + 1 + 3 * k + 5 < _; omega, by have := r.un; show A.units + 3 + 16 * k + 200 < _; omega⟩
theorem Room.depth {k : Nat} {A : Around} (r : Room k A) : A.depth < recursionLimit := by have := r.dp; omega
theorem Room.units {k : Nat} {A : Around} (r : Room k A) : A.units + 64 < cLine := by have := r.un; omega

noncomputable def tNil : TA := fun _ H Q => Q [] H
noncomputable def tCons (ta : TE) (tr : TA) : TA := fun σ H Q => ta σ H fun x H1 => tr σ H1 fun xs H2 => Q (x :: xs) H2
section
variable {X : Cx} {e : Expr} {es : List Expr} {te : TE} {t : TA} {pos : Pos}
theorem pa_nil : PA X [] tNil := fun _ _ _ _ H Q I h => Calls.spliced_nil ⟨[], H, I, .nil, h⟩
theorem pa_cons (ha : PE X e te) (hr : PA X es t) (hs : starEach (e :: es) X.env = (false, eval e X.env) :: starEach es X.env := by rfl) : PA X (e :: es) (tCons te t) := by
  intro pos pins s σ H Q I h
  rw [hs]
  show wpAny _ _ (spliced ((false, eval e X.env) :: backTo pos (starEach es X.env))) _ _ s
  refine Calls.spliced_cons (thn (ha pins s σ H _ I h) fun u s1 ⟨x, H1, I1, r1, q1⟩ => ?_)
  exact thn (hr pos pins s1 σ H1 _ I1 q1) fun us s2 ⟨xs, H2, I2, r2, q2⟩ => ⟨x :: xs, H2, I2, .cons r1 r2, q2⟩

noncomputable def tTup (t : TA) : TE := fun σ H Q => t σ H fun xs H1 => xs.length ≤ sizeLine ∧ ∀ p, H1 p = none → Q (.ref p) (upd H1 p (.tup xs))
noncomputable def tLst (t : TA) : TE := fun σ H Q => t σ H fun xs H1 => xs.length ≤ sizeLine ∧ ∀ p, H1 p = none → Q (.ref p) (upd H1 p (.lst xs))
theorem pe_tup {x1} (h : PA X es t) : PE X (.Tuple es x1 pos) (tTup t) := by
  intro pins s σ H Q I hq
  refine wpAny_Tuple_spliced (thn (h pos pins s σ H _ I hq) fun us s1 ⟨xs, H1, I1, r, z, q⟩ => ⟨by rw [← r.length]; exact z, ?_⟩)
  have hf : H1 s1.heap.objs.size = none := I1.hok.fresh (Nat.le_refl _)
  refine ⟨.ref s1.heap.objs.size, upd H1 s1.heap.objs.size (.tup xs), I1.laid (t' := s1.toks) (fun b u e => Heap.get?_push_of_some _ e) (Nat.le_refl _) ?_, rfl, q _ hf⟩
  exact ⟨z, us, r, ⟨_, Heap.get?_push_size _ rfl, rfl, _, rfl⟩⟩
theorem pe_lst (h : PA X es t) : PE X (.List es pos) (tLst t) := by
  intro pins s σ H Q I hq
  refine wpAny_List_spliced (thn (h pos pins s σ H _ I hq) fun us s1 ⟨xs, H1, I1, r, z, q⟩ => ⟨by rw [← r.length]; exact z, ?_⟩)
  have hf : H1 s1.heap.objs.size = none := I1.hok.fresh (Nat.le_refl _)
  refine ⟨.ref s1.heap.objs.size, upd H1 s1.heap.objs.size (.lst xs), I1.laid (t' := s1.toks) (fun b u e => Heap.get?_push_of_some _ e) (Nat.le_refl _) ?_, rfl, q _ hf⟩
  exact ⟨z, us, 0, r, Heap.get?_push_size _ rfl⟩
end

noncomputable abbrev Sp := List V → Hp → VK → XK → Prop
noncomputable abbrev CXT := List Env → Hp → Shared → XK → Value → Shared → Prop

structure Env0 (P : Program) (w : World) (K : PySem.W.Frag) (mg : Str → Option Value) (base : Heap) (A : Around) (outer : List Env) (s : Shared) (H : Hp) : Prop where
  frames : A.frames = some outer
  mod : Mod K mg base
  bs : ∀ b o, base.get? b = some o → s.heap.get? b = some o ∧ H b = none
  bsz : base.objs.size ≤ s.heap.objs.size
  funs : s.heap.FunFrames base outer
  frf : ∀ b ∈ frs outer, H b = none
  hok : HOk P w H s.heap
  bare : AllBare s.gens
noncomputable def CE (outer : List Env) (P : Program) (w : World) (H : Hp) (s : Shared) (Q : VK) (u : Value) (s' : Shared) : Prop :=
  ∃ v H', s'.os = s.os ∧ AllBare s'.gens ∧ Un (frs outer) [] H H' s.heap s'.heap ∧ HOk P w H' s'.heap ∧ RelV v u ∧ Q v H'
noncomputable def CR (CX : CXT) (outer : List Env) (P : Program) (w : World) (H : Hp) (s : Shared) (Q : VK) (E : XK) (r : Result) (s' : Shared) : Prop :=
  match r with
  | .ok (.ret u) => CE outer P w H s Q u s'
  | .ok _ => False
  | .error e => CX outer H s E e s'
structure FnOk (P : Program) (w : World) (K : PySem.W.Frag) (mg : Str → Option Value) (base : Heap) (CX : CXT) (k : Nat) (f : Addr) (fd : FuncData) (ps : List Str) (sp : Sp) : Prop where
  len : ∀ vs H Q E, sp vs H Q E → vs.length = ps.length
  run : ∀ (A : Around) (outer : List Env) (s : Shared) (H : Hp) (args : Args) (us : List Value) (vs : List V) (Q : VK) (E : XK), Room k A → Env0 P w K mg base A outer s H → BindsTo s fd args (ps.zip us) → Vals vs us → sp vs H Q E →
    codeAny (model P w) A (.call (.ref f) args) (CR CX outer P w H s Q E) s
theorem FnOk.mono {P : Program} {w : World} {K : PySem.W.Frag} {mg : Str → Option Value} {base : Heap} {CX : CXT} {j k : Nat} {f : Addr} {fd : FuncData} {ps : List Str} {sp : Sp} (F : FnOk P w K mg base CX j f fd ps sp) (h : j ≤ k) :
    FnOk P w K mg base CX k f fd ps sp := ⟨F.len, fun A outer s H args us vs Q E hr => F.run A outer s H args us vs Q E (hr.mono h)⟩


section
variable {X : Cx} {pins : List (Addr × Obj)} {σ : St} {H : Hp} {s s' : Shared}
theorem Inv.env0 (I : Inv X pins σ H s) : Env0 X.prog X.w X.K X.mg X.base X.A X.stack s H :=
  ⟨I.ok.frames, I.ok.mod, I.bs, Nat.le_trans I.ok.bsz I.sz, I.stack, I.stkFree, I.hok, I.bare⟩
theorem Inv.after {Q : VK} {u : Value} (I : Inv X pins σ H s) (h : CE X.stack X.prog X.w H s Q u s') : EP X pins σ Q u s' := by
  obtain ⟨v, H', os, bare, un, hok, r, q⟩ := h
  obtain ⟨hh, g, d, t, os'⟩ := s'
  obtain rfl : os' = s.os := os
  exact ⟨v, H', I.call (h' := hh) (g' := g) (d' := d) (t' := t) (ch := []) un hok bare (fun b z => absurd z (by simp)), r, q⟩
end

noncomputable def tCall (sp : Sp) (dvs : List V) (E : XK) (t : TA) : TE := fun σ H Q => t σ H fun vs H1 => sp (vs ++ dvs) H1 Q E
noncomputable def tMeth (C : Addr) (m : Str) (sp : Sp) (dvs : List V) (E : XK) (ta : TE) (t : TA) : TE := fun σ H Q => ta σ H fun x H1 => ∃ a dx fs, x = .ref a ∧ H1 a = some (.ins C dx fs) ∧ fs.lookup m = none ∧
  t σ H1 fun vs H2 => sp (x :: (vs ++ dvs)) H2 Q E
noncomputable def tMake (C : Addr) (sp : Sp) (dvs : List V) (E : XK) (t : TA) : TE := fun σ H Q => t σ H fun vs H1 => ∀ x dx, H1 x = none → H1 dx = none → dx ≠ x →
  sp (.ref x :: (vs ++ dvs)) (upd (upd H1 dx (.own x)) x (.ins C dx [])) (fun v H2 => v = .non ∧ Q (.ref x) H2) E

noncomputable def Binds (K : PySem.W.Frag) (fd : FuncData) (ps : List Str) (ds : List Value) : Prop :=
  ∀ (s : Shared) (us : List Value), K.In s.heap → (us ++ ds).length = ps.length → BindsTo s fd ⟨us, []⟩ (ps.zip (us ++ ds))
theorem Binds.all {K : PySem.W.Frag} {fd : FuncData} {ps : List Str} (h : ∀ us : List Value, us.length = ps.length → bindArgs fd ⟨us, []⟩ = pure (ps.zip us)) : Binds K fd ps [] := fun s us _ hl => by
  rw [List.append_nil] at hl ⊢
  exact .of_eq (h us hl)

noncomputable def Passes (CX : CXT) (X : Cx) (E : XK) : Prop := ∀ (pins : List (Addr × Obj)) (σ : St) (H : Hp) (s : Shared) (e : Value) (s' : Shared), Inv X pins σ H s → CX X.stack H s E e s' → X.xe e s'

section
variable {X : Cx} {CX : CXT} {k : Nat} {f C : Addr} {fd : FuncData} {ps : List Str} {sp : Sp} {dvs : List V} {ds : List Value} {E : XK} {x m : Str} {p pos apos : Pos} {e o : Expr} {es : List Expr} {ta : TE} {t : TA}

theorem run_fn {pins : List (Addr × Obj)} {σ : St} {H : Hp} {s : Shared} {Q : VK} {us : List Value} {vs : List V} (F : FnOk X.prog X.w X.K X.mg X.base CX k f fd ps sp) (hr : Room k X.A) (hb : Binds X.K fd ps ds) (hd : Vals dvs ds) (hx : Passes CX X E)
    (I : Inv X pins σ H s) (r : Vals vs us) (h : sp (vs ++ dvs) H Q E) : wpAny (model X.prog X.w) X.A (call (.ref f) us) (EP X pins σ Q) X.xe s := by
  have r2 : Vals (vs ++ dvs) (us ++ ds) := r.append hd
  have hl : (us ++ ds).length = ps.length := by rw [← r2.length]; exact F.len _ _ _ _ h
  refine wpAny_call (codeAny_mono (F.run X.A X.stack s H ⟨us, []⟩ (us ++ ds) (vs ++ dvs) Q E hr I.env0 (hb s us I.kIn hl) r2 h) fun r s' hq => ?_)
  cases r with
  | error e => exact hx pins σ H s e s' I hq
  | ok fl =>
    cases fl with
    | ret u => exact I.after hq
    | next => exact False.elim hq
    | brk => exact False.elim hq
    | cont => exact False.elim hq

theorem pe_call (F : FnOk X.prog X.w X.K X.mg X.base CX k f fd ps sp) (hr : Room k X.A) (hg : Gl X x) (hm : X.mg x = some (.ref f)) (hk : PySem.W.keepIn X.K (.ref f) = true) (hb : Binds X.K fd ps ds) (hd : Vals dvs ds) (hx : Passes CX X E)
    (ha : PA X (e :: es) t) (hdb : (x == ("__debug__" : Str)) = false := by decide) (he : starEach (e :: es) X.env = (false, eval e X.env) :: starEach es X.env := by rfl) (hpl : (backTo pos (starEach es X.env)).any (·.1) = false := by rfl) :
    PE X (.Call (.Name x p) (e :: es) [] pos) (tCall sp dvs E t) := by
  intro pins s σ H Q I h
  refine wpAny_Call_Name_kw (ld_glob I hg hm ?_ hdb)
  refine PySem.W.callWith_K (h₀ := X.base) I.ok.mod.kin hk (thn (ha pos pins s σ H _ I h) fun us s1 ⟨vs, H1, I1, r, q⟩ => ⟨I1.kIn, ?_⟩) he hpl
  exact run_fn F hr hb hd hx I1 r q


structure Mk (K : PySem.W.Frag) (C f : Addr) : Prop where
  makes : PySem.W.makesIn K C = true
  init : PySem.W.findIn K (.ref C) "__init__" = some (some (.ref f))
  fn : PySem.W.isFn K (.ref f) = true
  kp : PySem.W.keepIn K (.ref C) = true

end

noncomputable def PK (X : Cx) (kws : List Keyword) (t : TA) : Prop :=
  ∀ (pos : Pos) (pins : List (Addr × Obj)) (s : Shared) (σ : St) (H : Hp) (Q : List V → Hp → Prop), Inv X pins σ H s → t σ H Q → wpAny (model X.prog X.w) X.A (evalAll ((backToKw pos (keywordEach kws X.env)).map (·.2))) (AP X pins σ Q) X.xe s
section
variable {X : Cx} {CX : CXT} {k : Nat} {f C : Addr} {fd : FuncData} {ps ks : List Str} {sp : Sp} {E : XK} {x m : Str} {p pos apos kpos : Pos} {e o : Expr} {es : List Expr} {kws : List Keyword} {te ta : TE} {t tk : TA} {nm : Option Str}

structure KBinds (K : PySem.W.Frag) (fd : FuncData) (ps ks : List Str) (g : List Value → List Value → List Value) (gV : List V → List V → List V) : Prop where
  to : ∀ (s : Shared) (us ws : List Value), K.In s.heap → (g us ws).length = ps.length → BindsTo s fd ⟨us, ks.zip ws⟩ (ps.zip (g us ws))
  rel : ∀ {vs : List V} {us : List Value} {zs : List V} {ws : List Value}, Vals vs us → Vals zs ws → Vals (gV vs zs) (g us ws)
noncomputable def tCallK (sp : Sp) (gV : List V → List V → List V) (E : XK) (t tk : TA) : TE := fun σ H Q => t σ H fun vs H1 => tk σ H1 fun zs H2 => sp (gV vs zs) H2 Q E
variable {g : List Value → List Value → List Value} {gV : List V → List V → List V}
end

structure FnScope (N P : List Str) (sc : Scope) : Prop where
  kind : sc.kind = .function
  co : sc.isCoroutine = false
  gen : sc.isGenerator = false
  nd : N.Nodup
  pre : N.take P.length = P
  par : ∀ x ∈ P, sc.names.lookup x = some .local ∨ sc.names.lookup x = some .cell
  nofree : ∀ y ∈ sc.names, y.2 ≠ .free

theorem bindL_out {kindOf : Str → Option NameKind} {x : Str} : ∀ {binds : List (Str × Value)} {m : Str → Option Value}, (∀ v, (x, v) ∉ binds) → bindL kindOf binds m x = m x
  | [], _, _ => rfl
  | (n, v) :: r, m, h => by
    unfold bindL
    rw [bindL_out fun w hw => h w (List.mem_cons_of_mem _ hw)]
    split
    · have : x ≠ n := by rintro rfl; exact h v List.mem_cons_self
      simp [this]
    · rfl
theorem bindC_out {kindOf : Str → Option NameKind} {x : Str} : ∀ {binds : List (Str × Value)} {m : Str → Option Value}, (∀ v, (x, v) ∉ binds) → bindC kindOf binds m x = m x
  | [], _, _ => rfl
  | (n, v) :: r, m, h => by
    unfold bindC
    rw [bindC_out fun w hw => h w (List.mem_cons_of_mem _ hw)]
    split
    · rfl
    · have : x ≠ n := by rintro rfl; exact h v List.mem_cons_self
      simp [this]
theorem bindL_get {kindOf : Str → Option NameKind} {x : Str} {v : Value} : ∀ {P : List Str} {vs : List Value} {i : Nat} {m : Str → Option Value}, P.Nodup → P[i]? = some x → vs[i]? = some v → kindOf x = some .local →
    bindL kindOf (P.zip vs) m x = some v
  | [], _, _, _, _, h, _, _ => by simp at h
  | _ :: _, [], _, _, _, _, h, _ => by simp at h
  | p :: P, w :: vs, 0, m, nd, h1, h2, hk => by
    simp at h1 h2; subst h1; subst h2
    show bindL kindOf ((p, w) :: P.zip vs) m p = _
    unfold bindL
    rw [bindL_out fun v hv => (List.nodup_cons.mp nd).1 (List.of_mem_zip hv).1, if_pos hk]
    simp
  | p :: P, w :: vs, i + 1, m, nd, h1, h2, hk => by
    show bindL kindOf ((p, w) :: P.zip vs) m x = _
    unfold bindL
    exact bindL_get (i := i) (List.nodup_cons.mp nd).2 (by simpa using h1) (by simpa using h2) hk
theorem bindC_get {kindOf : Str → Option NameKind} {x : Str} {v : Value} : ∀ {P : List Str} {vs : List Value} {i : Nat} {m : Str → Option Value}, P.Nodup → P[i]? = some x → vs[i]? = some v → kindOf x ≠ some .local →
    bindC kindOf (P.zip vs) m x = some v
  | [], _, _, _, _, h, _, _ => by simp at h
  | _ :: _, [], _, _, _, _, h, _ => by simp at h
  | p :: P, w :: vs, 0, m, nd, h1, h2, hk => by
    simp at h1 h2; subst h1; subst h2
    show bindC kindOf ((p, w) :: P.zip vs) m p = _
    unfold bindC
    rw [bindC_out fun v hv => (List.nodup_cons.mp nd).1 (List.of_mem_zip hv).1, if_neg hk]
    simp
  | p :: P, w :: vs, i + 1, m, nd, h1, h2, hk => by
    show bindC kindOf ((p, w) :: P.zip vs) m x = _
    unfold bindC
    exact bindC_get (i := i) (List.nodup_cons.mp nd).2 (by simpa using h1) (by simpa using h2) hk

noncomputable def start (N : List Str) (vs : List V) : St := vs.map some ++ List.replicate (N.length - vs.length) none

noncomputable def cxOf (CX : CXT) (P : Program) (w : World) (K : PySem.W.Frag) (mg : Str → Option Value) (base : Heap) (N : List Str) (qual : Str) (scope : Scope) (f : Addr) (cd : Value) (A : Around) (outer : List Env) (s : Shared) (H : Hp) (E : XK) : Cx where
  prog := P
  w := w
  K := K
  mg := mg
  base := base
  A := A.deeper (envOfC qual scope s.heap.objs.size f cd)
  N := N
  s₀ := s
  H₀ := H
  env := envOfC qual scope s.heap.objs.size f cd
  outer := outer
  stack := envOfC qual scope s.heap.objs.size f cd :: outer
  ex := []
  calm := true
  fn := fun _ => true
  pn := []
  xe := fun e s' => wpAny (model P w) (A.deeper (envOfC qual scope s.heap.objs.size f cd)) (leaving (envOfC qual scope s.heap.objs.size f cd) e) (fun _ s'' => CX outer H s E e s'') (fun e' s'' => CX outer H s E e' s'') s'

theorem cell_has {sc : Scope} {n : Nat} {x : Str} (h : sc.names.lookup x = some .cell) : ∃ c, (cellsFrom n sc.names []).lookup x = some c := by
  have q := PySem.W.cellsFrom_some sc.names n [] (.inl h)
  exact Option.isSome_iff_exists.mp q

theorem inv_start {CX : CXT} {P : Program} {w : World} {K : PySem.W.Frag} {mg : Str → Option Value} {base : Heap} {N ps : List Str} {qual : Str} {scope : Scope} {f : Addr} {cd : Value} {A : Around} {outer : List Env} {s s1 : Shared} {H : Hp} {E : XK} {us : List Value} {vs : List V}
    (S : FnScope N ps scope) (hd : A.handled = none) (e0 : Env0 P w K mg base A outer s H) (hl : vs.length = ps.length) (r : Vals vs us)
    (x : InCallC s s.heap.objs.size (bindL (envOfC qual scope s.heap.objs.size f cd).kindOf (ps.zip us) fun _ => none) (cellsFrom (s.heap.objs.size + 1) scope.names []) (bindC (envOfC qual scope s.heap.objs.size f cd).kindOf (ps.zip us) fun _ => none) s1) :
    Inv (cxOf CX P w K mg base N qual scope f cd A outer s H E) [] (start N vs) H s1 := by
  have hpl : ps.length ≤ N.length := by have := congrArg List.length S.pre; rw [List.length_take] at this; omega
  obtain ⟨h1, tk, rfl, hk⟩ := x.done
  have noA : ∀ b : Addr, b ∉ (cxOf CX P w K mg base N qual scope f cd A outer s H E).ex := fun b z => absurd (show b ∈ ([] : List Addr) from z) (by simp)
  refine ⟨⟨e0.mod, S.kind, rfl, rfl, Nat.le_refl _, fun y z c h1 h2 => ?_, fun y hy => ?_, fun y c _ h => ?_, fun _ => hd, Around.frames_deeper e0.frames, .inr ⟨rfl, rfl⟩, fun b z => absurd z (noA b), e0.bs, e0.bsz, fun b _ _ => noA b, fun b z => absurd z (noA b), e0.funs, e0.frf⟩,
    rfl, e0.bare, Un.kept hk, ⟨_, x.toInCall.ns, fun i y v h1 h2 h3 => ?_⟩, fun y c h => ⟨_, x.cell y c h⟩, e0.hok.fresh (Nat.le_refl _), fun y c h => ?_, fun p hp => absurd (show p ∈ ([] : List (Addr × Obj)) from hp) (by simp), e0.hok.kept hk, ?_⟩
  · exact name_of_addr x.apart (PySem.mem_of_lookup h1) (PySem.mem_of_lookup h2)
  · have hy : scope.names.lookup y = some .cell ∨ scope.names.lookup y = some .free := hy
    rcases hy with hy | hy
    · exact cell_has hy
    · exact absurd rfl (S.nofree _ (PySem.mem_of_lookup hy))
  · exact Nat.le_of_lt (x.above y c (PySem.mem_of_lookup h))
  · have hi : i < vs.length := by
      unfold start at h2
      by_cases hi : i < vs.length
      · exact hi
      · rw [List.getElem?_append_right (by simpa using hi)] at h2
        rw [List.getElem?_replicate] at h2
        split at h2 <;> cases h2
    have ha : vs[i]? = some v := by
      unfold start at h2
      rw [List.getElem?_append_left (by simpa using hi), List.getElem?_map] at h2
      cases e : vs[i]? with
      | none => rw [e] at h2; cases h2
      | some a => rw [e] at h2; cases h2; rfl
    obtain ⟨u, hu, rv⟩ := r.get ha
    have hp : ps[i]? = some y := by
      rw [← S.pre, List.getElem?_take_of_lt (by omega)]; exact h1
    have ndP : ps.Nodup := by rw [← S.pre]; exact S.nd.sublist (List.take_sublist _ _)
    refine ⟨u, rv, ?_⟩
    rcases S.par y (List.mem_of_getElem? hp) with k | k
    · exact .inl ⟨k, bindL_get ndP hp hu k⟩
    · obtain ⟨c, e⟩ := cell_has (n := s.heap.objs.size + 1) k
      refine .inr ⟨.inl k, c, e, ?_⟩
      have q := x.cell y c e
      rw [bindC_get ndP hp hu (by show scope.names.lookup y ≠ _; rw [k]; decide)] at q
      exact q
  · exact e0.hok.fresh (Nat.le_of_lt (x.above y c (PySem.mem_of_lookup h)))
  · unfold start
    show _ = N.length
    rw [List.length_append, List.length_map, List.length_replicate]
    omega

theorem fn_of {CX : CXT} {P : Program} {w : World} {K : PySem.W.Frag} {mg : Str → Option Value} {base : Heap} {k : Nat} {f : Addr} {name qual : Str} {params : Arguments} {body : List Stmt} {scope : Scope} {dV kV doc pm cdv ct oc : Value} {an od : Option Addr}
    {osl : Array (Option Value)} {N ps : List Str} {sp : Sp} (lk : K.lookup f = some ⟨oc, od, .func (PySem.W.fnOf name qual params body scope dV kV doc pm an cdv ct), osl⟩) (hcd : PySem.W.codeIn K cdv qual = true) (S : FnScope N ps scope)
    (len : ∀ vs H Q E, sp vs H Q E → vs.length = ps.length)
    (hbody : ∀ (A : Around) (outer : List Env) (s : Shared) (H : Hp) (vs : List V) (Q : VK) (E : XK), Room k (A.deeper (envOfC qual scope s.heap.objs.size f cdv)) → sp vs H Q E →
      ∃ t, PSs (cxOf CX P w K mg base N qual scope f cdv A outer s H E) body t ∧ t { nx := fun _ H' => Q .non H', rt := Q } (start N vs) H) :
    FnOk P w K mg base CX (k + 1) f (PySem.W.fnOf name qual params body scope dV kV doc pm an cdv ct) ps sp := by
  refine ⟨len, fun A outer s H args us vs Q E hr e0 hb r hsp => ?_⟩
  have hl := len _ _ _ _ hsp
  have KX : K.In s.heap := e0.mod.kin.keeps fun b o e => (e0.bs b o e).1
  have lim : s.heap.NoLimit := e0.mod.nolimit.keeps fun b o e => (e0.bs b o e).1
  have hkind : ∀ y ∈ ps.zip us, scope.names.lookup y.1 = some .local ∨ (scope.names.lookup y.1 = some .cell ∧ ((cellsFrom (s.heap.objs.size + 1) scope.names []).lookup y.1).isSome = true) := fun ⟨n, v⟩ hy => by
    rcases S.par n (List.of_mem_zip hy).1 with q | q
    · exact .inl q
    · exact .inr ⟨q, PySem.W.cellsFrom_some _ _ _ (.inl q)⟩
  refine codeAny_call_function hr.depth (KX _ _ lk) rfl S.co S.gen rfl (PySem.W.codeRec_of KX hcd) (hb _ _ _ _ ?_)
  refine wpAny_newFunctionEnv_cells S.kind hkind fun env he s1 x => ?_
  subst he
  refine ⟨lim.keeps x.toInCall.keep, codeAny_func ?_⟩
  obtain ⟨t, ht, hq⟩ := hbody A outer s H vs Q E (hr.deeper _) hsp
  have I : Inv (cxOf CX P w K mg base N qual scope f cdv A outer s H E) [] (start N vs) H s1 := inv_start S hr.hd e0 hl r x
  refine wpAny_mono (ht [] s1 (start N vs) H _ I hq) (fun fl s' hs => ?_) fun e s' hs => hs
  have fin : ∀ {σ' : St} {H' : Hp} {v : V} {u : Value}, Inv (cxOf CX P w K mg base N qual scope f cdv A outer s H E) [] σ' H' s' → RelV v u → Q v H' → CE outer P w H s Q u s' :=
    fun {σ' H' v u} J rv q => ⟨v, H', J.os, J.bare, J.base, J.hok, rv, q⟩
  cases fl with
  | ret u =>
    obtain ⟨v, σ', H', J, rv, q⟩ := hs
    exact fin J rv q
  | next =>
    obtain ⟨σ', H', J, q⟩ := hs
    exact fin (v := V.non) (u := Value.none) J rfl q
  | brk =>
    obtain ⟨_, _, _, q⟩ := hs
    exact False.elim q
  | cont =>
    obtain ⟨_, _, _, q⟩ := hs
    exact False.elim q
end L2

namespace L2
open PySem PySem.Spec PyProof.Rows
section
variable {X : Cx} {x : Str} {p pos : Pos} {e : Expr} {es : List Expr} {t : TA} {id T : String} {r : List V → Hp → VK → Prop}

noncomputable def tCB (r : List V → Hp → VK → Prop) (t : TA) : TE := fun σ H Q => t σ H fun vs H1 => r vs H1 Q
theorem pe_callB (hc : CallR X (.builtin id) r) (hg : Gl X x) (hm : X.mg x = none) (hv : bootBuiltins x = some (.builtin id)) (ha : PA X (e :: es) t) (hn : x ≠ "__name__" := by decide) (hdb : (x == ("__debug__" : Str)) = false := by decide)
    (he : starEach (e :: es) X.env = (false, eval e X.env) :: starEach es X.env := by rfl) (hpl : (backTo pos (starEach es X.env)).any (·.1) = false := by rfl) : PE X (.Call (.Name x p) (e :: es) [] pos) (tCB r t) := by
  intro pins s σ H Q I h
  refine wpAny_Call_Name_kw (ld_blt I hg hm hv ?_ hn hdb)
  exact PyProof.Rows.callWith_builtin1 (thn (ha pos pins s σ H _ I h) fun us s1 ⟨vs, H1, I1, r1, q1⟩ => hc pins s1 σ H1 vs us Q I1 r1 q1) he hpl
theorem pe_callTy (hc : CallR X (.type T) r) (hg : Gl X x) (hm : X.mg x = none) (hv : bootBuiltins x = some (.type T)) (ha : PA X (e :: es) t) (hn : x ≠ "__name__" := by decide) (hdb : (x == ("__debug__" : Str)) = false := by decide)
    (he : starEach (e :: es) X.env = (false, eval e X.env) :: starEach es X.env := by rfl) (hpl : (backTo pos (starEach es X.env)).any (·.1) = false := by rfl) : PE X (.Call (.Name x p) (e :: es) [] pos) (tCB r t) := by
  intro pins s σ H Q I h
  refine wpAny_Call_Name_kw (ld_blt I hg hm hv ?_ hn hdb)
  exact PyProof.Rows.callWith_type1 (thn (ha pos pins s σ H _ I h) fun us s1 ⟨vs, H1, I1, r1, q1⟩ => hc pins s1 σ H1 vs us Q I1 r1 q1) he hpl
end
end L2

namespace HT
open PySem PyProof.Rows

noncomputable def lexLt : List Int → List Int → Bool
  | [], [] => false
  | [], _ :: _ => true
  | _ :: _, [] => false
  | x :: xs, y :: ys => if x = y then lexLt xs ys else decide (x < y)
theorem lexLt_cons (x y : Int) (xs ys : List Int) : lexLt (x :: xs) (y :: ys) = if x = y then lexLt xs ys else decide (x < y) := rfl
theorem lexLt_nil_nil : lexLt [] [] = false := rfl
theorem lexLt_nil_cons (y : Int) (ys : List Int) : lexLt [] (y :: ys) = true := rfl
theorem lexLt_cons_nil (x : Int) (xs : List Int) : lexLt (x :: xs) [] = false := rfl


section
open PySem.SeqAt
open PySem.AutoSeq1 (wpAny_loadPart')
open PySem.MeetsSeq PySem.MeetsSeq2 PySem.MeetsSeq3

end

section
variable {prog : Program} {w : World} {A : Around} {E : Value → Shared → Prop} {s : Shared}



noncomputable def sIx (n d : Nat) : Option Int → Nat
  | none => d
  | some v => if v < 0 then (v + (n : Int)).toNat else min v.toNat n
theorem sIx_none (n d : Nat) : sIx n d none = d := rfl

end
end HT

namespace L2
open PySem PySem.Spec PyProof.Rows

noncomputable abbrev TO := St → Hp → (Option Int → Hp → Prop) → Prop
noncomputable def PO (X : Cx) (e : Option Expr) (t : TO) : Prop :=
  ∀ (pins : List (Addr × Obj)) (s : Shared) (σ : St) (H : Hp) (Q : Option Int → Hp → Prop), Inv X pins σ H s → t σ H Q →
    wpAny (model X.prog X.w) X.A (evalPart e X.env) (fun u s' => ∃ o H', Inv X pins σ H' s' ∧ IsPart u o ∧ Q o H') X.xe s
noncomputable def tNoPart : TO := fun _ H Q => Q none H
noncomputable def tPart (t : TE) : TO := fun σ H Q => t σ H fun x H1 => ∃ i, x = .int i ∧ Q (some i) H1


section
variable {X : Cx} {e : Expr} {te : TE} {lo hi : Option Expr} {tl th : TO} {pos p2 : Pos}

theorem po_none : PO X none tNoPart := by
  intro pins s σ H Q I h
  rw [evalPart_none]
  exact wpAny_pure ⟨none, H, I, .none, h⟩
theorem po_some (h : PE X e te) : PO X (some e) (tPart te) := by
  intro pins s σ H Q I hw
  rw [evalPart_some]
  refine thn (h pins s σ H _ I hw) fun u s1 ⟨x, H1, I1, r1, q1⟩ => ?_
  obtain ⟨i, rfl, q⟩ := q1
  obtain ⟨t, rfl⟩ := r1
  exact ⟨some i, H1, I1, .int i t, q⟩

noncomputable def SlR (X : Cx) (r : V → Option Int → Option Int → Hp → VK → Prop) : Prop :=
  ∀ (pins : List (Addr × Obj)) (s : Shared) (σ : St) (H : Hp) (x : V) (v vl vu : Value) (lo hi : Option Int) (sl : Addr) (Q : VK), Inv X pins σ H s → RelV x v → s.heap.IsSliceOf sl vl vu .none → IsPart vl lo → IsPart vu hi → r x lo hi H Q →
    ∃ T id, typeLookup (.type T) "__getitem__" = pure (some (.builtin id)) ∧ s.TypeIs v T ∧ wpAny (model X.prog X.w) X.A (getItem v (.ref sl)) (EP X pins σ Q) X.xe s
theorem SlR.or {r r' : V → Option Int → Option Int → Hp → VK → Prop} (h : SlR X r) (h' : SlR X r') : SlR X (fun x lo hi H Q => r x lo hi H Q ∨ r' x lo hi H Q) := by
  intro pins s σ H x v vl vu lo hi sl Q I rx hs pl pu q
  rcases q with q | q
  · exact h pins s σ H x v vl vu lo hi sl Q I rx hs pl pu q
  · exact h' pins s σ H x v vl vu lo hi sl Q I rx hs pl pu q
noncomputable def tSl (r : V → Option Int → Option Int → Hp → VK → Prop) (te : TE) (tl th : TO) : TE := fun σ H Q => te σ H fun x H1 => tl σ H1 fun l H2 => th σ H2 fun u H3 => r x l u H3 Q
theorem pe_slice {r : V → Option Int → Option Int → Hp → VK → Prop} (hr : SlR X r) (he : PE X e te) (hl : PO X lo tl) (hu : PO X hi th) : PE X (.Subscript e (.Slice lo hi none p2) pos) (tSl r te tl th) := by
  intro pins s σ H Q I h
  refine Subscript_ (thn (he pins s σ H _ I h) fun v s1 ⟨x, H1, I1, r1, q1⟩ => ?_)
  refine wpAny_Slice (thn (hl pins s1 σ H1 _ I1 q1) fun vl s2 ⟨l, H2, I2, pl, q2⟩ => thn (hu pins s2 σ H2 _ I2 q2) fun vu s3 ⟨u, H3, I3, pu, q3⟩ => ?_)
  rw [evalPart_none]
  refine wpAny_pure ?_
  have I4 : Inv X pins σ H3 { s3 with heap := s3.heap.push { cls := .type "slice", data := .fields #[vl, vu, .none] } } := I3.kept (t' := s3.toks) fun b ob q => Heap.get?_push_of_some _ q
  obtain ⟨T, id, hT, ht, hg⟩ := hr pins { s3 with heap := s3.heap.push { cls := .type "slice", data := .fields #[vl, vu, .none] } } σ H3 x v vl vu l u s3.heap.objs.size Q I4 r1 (Heap.IsSliceOf.new ..) pl pu q3
  show wpAny (model X.prog X.w) X.A (subscriptTail e (.Slice lo hi none p2) v (.ref s3.heap.objs.size)) (EP X pins σ Q) X.xe { s3 with heap := s3.heap.push { cls := .type "slice", data := .fields #[vl, vu, .none] } }
  exact tail_any (ops := [.ref s3.heap.objs.size, v]) ht hT hg (by with_unfolding_all rfl)

noncomputable def cutV (xs : List V) (lo hi : Option Int) : List V := (xs.drop (HT.sIx xs.length 0 lo)).take (HT.sIx xs.length xs.length hi - HT.sIx xs.length 0 lo)
theorem cutV_length (xs : List V) (lo hi : Option Int) : (cutV xs lo hi).length ≤ xs.length := by
  unfold cutV
  rw [List.length_take, List.length_drop]
  omega
noncomputable def rSlT (K : PySem.W.Frag) : V → Option Int → Option Int → Hp → VK → Prop := fun x lo hi H Q => ∃ a xs, x = .ref a ∧ SqT K H a xs ∧
  ¬ (HT.sIx xs.length 0 lo = 0 ∧ HT.sIx xs.length xs.length hi = xs.length) ∧ ∀ p, H p = none → Q (.ref p) (upd H p (.tup (cutV xs lo hi)))

noncomputable def rLtT (K : PySem.W.Frag) : R2 := fun x y H Q => ∃ a b ns ms, x = .ref a ∧ y = .ref b ∧ SqT K H a (ns.map V.int) ∧ SqT K H b (ms.map V.int) ∧ Q (.bl (HT.lexLt ns ms)) H
noncomputable def rCatT (K : PySem.W.Frag) : R2 := fun x y H Q => ∃ a b xs ys, x = .ref a ∧ y = .ref b ∧ SqT K H a xs ∧ SqT K H b ys ∧ xs ≠ [] ∧ xs.length + ys.length ≤ sizeLine ∧
  (ys = [] → Q (.ref a) H) ∧ (ys ≠ [] → ∀ p, H p = none → Q (.ref p) (upd H p (.tup (xs ++ ys))))
end
end L2

namespace L2
open PySem PySem.Spec PyProof.Rows

noncomputable def ixN (n : Nat) (i : Int) : Option Nat := if 0 ≤ i then (if i < n then some i.toNat else none) else if -(n : Int) ≤ i then some (i + n).toNat else none
noncomputable def atI {α : Type} (xs : List α) (i : Int) : Option α := (ixN xs.length i).bind fun j => xs[j]?
theorem ixN_seq {n : Nat} {i : Int} {j : Nat} (h : ixN n i = some j) : seqIndex? i n = some j ∧ j < n ∧ -(n : Int) ≤ i ∧ i < n := by
  unfold ixN at h
  by_cases h0 : 0 ≤ i
  · rw [if_pos h0] at h
    by_cases h1 : i < n
    · rw [if_pos h1] at h
      have e : i.toNat = j := Option.some.inj h
      exact ⟨by rw [seqIndex_of h0 h1, e], by omega, by omega, h1⟩
    · rw [if_neg h1] at h; cases h
  · rw [if_neg h0] at h
    by_cases h1 : -(n : Int) ≤ i
    · rw [if_pos h1] at h
      have e : (i + n).toNat = j := Option.some.inj h
      exact ⟨by rw [seqIndex_neg (by omega) h1, e], by omega, h1, by omega⟩
    · rw [if_neg h1] at h; cases h
theorem atI_get {α : Type} {xs : List α} {i : Int} {v : α} (h : atI xs i = some v) : ∃ j, seqIndex? i xs.length = some j ∧ xs[j]? = some v ∧ j < xs.length ∧ -(xs.length : Int) ≤ i ∧ i < xs.length := by
  unfold atI at h
  cases e : ixN xs.length i with
  | none => rw [e] at h; cases h
  | some j =>
    rw [e] at h
    obtain ⟨h1, h2, h3, h4⟩ := ixN_seq e
    exact ⟨j, h1, h, h2, h3, h4⟩
theorem atI_nat {α : Type} {xs : List α} {j : Nat} {v : α} (h : xs[j]? = some v) : atI xs (j : Int) = some v := by
  have hj : j < xs.length := (List.getElem?_eq_some_iff.mp h).1
  have e : ixN xs.length (j : Int) = some j := by
    unfold ixN
    rw [if_pos (by omega), if_pos (by omega)]; simp
  unfold atI; rw [e]; exact h
theorem atI_last {α : Type} (xs : List α) (v : α) : atI (xs ++ [v]) (-1) = some v := by
  have hl : (xs ++ [v]).length = xs.length + 1 := by simp
  have e : ixN (xs ++ [v]).length (-1) = some xs.length := by
    unfold ixN
    rw [hl, if_neg (by decide), if_pos (by omega)]
    congr 1
    omega
  unfold atI
  rw [e]
  show (xs ++ [v])[xs.length]? = some v
  simp

noncomputable def PlainIx (b : Expr) : Prop := ∀ o i, subscripted b false o i = operate [o, i] (getItem o i)
noncomputable def IxR (X : Cx) (r : R2) : Prop :=
  ∀ (value slice : Expr) (pins : List (Addr × Obj)) (s : Shared) (σ : St) (H : Hp) (x y : V) (v u : Value) (Q : VK), Inv X pins σ H s → RelV x v → RelV y u → r x y H Q →
    subscripted slice false v u = operate [v, u] (getItem v u) → wpAny (model X.prog X.w) X.A (subscriptTail value slice v u) (EP X pins σ Q) X.xe s
noncomputable def MtR (X : Cx) (id : String) (r : V → List V → Hp → VK → Prop) : Prop :=
  ∀ (pins : List (Addr × Obj)) (s : Shared) (σ : St) (H : Hp) (x : V) (xs : List V) (v : Value) (us : List Value) (Q : VK), Inv X pins σ H s → RelV x v → Vals xs us → r x xs H Q →
    wpAny (model X.prog X.w) X.A (call (.builtin id) (v :: us)) (EP X pins σ Q) X.xe s
section
variable {X : Cx} {a b : Expr} {ta tb : TE} {pos : Pos}
theorem IxR.or {r r' : R2} (h : IxR X r) (h' : IxR X r') : IxR X (fun x y H Q => r x y H Q ∨ r' x y H Q) := by
  intro value slice pins s σ H x y v u Q I rx ry q hs
  rcases q with q | q
  · exact h value slice pins s σ H x y v u Q I rx ry q hs
  · exact h' value slice pins s σ H x y v u Q I rx ry q hs
theorem pe_ix {r : R2} (hr : IxR X r) (ha : PE X a ta) (hb : PE X b tb) (hs : PlainIx b) : PE X (.Subscript a b pos) (tOp r ta tb) := by
  intro pins s σ H Q I h
  exact Subscript_ (binT ha hb I h fun v u s2 x y H2 I2 rx ry q => hr a b pins s2 σ H2 x y v u Q I2 rx ry q (hs _ _))

noncomputable def rIxL (K : PySem.W.Frag) : R2 := fun x y H Q => ∃ p xs i v, x = .ref p ∧ y = .int i ∧ SqL K H p xs ∧ atI xs i = some v ∧ Q v H
noncomputable def rIxT (K : PySem.W.Frag) : R2 := fun x y H Q => ∃ p xs i v, x = .ref p ∧ y = .int i ∧ SqT K H p xs ∧ atI xs i = some v ∧ Q v H
noncomputable def rIxS : R2 := fun x y H Q => ∃ z i c, x = .str z ∧ y = .int i ∧ z.length ≤ sizeLine ∧ atI z.cps.toList i = some c ∧ Q (.str ⟨#[c]⟩) H
theorem ix_list : IxR X (rIxL X.K) := by
  intro value slice pins s σ H x y v u Q I rx ry h hs
  obtain ⟨p, xs, i, z, rfl, rfl, hq, he, q⟩ := h
  cases rx
  obtain ⟨t, rfl⟩ := ry
  obtain ⟨its, r, pl, hz⟩ := I.list hq
  obtain ⟨j, h1, h2, h3, h4, h5⟩ := atI_get he
  obtain ⟨w, ew, rw'⟩ := r.get h2
  have hl := r.length
  have hn := line63
  have fin : EP X pins σ Q w s := ⟨z, H, I, rw', q⟩
  by_cases h0 : 0 ≤ i
  · have hj : i.toNat = j := by
      rw [seqIndex_of h0 h5] at h1
      exact Option.some.inj h1
    exact item_listR pl.isList h0 (by omega) (by rw [hj]; simpa using ew) fin hs
  · have hj : (i + (its.toArray.size : Int)).toNat = j := by
      rw [seqIndex_neg (by omega) h4] at h1
      rw [List.size_toArray, ← hl]
      exact Option.some.inj h1
    exact subscriptTail_builtinR (x := w) pl.isList.typeIs slot_list_getitem.lookup
      (wpAny_getItem_list_neg (Q := fun r s' => r = w ∧ EP X pins σ Q r s') pl.isList (by omega) (by rw [List.size_toArray] <;> omega) (by omega) (by rw [hj]; simpa using ew) ⟨rfl, fin⟩) hs
theorem ix_tup : IxR X (rIxT X.K) := by
  intro value slice pins s σ H x y v u Q I rx ry h hs
  obtain ⟨p, xs, i, z, rfl, rfl, hq, he, q⟩ := h
  cases rx
  obtain ⟨t, rfl⟩ := ry
  obtain ⟨its, r, pl, hz⟩ := I.tuple hq
  obtain ⟨j, h1, h2, h3, h4, h5⟩ := atI_get he
  obtain ⟨w, ew, rw'⟩ := r.get h2
  have hl := r.length
  have hn := line63
  have fin : EP X pins σ Q w s := ⟨z, H, I, rw', q⟩
  exact subscriptTail_builtinR (x := w) pl.typeIs slot_tuple_getitem.lookup
    (getItem_tuple (j := j) (Q := fun r s' => r = w ∧ EP X pins σ Q r s') pl (by omega) (by omega) (by rw [List.size_toArray, ← hl]; exact h1) (by simpa using ew) ⟨rfl, fin⟩) hs
theorem ix_str : IxR X rIxS := by
  intro value slice pins s σ H x y v u Q I rx ry h hs
  obtain ⟨z, i, c, rfl, rfl, hz, he, q⟩ := h
  obtain ⟨t, rfl⟩ := rx
  obtain ⟨t', rfl⟩ := ry
  obtain ⟨j, h1, h2, h3, h4, h5⟩ := atI_get he
  have hl : z.cps.toList.length = z.length := by simp [Str.length]
  rw [hl] at h1 h4 h5
  have hn := line63
  exact tail_any (typeIs_str s z t) slot_str_getitem.lookup (getItem_str (c := c) (by
    have e1 : decide (i < -(2 ^ 63 : Int)) = false := decide_eq_false (by omega)
    have e2 : decide (i ≥ 2 ^ 63) = false := decide_eq_false (by omega)
    rw [e1, e2, Bool.or_false]) (by rw [h1]; simpa using h2) ⟨.str ⟨#[c]⟩, H, I.tok _, ⟨_, rfl⟩, q⟩) hs
noncomputable def rIx (K : PySem.W.Frag) : R2 := fun x y H Q => rIxL K x y H Q ∨ rIxT K x y H Q ∨ rIxS x y H Q
theorem ix_seq : IxR X (rIx X.K) := ix_list.or (ix_tup.or ix_str)

noncomputable def rSetL : V → V → V → Hp → (Hp → Prop) → Prop := fun o i v H Q => ∃ p xs k j, o = .ref p ∧ i = .int k ∧ H p = some (.lst xs) ∧ ixN xs.length k = some j ∧ Q (upd H p (.lst (xs.set j v)))

theorem slice_bounds (lo hi : Option Int) (n : Nat) : (sliceBounds lo hi none n).1 = ((HT.sIx n 0 lo : Nat) : Int) ∧ (sliceBounds lo hi none n).2.1 = ((HT.sIx n n hi : Nat) : Int) ∧ (sliceBounds lo hi none n).2.2 = 1 := by
  refine ⟨?_, ?_, rfl⟩
  · cases lo with
    | none => simp [sliceBounds, HT.sIx]
    | some i =>
      simp only [sliceBounds, HT.sIx, Option.getD_none, show (1 : Int) > 0 by decide, if_true]
      by_cases h : i < 0
      · simp only [h, if_true] <;> omega
      · simp only [h, if_false] <;> omega
  · cases hi with
    | none => simp [sliceBounds, HT.sIx]
    | some i =>
      simp only [sliceBounds, HT.sIx, Option.getD_none, show (1 : Int) > 0 by decide, if_true]
      by_cases h : i < 0
      · simp only [h, if_true] <;> omega
      · simp only [h, if_false] <;> omega
theorem slicePick_cut (its : List Value) (lo hi : Option Int) : slicePick its.toArray lo hi none = ((its.drop (HT.sIx its.length 0 lo)).take (HT.sIx its.length its.length hi - HT.sIx its.length 0 lo)).toArray := by
  obtain ⟨h1, h2, h3⟩ := slice_bounds lo hi its.toArray.size
  unfold slicePick
  rw [h1, h2, h3]
  simp only [sliceRange_one, pick_run, List.size_toArray] <;> rfl
noncomputable def rSlL (K : PySem.W.Frag) : V → Option Int → Option Int → Hp → VK → Prop := fun x lo hi H Q => ∃ a xs, x = .ref a ∧ SqL K H a xs ∧ ∀ p, H p = none → Q (.ref p) (upd H p (.lst (cutV xs lo hi)))
theorem sl_list : SlR X (rSlL X.K) := by
  intro pins s σ H x v vl vu lo hi sl Q I rx hs pl pu h
  obtain ⟨a, xs, rfl, hx, q⟩ := h
  cases rx
  obtain ⟨its, r, ht, hz⟩ := I.list hx
  have hlen := r.length
  refine ⟨"list", _, slot_list_getitem.lookup, ht.isList.typeIs, ?_⟩
  refine wpAny_getItem_list_slice ht.isList hs pl pu .none (by simp) ?_ (by rw [List.size_toArray] <;> omega)
  rw [slicePick_cut, ← hlen]
  refine ⟨.ref s.heap.objs.size, _, I.laid (t' := s.toks) (o := .lst (cutV xs lo hi)) (fun b ob q => Heap.get?_push_of_some _ q) (Nat.le_refl _) ?_, rfl, q _ (I.hok.fresh (Nat.le_refl _))⟩
  exact ⟨Nat.le_trans (cutV_length xs lo hi) hz, _, 0, (r.drop (HT.sIx xs.length 0 lo)).take (HT.sIx xs.length xs.length hi - HT.sIx xs.length 0 lo), Heap.get?_push_size _ rfl⟩

noncomputable def flatV : V → Bool
  | .non => true
  | .bl _ => true
  | .int _ => true
  | .str _ => true
  | _ => false
noncomputable def eqV : V → V → Bool
  | .non, .non => true
  | .bl a, .bl b => a == b
  | .bl a, .int b => (if a then 1 else 0) == b
  | .int a, .bl b => a == (if b then 1 else 0)
  | .int a, .int b => a == b
  | .str a, .str b => a == b
  | _, _ => false
theorem eqAt_V {A : Around} {s : Shared} {y x : V} {u v : Value} (ry : RelV y u) (rx : RelV x v) (fy : flatV y = true) (fx : flatV x = true) : SeqAt.EqAt A s u v (eqV y x) := by
  cases y with
  | non =>
    cases ry
    cases x with
    | non => cases rx; exact SeqAt.EqAt.same _
    | bl b => cases rx; exact SeqAt.EqAt.none_bool b
    | int b => obtain ⟨t, rfl⟩ := rx; exact SeqAt.EqAt.none_int b t
    | str b => obtain ⟨t, rfl⟩ := rx; exact SeqAt.EqAt.none_str b t
    | _ => exact absurd (show false = true from fx) Bool.false_ne_true
  | bl a =>
    cases ry
    cases x with
    | non => cases rx; exact SeqAt.EqAt.bool_none a
    | bl b => cases rx; exact SeqAt.EqAt.bool_bool a b
    | int b => obtain ⟨t, rfl⟩ := rx; exact SeqAt.EqAt.bool_int a b t
    | str b => obtain ⟨t, rfl⟩ := rx; exact SeqAt.EqAt.bool_str a b t
    | _ => exact absurd (show false = true from fx) Bool.false_ne_true
  | int a =>
    obtain ⟨t', rfl⟩ := ry
    cases x with
    | non => cases rx; exact SeqAt.EqAt.int_none a t'
    | bl b => cases rx; exact SeqAt.EqAt.int_bool a t' b
    | int b => obtain ⟨t, rfl⟩ := rx; exact SeqAt.EqAt.int_int a t' b t
    | str b => obtain ⟨t, rfl⟩ := rx; exact SeqAt.EqAt.int_str a t' b t
    | _ => exact absurd (show false = true from fx) Bool.false_ne_true
  | str a =>
    obtain ⟨t', rfl⟩ := ry
    cases x with
    | non => cases rx; exact SeqAt.EqAt.str_none a t'
    | bl b => cases rx; exact SeqAt.EqAt.str_bool a t' b
    | int b => obtain ⟨t, rfl⟩ := rx; exact SeqAt.EqAt.str_int a t' b t
    | str b => obtain ⟨t, rfl⟩ := rx; exact SeqAt.EqAt.str_str a t' b t
    | _ => exact absurd (show false = true from fx) Bool.false_ne_true
  | _ => exact absurd (show false = true from fy) Bool.false_ne_true
noncomputable def eqU (x : V) (u : Value) : Bool := match u with
  | .none => eqV .non x
  | .bool b => eqV (.bl b) x
  | .int i _ => eqV (.int i) x
  | .str z _ => eqV (.str z) x
  | _ => false
theorem eqU_of {x y : V} {u : Value} (r : RelV y u) (f : flatV y = true) : eqU x u = eqV y x := by
  cases y with
  | non => cases r; rfl
  | bl b => cases r; rfl
  | int i => obtain ⟨t, rfl⟩ := r; rfl
  | str z => obtain ⟨t, rfl⟩ := r; rfl
  | _ => exact absurd (show false = true from f) Bool.false_ne_true
theorem any_eqU {x : V} : ∀ {xs : List V} {us : List Value}, Vals xs us → xs.all flatV = true → us.any (eqU x) = xs.any fun y => eqV y x
  | _, _, .nil, _ => rfl
  | y :: xs, u :: us, .cons r t, f => by
    rw [List.all_cons, Bool.and_eq_true] at f
    rw [List.any_cons, List.any_cons, eqU_of r f.1, any_eqU t f.2]
theorem mem_eqAt {A : Around} {s : Shared} {x : V} {v : Value} (rx : RelV x v) (fx : flatV x = true) : ∀ {xs : List V} {us : List Value}, Vals xs us → xs.all flatV = true → ∀ u ∈ us, SeqAt.EqAt A s u v (eqU x u)
  | _, _, .nil, _ => fun u hu => by cases hu
  | y :: xs, u :: us, .cons r t, f => fun u' hu => by
    rw [List.all_cons, Bool.and_eq_true] at f
    rcases List.mem_cons.mp hu with rfl | hu
    · rw [eqU_of r f.1]; exact eqAt_V r rx f.1 fx
    · exact mem_eqAt rx fx t f.2 u' hu
noncomputable def inV (x : V) (xs : List V) : Bool := xs.any fun y => eqV y x
noncomputable def rIn (K : PySem.W.Frag) (neg : Bool) : R2 := fun x y H Q => ∃ p xs, y = .ref p ∧ (SqL K H p xs ∨ SqT K H p xs) ∧ flatV x = true ∧ xs.all flatV = true ∧ Q (.bl (if neg then !inV x xs else inV x xs)) H
theorem op_in_seq : OpR X (compareOp .In) (rIn X.K false) := by
  intro pins s σ H x y v u Q I rx ry h
  obtain ⟨p, xs, rfl, hq, fx, fs, q⟩ := h
  cases ry
  rcases hq with hq | hq
  · obtain ⟨its, r, pl, hz⟩ := I.list hq
    refine SeqAt.in_listAt (eqU x) pl.isList (fun w hw => mem_eqAt rx fx r fs w (by simpa using hw)) ⟨.bl _, H, I, rfl, ?_⟩
    rw [show its.toArray.any (eqU x) = its.any (eqU x) by simp, any_eqU r fs]
    exact q
  · obtain ⟨its, r, pl, hz⟩ := I.tuple hq
    refine SeqAt.in_tupleAt (eqU x) pl (fun w hw => mem_eqAt rx fx r fs w (by simpa using hw)) ⟨.bl _, H, I, rfl, ?_⟩
    rw [show its.toArray.any (eqU x) = its.any (eqU x) by simp, any_eqU r fs]
    exact q
theorem op_notIn_seq : OpR X (compareOp .NotIn) (rIn X.K true) := by
  intro pins s σ H x y v u Q I rx ry h
  obtain ⟨p, xs, rfl, hq, fx, fs, q⟩ := h
  cases ry
  rcases hq with hq | hq
  · obtain ⟨its, r, pl, hz⟩ := I.list hq
    refine SeqAt.notIn_listAt (eqU x) pl.isList (fun w hw => mem_eqAt rx fx r fs w (by simpa using hw)) ⟨.bl _, H, I, rfl, ?_⟩
    rw [show its.toArray.any (eqU x) = its.any (eqU x) by simp, any_eqU r fs]
    exact q
  · obtain ⟨its, r, pl, hz⟩ := I.tuple hq
    refine SeqAt.notIn_tupleAt (eqU x) pl (fun w hw => mem_eqAt rx fx r fs w (by simpa using hw)) ⟨.bl _, H, I, rfl, ?_⟩
    rw [show its.toArray.any (eqU x) = its.any (eqU x) by simp, any_eqU r fs]
    exact q
theorem op_notIn_str : OpR X (compareOp .NotIn) (fun x y H Q => ∃ i j, x = .str i ∧ y = .str j ∧ Q (.bl (!(!(Builtin.Str.occurrences j i 0 j.length 1).isEmpty))) H) := by
  intro pins s σ H x y v u Q I rx ry h
  obtain ⟨i, j, rfl, rfl, q⟩ := h
  obtain ⟨t, rfl⟩ := rx
  obtain ⟨t', rfl⟩ := ry
  exact notIn_str ⟨.bl _, H, I, rfl, q⟩

theorem call_len_seq : CallR X (.builtin "len") (fun xs H Q => ∃ p ys, xs = [.ref p] ∧ (SqL X.K H p ys ∨ SqT X.K H p ys) ∧ Q (.int ys.length) H) := by
  intro pins s σ H xs us Q I r h
  obtain ⟨p, ys, rfl, hq, q⟩ := h
  obtain ⟨u, rfl, rx⟩ := vals1 r
  cases rx
  have hn := line63
  rcases hq with hq | hq
  · obtain ⟨its, r', pl, hz⟩ := I.list hq
    have hlen := r'.length
    exact Calls.call_len_list pl.isList (by simp only [List.size_toArray] <;> omega) ⟨.int ys.length, H, I.tok _, ⟨s.toks + 1, by rw [List.size_toArray, hlen]⟩, q⟩
  · obtain ⟨its, r', pl, hz⟩ := I.tuple hq
    have hlen := r'.length
    exact len_tuple pl (by simp only [List.size_toArray] <;> omega) ⟨.int ys.length, H, I.tok _, ⟨s.toks + 1, by rw [List.size_toArray, hlen]⟩, q⟩
theorem call_len_str : CallR X (.builtin "len") (fun xs H Q => ∃ z, xs = [.str z] ∧ z.length ≤ sizeLine ∧ Q (.int z.length) H) := by
  intro pins s σ H xs us Q I r h
  obtain ⟨z, rfl, hz, q⟩ := h
  obtain ⟨u, rfl, t, rfl⟩ := vals1 r
  have hn := line63
  exact len_str (by omega) ⟨.int z.length, H, I.tok _, ⟨_, rfl⟩, q⟩
theorem CallR.or {f : Value} {r r' : List V → Hp → VK → Prop} (h : CallR X f r) (h' : CallR X f r') : CallR X f (fun xs H Q => r xs H Q ∨ r' xs H Q) := by
  intro pins s σ H xs us Q I rs q
  rcases q with q | q
  · exact h pins s σ H xs us Q I rs q
  · exact h' pins s σ H xs us Q I rs q
theorem call_tuple_of : CallR X (.type "tuple") (fun xs H Q => ∃ p ys, xs = [.ref p] ∧ ((SqL X.K H p ys ∧ ∀ l, H l = none → Q (.ref l) (upd H l (.tup ys))) ∨ (SqT X.K H p ys ∧ Q (.ref p) H))) := by
  intro pins s σ H xs us Q I r h
  obtain ⟨p, ys, rfl, h⟩ := h
  obtain ⟨u, rfl, rx⟩ := vals1 r
  cases rx
  rcases h with ⟨hq, q⟩ | ⟨hq, q⟩
  · obtain ⟨its, r', pl, hz⟩ := I.list hq
    have hlen := r'.length
    refine call_tuple_list pl.isList (fun h' kp => ?_) (by simp only [List.size_toArray] <;> omega)
    have I1 : Inv X pins σ H { s with heap := h' } := I.kept (t' := s.toks) kp
    have I2 : Inv X pins σ (upd H h'.objs.size (.tup ys)) { s with heap := h'.push { cls := .type "tuple", data := .seq its.toArray } } :=
      I1.laid (t' := s.toks) (fun b o e => Heap.get?_push_of_some _ e) (Nat.le_refl _) (show ObjOk X.prog X.w _ _ _ (.tup ys) from ⟨hz, its, r', IsTup.new _ _⟩)
    exact ⟨.ref h'.objs.size, _, I2, rfl, q _ (I1.hok.fresh (Nat.le_refl _))⟩
  · obtain ⟨its, r', pl, hz⟩ := I.tuple hq
    exact call_tuple_same pl ⟨.ref p, H, I, rfl, q⟩

noncomputable def tyV (K : PySem.W.Frag) (T : String) (x : V) (H : Hp) : Prop := match x with
  | .str _ => T = "str"
  | .int _ => T = "int"
  | .ref p => (T = "list" ∧ ∃ xs, SqL K H p xs) ∨ (T = "tuple" ∧ ∃ o, K.lookup p = some o ∧ o.cls = .type "tuple" ∧ o.dict = none) ∨
      (T = "dict" ∧ ((∃ kvs, HK H p kvs) ∨ ∃ kvs, HTt H p kvs)) ∨ (T = "set" ∧ ∃ S n, H p = some (.set S n))
  | _ => False
theorem tyV_is {pins : List (Addr × Obj)} {σ : St} {H : Hp} {s : Shared} {T : String} {x : V} {v : Value} (I : Inv X pins σ H s) (r : RelV x v) (ty : tyV X.K T x H) :
    s.TypeIs v T ∧ ∀ a, v = .ref a → ∃ ob, s.heap.get? a = some ob ∧ ob.dict = none := by
  cases x with
  | str z =>
    obtain ⟨t, rfl⟩ := r
    cases (show T = "str" from ty)
    exact ⟨typeIs_str s z t, fun _ e => nomatch e⟩
  | int i =>
    obtain ⟨t, rfl⟩ := r
    cases (show T = "int" from ty)
    exact ⟨typeIs_int s i t, fun _ e => nomatch e⟩
  | ref p =>
    cases r
    rcases ty with ⟨rfl, xs, hq⟩ | ⟨rfl, o, hk, hc, hd⟩ | ⟨rfl, hk⟩ | ⟨rfl, S, n, hk⟩
    · obtain ⟨its, _, pl, _⟩ := I.list hq
      refine ⟨pl.isList.typeIs, fun a e => ?_⟩
      cases e
      obtain ⟨o, n, e, c, hd, _⟩ := pl
      exact ⟨o, e, hd⟩
    · refine ⟨⟨o, I.kIn p o hk, hc⟩, fun a e => ?_⟩
      cases e
      exact ⟨o, I.kIn _ o hk, hd⟩
    · have z : ∃ o, s.heap.get? p = some o ∧ o.ExactDict := by
        rcases hk with ⟨kvs, ep, hk⟩ | ⟨kvs, ep, bs, hk⟩
        · obtain ⟨_, _, _, _, o, _, e, ex, _⟩ := I.hok p _ hk
          exact ⟨o, e, ex⟩
        · obtain ⟨_, _, _, _, o, _, e, ex, _⟩ := I.hok p _ hk
          exact ⟨o, e, ex⟩
      obtain ⟨o, e, ex⟩ := z
      refine ⟨⟨o, e, ex.1⟩, fun a e2 => ?_⟩
      cases e2
      exact ⟨o, e, ex.2.1⟩
    · obtain ⟨o, _, _, _, e, ex, _⟩ := I.hok p _ hk
      refine ⟨⟨o, e, ex.1⟩, fun a e2 => ?_⟩
      cases e2
      exact ⟨o, e, ex.2.1⟩
  | _ => exact False.elim ty
noncomputable def tBM0 (K : PySem.W.Frag) (T : String) (r : V → List V → Hp → VK → Prop) (to : TE) : TE := fun σ H Q => to σ H fun x H1 => tyV K T x H1 ∧ r x [] H1 Q
noncomputable def tBM (K : PySem.W.Frag) (T : String) (r : V → List V → Hp → VK → Prop) (to : TE) (t : TA) : TE := fun σ H Q => to σ H fun x H1 => tyV K T x H1 ∧ t σ H1 fun xs H2 => r x xs H2 Q
variable {o e : Expr} {es : List Expr} {to : TE} {t : TA} {name : Str} {apos cpos : Pos} {T id : String} {r : V → List V → Hp → VK → Prop}
theorem pe_bm0 (pa : PlainAttrs T) (slot : Slot T name id) (hty : typeOf (.builtin id) = pure (.type "method_descriptor")) (hm : MtR X id r) (ho : PE X o to)
    (hbase : attributeBase o name X.env (eval o X.env) = eval o X.env := by rfl) (hline : (apos.endLine == cpos.line) = true := by rfl) : PE X (.Call (.Attribute o name apos) [] [] cpos) (tBM0 X.K T r to) := by
  intro pins s σ H Q I h
  refine wpAny_Call_method0_late hbase hline (thn (ho pins s σ H _ I h) fun v s1 ⟨x, H1, I1, r1, ty, q1⟩ => ?_)
  obtain ⟨h1, h2⟩ := tyV_is I1 r1 ty
  exact ⟨T, id, pa, slot, hty, h1, h2, Calls.callWith_builtin rfl (PySem.evalArgs_none (hm pins s1 σ H1 x [] v [] Q I1 r1 .nil q1))⟩
theorem pe_bm (pa : PlainAttrs T) (slot : Slot T name id) (hty : typeOf (.builtin id) = pure (.type "method_descriptor")) (hm : MtR X id r) (ho : PE X o to) (ha : PA X (e :: es) t)
    (hbase : attributeBase o name X.env (eval o X.env) = eval o X.env := by rfl)
    (hfew : ((backTo cpos (starEach (e :: es) X.env)).all (fun x => !x.1) && (backToKw cpos (keywordEach [] X.env)).all (fun x => x.1.isSome)
      && decide ((e :: es).length + ([] : List Keyword).length + (if ([] : List Keyword).isEmpty then 0 else 1) < 30)) = true := by rfl)
    (hline : (apos.endLine == cpos.line) = true := by rfl) (hs : starEach (e :: es) X.env = (false, eval e X.env) :: starEach es X.env := by rfl) (hplain : (backTo cpos (starEach es X.env)).any (·.1) = false := by rfl) :
    PE X (.Call (.Attribute o name apos) (e :: es) [] cpos) (tBM X.K T r to t) := by
  intro pins s σ H Q I h
  refine wpAny_Call_method_late hbase hfew hline rfl (thn (ho pins s σ H _ I h) fun v s1 ⟨x, H1, I1, r1, ty, q1⟩ => ?_)
  obtain ⟨h1, h2⟩ := tyV_is I1 r1 ty
  refine ⟨T, id, pa, slot, hty, h1, h2, ?_⟩
  have hA := ha cpos pins s1 σ H1 _ I1 q1
  rw [hs] at hA ⊢
  refine Calls.callWith_builtin (by show (false || (backTo cpos (starEach es X.env)).any (·.1)) = false; rw [hplain] <;> rfl) (Calls.evalArgs_plain ?_)
  exact thn hA fun us s2 ⟨vs, H2, I2, r2, q2⟩ => hm pins s2 σ H2 x vs v us Q I2 r1 r2 q2
/- xs.append(e), list.index on a module's tuple .. are MtR facts of 06m -/
end
end L2

namespace L2
open PySem PySem.Spec PyProof.Rows

noncomputable def MtM (X : Cx) (id : String) (r : V → List V → Hp → VK → Prop) : Prop :=
  ∀ (pins : List (Addr × Obj)) (s : Shared) (σ : St) (H : Hp) (x : V) (xs : List V) (v : Value) (us : List Value) (Q : VK), Inv X pins σ H s → RelV x v → Vals xs us → r x xs H Q →
    wpAny (model X.prog X.w) X.A (call (.builtin id) (v :: us)) (EP X pins σ Q) X.xe s

theorem Vals.one : ∀ {x : V} {us : List Value}, Vals [x] us → ∃ u, us = [u] ∧ RelV x u
  | _, _, .cons r .nil => ⟨_, rfl, r⟩
theorem Vals.zero : ∀ {us : List Value}, Vals [] us → us = []
  | _, .nil => rfl
theorem Vals.dropLast {xs : List V} {us : List Value} (h : Vals xs us) : Vals xs.dropLast us.dropLast := by
  induction h with
  | nil => exact .nil
  | cons r t ih =>
    cases t with
    | nil => exact .nil
    | cons q t' => exact .cons r ih
theorem erase_last {α : Type} (l : List α) : l.eraseIdx (l.length - 1) = l.dropLast := by
  induction l with
  | nil => rfl
  | cons a r ih =>
    cases r with
    | nil => rfl
    | cons b r =>
      have e : (a :: b :: r).length - 1 = ((b :: r).length - 1) + 1 := by
        have h1 : (a :: b :: r).length = r.length + 2 := rfl
        have h2 : (b :: r).length = r.length + 1 := rfl
        omega
      rw [e, List.eraseIdx_cons_succ, ih]
      all_goals rfl

section
variable {X : Cx} {pins : List (Addr × Obj)} {σ : St} {H : Hp} {s : Shared} {l b : Addr} {xs ys zs : List V}

theorem Inv.lset {its its' : List Value} {n : Nat} {f : Array Value → Array Value} {t' : Nat} (I : Inv X pins σ H s) (hH : H l = some (.lst xs))
    (e : s.heap.get? l = some { cls := .type "list", data := .seq its.toArray n }) (hf : f its.toArray = its'.toArray) (hv : Vals ys its') (hz : ys.length ≤ sizeLine) :
    Inv X pins σ (upd H l (.lst ys)) { s with heap := s.heap.update l (Obj.mapSeq f), toks := t' } := by
  have q := PySem.IsL.update e f
  rw [hf] at q
  refine I.write (x := l) (e := l) (by rw [hH]; exact trivial) (.inl rfl) (fun b' u hb hu => (Heap.get?_update_other s.heap (Obj.mapSeq f) (Ne.symm hb)).trans hu) ⟨_, q⟩ ?_
  exact ⟨hz, its', _, hv, q⟩
theorem Inv.lnew {its : List Value} {t' : Nat} (I : Inv X pins σ H s) (hv : Vals ys its) (hz : ys.length ≤ sizeLine) :
    Inv X pins σ (upd H s.heap.objs.size (.lst ys)) { s with heap := s.heap.push { cls := .type "list", data := .seq its.toArray }, toks := t' } :=
  I.laid (fun _ _ q => Heap.get?_push_of_some _ q) (Nat.le_refl _) ⟨hz, its, 0, hv, Heap.get?_push_size _ rfl⟩
theorem Inv.fresh (I : Inv X pins σ H s) : H s.heap.objs.size = none := I.hok.fresh (Nat.le_refl _)
theorem Inv.lstM (I : Inv X pins σ H s) (hH : H l = some (.lst xs)) : xs.length ≤ sizeLine ∧ ∃ (its : List Value) (n : Nat), Vals xs its ∧ xs.length = its.length ∧ s.heap.get? l = some { cls := .type "list", data := .seq its.toArray n } := by
  obtain ⟨z, its, n, r, e⟩ := I.hok l _ hH
  exact ⟨z, its, n, r, r.length, e⟩

end

section
variable {X : Cx}

noncomputable def rAppend : V → List V → Hp → VK → Prop := fun x vs H Q => ∃ l xs y, x = .ref l ∧ vs = [y] ∧ H l = some (.lst xs) ∧ xs.length < sizeLine ∧ Q .non (upd H l (.lst (xs ++ [y])))
theorem mt_append : MtM X "list.append" rAppend := by
  intro pins s σ H x vs v us Q I rx rv h
  obtain ⟨l, xs, y, rfl, rfl, hH, hz, q⟩ := h
  cases rx
  obtain ⟨u, rfl, ru⟩ := rv.one
  obtain ⟨z, its, n, r, hl, e⟩ := I.lstM hH
  refine call_meets F.slot_list_append ⟨_, e, rfl⟩ F.entry_list_append (F.args_list_append_2 _ _) (PySem.list_append l its.toArray n u (by rw [List.size_toArray]; omega)) ⟨e, ?_⟩
  refine ⟨.non, _, I.lset (its' := its ++ [u]) hH e (by simp) (r.append (.cons ru .nil)) ?_, rfl, q⟩
  rw [List.length_append, List.length_singleton]
  omega

noncomputable def rExtend : V → List V → Hp → VK → Prop := fun x vs H Q => ∃ l b xs zs, x = .ref l ∧ vs = [.ref b] ∧ H l = some (.lst xs) ∧ H b = some (.lst zs) ∧ xs.length + zs.length ≤ sizeLine ∧ Q .non (upd H l (.lst (xs ++ zs)))

noncomputable def rPop : V → List V → Hp → VK → Prop := fun x vs H Q => ∃ l xs y, x = .ref l ∧ vs = [] ∧ H l = some (.lst xs) ∧ xs[xs.length - 1]? = some y ∧ Q y (upd H l (.lst xs.dropLast))
theorem mt_pop : MtM X "list.pop" rPop := by
  intro pins s σ H x vs v us Q I rx rv h
  obtain ⟨l, xs, y, rfl, rfl, hH, hy, q⟩ := h
  cases rx
  have hus := rv.zero
  subst hus
  obtain ⟨z, its, n, r, hl, e⟩ := I.lstM hH
  obtain ⟨u, hu, ru⟩ := r.get hy
  have hy' : its.toArray[its.toArray.size - 1]? = some u := by
    show its.toArray[its.length - 1]? = some u
    rw [← Array.getElem?_toList, ← hl]
    exact hu
  refine call_meets F.slot_list_pop ⟨_, e, rfl⟩ F.entry_list_pop (F.args_list_pop_1 _) (MeetsSeq.list_pop_last l its.toArray n u hy' (by rw [List.size_toArray]; omega)) ⟨e, ?_⟩
  refine ⟨y, _, I.lset (its' := its.dropLast) hH e ?_ r.dropLast ?_, ru, q⟩
  · show its.toArray.eraseIdxIfInBounds (its.toArray.size - 1) = its.dropLast.toArray
    rw [List.size_toArray, List.eraseIdxIfInBounds_toArray, erase_last]
  · rw [List.length_dropLast]
    omega

noncomputable def rPopAt : V → List V → Hp → VK → Prop := fun x vs H Q => ∃ l xs i k y, x = .ref l ∧ vs = [.int i] ∧ H l = some (.lst xs) ∧ -(2 ^ 63) ≤ i ∧ i < 2 ^ 63 ∧ seqIndex? i xs.length = some k ∧ xs[k]? = some y ∧ Q y (upd H l (.lst (xs.eraseIdx k)))

noncomputable def rReverse : V → List V → Hp → VK → Prop := fun x vs H Q => ∃ l xs, x = .ref l ∧ vs = [] ∧ H l = some (.lst xs) ∧ Q .non (upd H l (.lst xs.reverse))

noncomputable def rClear : V → List V → Hp → VK → Prop := fun x vs H Q => ∃ l xs, x = .ref l ∧ vs = [] ∧ H l = some (.lst xs) ∧ Q .non (upd H l (.lst []))

noncomputable def rCat : R2 := fun x y H Q => ∃ l b xs zs, x = .ref l ∧ y = .ref b ∧ H l = some (.lst xs) ∧ H b = some (.lst zs) ∧ xs.length + zs.length ≤ sizeLine ∧ ∀ p, H p = none → Q (.ref p) (upd H p (.lst (xs ++ zs)))
noncomputable def rRep : R2 := fun x y H Q => ∃ l k xs, x = .ref l ∧ y = .int k ∧ H l = some (.lst xs) ∧ -(2 ^ 63) ≤ k ∧ k < 2 ^ 63 ∧ xs.length * k.toNat ≤ sizeLine ∧
  ∀ p, H p = none → Q (.ref p) (upd H p (.lst (List.replicate k.toNat xs).flatten))

end

section
variable {prog : Program} {w : World} {A : Around} {E : Value → Shared → Prop} {s : Shared}
end

section
variable {X : Cx}
end
end L2

namespace L2
open PySem PySem.Spec PyProof.Rows

section
variable {κ : Type} [DecidableEq κ]
noncomputable def valV (kvs : List (κ × V)) (k : κ) : Option V := (kvs.find? fun kv => decide (kv.1 = k)).map (·.2)
noncomputable def putK (kvs : List (κ × V)) (k : κ) (v : V) : List (κ × V) :=
  if (kvs.any fun kv => decide (kv.1 = k)) = true then kvs.map (fun kv => if kv.1 = k then (kv.1, v) else kv) else kvs ++ [(k, v)]
noncomputable def dropK (kvs : List (κ × V)) (k : κ) : List (κ × V) := kvs.filter fun kv => decide (kv.1 ≠ k)

theorem valV_nil {k : κ} : valV ([] : List (κ × V)) k = none := rfl


end



noncomputable abbrev KT (H : Hp) : List (List Key × V) → List (List Key × Addr × Value) → Prop := Paired fun p q => p.1 = q.1 ∧ H q.2.1 = some (.tup (p.1.map kV)) ∧ RelV p.2 q.2.2

section
variable {P : Program} {w : World} {H : Hp} {h : Heap} {a : Addr}
end

noncomputable def DGet (H : Hp) (a : Addr) (y : V) (r : Option V) : Prop :=
  (∃ kvs k, RdK H a kvs ∧ y = kV k ∧ r = valV kvs k) ∨ ∃ kvs k b, RdT H a kvs ∧ y = .ref b ∧ H b = some (.tup (k.map kV)) ∧ r = valV kvs k
noncomputable def DPut (H : Hp) (a : Addr) (y v : V) (R : Hp → Prop) : Prop :=
  (∃ kvs k, HK H a kvs ∧ y = kV k ∧ kvs.length < sizeLine ∧ ∀ ep, R (upd H a (.dK (putK kvs k v) ep))) ∨
  ∃ kvs k b, HTt H a kvs ∧ y = .ref b ∧ H b = some (.tup (k.map kV)) ∧ kvs.length < sizeLine ∧ ∀ ep ep0 bs, H a = some (.dT kvs ep0 bs) → R (upd H a (.dT (putK kvs k v) ep (putB kvs bs k b)))


section
variable {X : Cx} {pins : List (Addr × Obj)} {σ : St} {H : Hp} {s : Shared} {a : Addr} {y v : V} {u r : Value} {o : Option V} {A : Around} {E : Value → Shared → Prop}


end

section
variable {X : Cx} {pins : List (Addr × Obj)} {σ : St} {H : Hp} {s : Shared} {a : Addr} {kvs : List (Key × V)} {k : Key} {u : Value} {A : Around} {E : Value → Shared → Prop}
end


noncomputable def NoSl (i : Expr) : Prop := ∀ ov iv, subscripted i false ov iv = operate [ov, iv] (getItem ov iv)


noncomputable def tDGet (td ty : TE) : TE := fun σ H Q => td σ H fun x H1 => ty σ H1 fun y H2 => ∃ a v, x = .ref a ∧ DGet H2 a y (some v) ∧ Q v H2
noncomputable def tDIn (ty td : TE) : TE := fun σ H Q => ty σ H fun y H1 => td σ H1 fun x H2 => ∃ a o, x = .ref a ∧ DGet H2 a y o ∧ Q (.bl o.isSome) H2
noncomputable def tDNotIn (ty td : TE) : TE := fun σ H Q => ty σ H fun y H1 => td σ H1 fun x H2 => ∃ a o, x = .ref a ∧ DGet H2 a y o ∧ Q (.bl (!o.isSome)) H2
noncomputable def sDPut (td ty tv : TE) : TS := fun D σ H => tv σ H fun v H1 => td σ H1 fun x H2 => ty σ H2 fun y H3 => ∃ a, x = .ref a ∧ DPut H3 a y v (D.nx σ)
noncomputable def sDAug (td ty tv : TE) (rd : V → V → Hp → VK → Prop) : TS := fun D σ H => td σ H fun x H1 => ty σ H1 fun y H2 => ∃ a v, x = .ref a ∧ DGet H2 a y (some v) ∧
  tv σ H2 fun y2 H3 => rd v y2 H3 fun z H4 => DPut H4 a y z (D.nx σ)
noncomputable def sDDel (td ty : TE) : TS := fun D σ H => td σ H fun x H1 => ty σ H1 fun y H2 => ∃ a kvs k, x = .ref a ∧ HK H2 a kvs ∧ y = kV k ∧ (valV kvs k).isSome = true ∧ ∀ ep, D.nx σ (upd H2 a (.dK (dropK kvs k) ep))

section
variable {X : Cx} {o i e value : Expr} {pos pos' tpos : Pos} {td ty tv : TE}
end


noncomputable def tDNewK : TE := fun _ H Q => ∀ p, H p = none → Q (.ref p) (upd H p (.dK [] 0))
noncomputable def tDNewT : TE := fun _ H Q => ∀ p, H p = none → Q (.ref p) (upd H p (.dT [] 0 []))
section
variable {X : Cx} {pos : Pos}
end

noncomputable def tPairs : List (TE × TE) → St → Hp → (List (V × V) → Hp → Prop) → Prop
  | [], _, H, Q => Q [] H
  | (tk, tv) :: r, σ, H, Q => tk σ H fun x H1 => tv σ H1 fun y H2 => tPairs r σ H2 fun ps H3 => Q ((x, y) :: ps) H3
noncomputable abbrev VV : List (V × V) → List (Value × Value) → Prop := Paired fun p q => RelV p.1 q.1 ∧ RelV p.2 q.2
noncomputable def PPs (X : Cx) (pos : Pos) (keys : List (Option Expr)) (values : List Expr) (trs : List (TE × TE)) : Prop :=
  ∀ (pins : List (Addr × Obj)) (s : Shared) (σ : St) (H : Hp) (Q : List (V × V) → Hp → Prop), Inv X pins σ H s → tPairs trs σ H Q →
    wpAny (model X.prog X.w) X.A (evalPairs (pairTrees keys values X.env pos)) (fun vs s' => ∃ ps H', Inv X pins σ H' s' ∧ VV ps vs ∧ Q ps H') X.xe s

noncomputable def mergeK (kvs more : List (Key × V)) : List (Key × V) := more.foldl (fun acc kv => putK acc kv.1 kv.2) kvs
noncomputable def tDisp (trs : List (TE × TE)) : TE := fun σ H Q => ∀ p, H p = none → tPairs trs σ (upd H p (.dK [] 0)) fun ps H2 => H2 p = some (.dK [] 0) ∧ ∃ kvs : List (Key × V), ps = kvs.map (fun kv => (kV kv.1, kv.2)) ∧ kvs.length ≤ 15 ∧ ∀ ep, Q (.ref p) (upd H2 p (.dK (mergeK [] kvs) ep))


structure M1 (X : Cx) (o : Expr) (m : Str) (apos : Pos) (e : Expr) (cpos : Pos) : Prop where
  base : attributeBase o m X.env (eval o X.env) = eval o X.env
  few : ((backTo cpos (starEach [e] X.env)).all (fun x => !x.1) && (backToKw cpos (keywordEach [] X.env)).all (fun x => x.1.isSome)
    && decide (([e] : List Expr).length + ([] : List Keyword).length + (if ([] : List Keyword).isEmpty then 0 else 1) < 30)) = true
  line : (apos.endLine == cpos.line) = true
  trees : backTo cpos (starEach [e] X.env) = [(false, eval e X.env)]
structure M2 (X : Cx) (o : Expr) (m : Str) (apos : Pos) (e f : Expr) (cpos : Pos) : Prop where
  base : attributeBase o m X.env (eval o X.env) = eval o X.env
  few : ((backTo cpos (starEach [e, f] X.env)).all (fun x => !x.1) && (backToKw cpos (keywordEach [] X.env)).all (fun x => x.1.isSome)
    && decide (([e, f] : List Expr).length + ([] : List Keyword).length + (if ([] : List Keyword).isEmpty then 0 else 1) < 30)) = true
  line : (apos.endLine == cpos.line) = true
  trees : backTo cpos (starEach [e, f] X.env) = [(false, eval e X.env), (false, eval f X.env)]

noncomputable def IsD (H : Hp) (a : Addr) : Prop := (∃ kvs, RdK H a kvs) ∨ ∃ kvs, RdT H a kvs

section
variable {X : Cx} {pins : List (Addr × Obj)} {σ : St} {H : Hp} {s : Shared} {a : Addr} {y d : V} {u r : Value} {o : Option V} {A : Around} {E : Value → Shared → Prop}
end

noncomputable def tDGet1 (td ty : TE) : TE := fun σ H Q => td σ H fun x H1 => ∃ a, x = .ref a ∧ IsD H1 a ∧ ty σ H1 fun y H2 => ∃ o, DGet H2 a y o ∧ Q (o.getD .non) H2
noncomputable def tDGet2 (td ty tx : TE) : TE := fun σ H Q => td σ H fun x H1 => ∃ a, x = .ref a ∧ IsD H1 a ∧ ty σ H1 fun y H2 => tx σ H2 fun z H3 => ∃ o, DGet H3 a y o ∧ Q (o.getD z) H3
noncomputable def tDPop1 (td ty : TE) : TE := fun σ H Q => td σ H fun x H1 => ∃ a, x = .ref a ∧ IsD H1 a ∧ ty σ H1 fun y H2 => ∃ kvs k v, HK H2 a kvs ∧ y = kV k ∧ valV kvs k = some v ∧ ∀ ep, Q v (upd H2 a (.dK (dropK kvs k) ep))
noncomputable def tDPop2 (td ty tx : TE) : TE := fun σ H Q => td σ H fun x H1 => ∃ a, x = .ref a ∧ IsD H1 a ∧ ty σ H1 fun y H2 => tx σ H2 fun z H3 => ∃ kvs k, HK H3 a kvs ∧ y = kV k ∧
  (∀ v ep, valV kvs k = some v → Q v (upd H3 a (.dK (dropK kvs k) ep))) ∧ (valV kvs k = none → Q z H3)
section
variable {X : Cx} {o e f : Expr} {apos cpos : Pos} {td ty tx : TE}
end

section
variable {X : Cx} {pins : List (Addr × Obj)} {σ : St} {H : Hp} {s : Shared} {a : Addr} {kvs : List (Key × V)} {A : Around} {E : Value → Shared → Prop}
end


section
variable {X : Cx} {pins : List (Addr × Obj)} {σ : St} {H : Hp} {s : Shared} {a : Addr} {y : V} {u : Value} {A : Around} {E : Value → Shared → Prop}
end
end L2

namespace Att
open PySem PySem.W PySem.Calls PyProof.Rows

theorem ints_of_wellAll {P : Params} {h : Heap} : ∀ (ns : List Int) (vs : List Value), WellAll P h vs (ns.map WData.int) → IntsAre vs ns := by
  intro ns
  induction ns with
  | nil =>
    intro vs w
    rw [List.map_nil] at w
    cases w
    exact .nil
  | cons n ns ih =>
    intro vs w
    rw [List.map_cons] at w
    cases w with
    | cons a b =>
      cases a
      exact .cons _ _ (ih _ b)

theorem script_of {l : OpenLaw} {n : Nat} (hn : l.most = some n) {P : Params} {h : Heap} {args : List WData} {vals : List Value}
    (hpre : l.row.toRowW.claim.pre args = true) (hwl : WellAll P h vals args) :
    ∃ a vs ns, vals = [Value.ref a] ∧ args = [WData.list (ns.map WData.int)] ∧ h.get? a = some { cls := .type "list", data := .seq vs.toArray } ∧ IntsAre vs ns ∧ ns.length ≤ n := by
  have hsh : WShape.hasAll [] args [.list .int] = true := (pre_splitW hpre).1
  have hc : l.pre.holds [] { args := args } = true := (pre_splitW hpre).2
  obtain ⟨d, r, rfl, h1, h2⟩ := hasAllW_cons hsh
  obtain rfl := hasAllW_nil h2
  obtain ⟨xs, rfl, h3⟩ := hasW_list h1
  obtain ⟨ns, rfl⟩ := items_int h3
  have hlen : ns.length ≤ n := by
    unfold OpenLaw.pre at hc
    have h4 : (WTm.not (.lt (.lit (.int (n : Int))) (.len (.arg 0)))).holds [] { args := [.list (ns.map .int)] } = true := by
      have h4 := (holds_andW hc).1
      rw [hn] at h4
      exact h4
    have h5 := condW_of h4 (w_not (w_lt w_lit (w_len_list (w_arg rfl))))
    rw [List.length_map] at h5
    refine Nat.le_of_not_lt fun q => ?_
    have q' : (n : Int) < ((ns.length : Nat) : Int) := by omega
    first
      | (rw [decide_eq_true q'] at h5; exact absurd h5 (by decide))
      | (simp at h5; omega)
  cases hwl with
  | cons w1 w2 =>
    cases w2
    cases w1 with
    | list ho hall => exact ⟨_, _, ns, rfl, rfl, ho, ints_of_wellAll ns _ hall, hlen⟩

theorem post_true (l : OpenLaw) (args : List WData) : l.row.toRowW.claim.post args (.bool true) args = true :=
  postW_of (r := l.row.toRowW) (X := (true == true))
    (show WShape.has [] (.bool true) .bool = true by first | rfl | decide | simp [WShape.has, WShape.arms, WShape.armsAll])
    (show (WTm.eq .res (.lit (.bool true))).value [] { args := args, res := some (.bool true), after := args } = some (.bool (true == true)) from w_eq_bool (w_res rfl) w_lit) rfl


theorem attach_call {l : OpenLaw} {n : Nat} {q : Program} {loose : List Str} {XP : (Str → Option Value) → Heap → Prop} {YP : World → Heap → Prop} {d : DefRec}
    (hn : l.most = some n) (hdf : d.params.defaults = [])
    (call : ∀ (w : World) (s₀ s₁ : Shared) (mg mb : Str → Option Value) (fa : Addr) (o : Obj) (pm cd doc : Value) (a : Addr) (vs : List Value) (ns : List Int),
      Ground q loose [] XP w s₀ mg mb s₁.heap → YP w s₁.heap →
      s₁.heap.get? fa = some o → o.data = .func (docDef d.name d.params d.body d.scope pm cd doc) → s₁.heap.CodeRec cd d.name → mg d.name = some (.ref fa) →
      s₁.heap.get? a = some { cls := .type "list", data := .seq vs.toArray } → IntsAre vs ns → ns.length ≤ n → s₁.gens = #[] →
      codeAny (model l.prog w) callerA (.call (.ref fa) ⟨[.ref a], []⟩) (fun r s' => r = .ok (.ret (.bool true)) ∧ OldK s₁.heap s'.heap ∧ s'.os = s₁.os ∧ AllBare s'.gens) s₁) :
    WalkO q loose XP YP l.row.toRowW d [] (fun f vs => PySem.call f vs) := by
  intro w s₀ s₁ mg mb G Y fa o pm cd doc dV kV ho hd hcd hD hmg hg args vals as hpre hlay hrd hwl hlo
  obtain rfl : dV = .none := Dflts.none hD hdf
  obtain rfl : kV = .none := Dflts.noKw hD
  obtain ⟨a, vs, ns, rfl, rfl, hobj, hints, hlen⟩ := script_of hn hpre hwl
  refine enter_call (codeAny_mono (call w s₀ s₁ mg mb fa o pm cd doc a vs ns G Y ho (fd_plain hd) hcd hmg hobj hints hlen hg) fun r s' hq => ?_)
  obtain ⟨rfl, h2, h3, h4⟩ := hq
  exact ⟨.inl ⟨.bool true, .bool true, [], rfl, fun _ => rfl, .bool true, post_true l _, fun _ => ⟨List.Pairwise.nil, fun _ hm => (nomatch hm)⟩⟩, h2, h3, h4⟩


section
variable {prog : Program} {w : World} {A : Around} {E : Value → Shared → Prop} {s : Shared} {K : Frag}





noncomputable def noObjs (h : Heap) : Heap := { h with objs := #[] }
noncomputable def ledger (h : Heap) (L d : Addr) : List (Addr × Obj) := (List.range h.objs.size).filterMap fun a => if a = L ∨ a = d then none else (h.get? a).map fun o => (a, o)

end
end Att

namespace L2
open PySem PySem.Spec PyProof.Rows

theorem vals_ints : ∀ {vs : List Value} {ns : List Int}, IntsAre vs ns → Vals (ns.map V.int) vs
  | _, _, .nil => .nil
  | _, _, .cons n t h => .cons ⟨t, rfl⟩ (vals_ints h)

noncomputable def Only (H : Hp) : Prop := ∀ b, H b = none ∨ ∃ o xs, H b = some (.frz o (.lst xs))

theorem law_call {P : Program} {w : World} {K : PySem.W.Frag} {mg mb : Str → Option Value} {CX : CXT} {k : Nat} {fa a : Addr} {fd : FuncData} {x : Str} {sp : Sp} {s₁ : Shared} {vs : List Value} {ns : List Int}
    (KX : K.In s₁.heap) (hns : s₁.heap.Ns mainGlobals mg) (hb : s₁.heap.Ns builtinsNs mb) (hbb : ∀ x : Str, x ≠ "__name__" → mb x = bootBuiltins x) (hlim : s₁.heap.NoLimit) (hg : s₁.gens = #[])
    (ha : s₁.heap.get? a = some { cls := .type "list", data := .seq vs.toArray }) (hi : IntsAre vs ns) (hl : ns.length ≤ sizeLine) (hr : Room k callerA)
    (F : ∀ base : Heap, K.In base → base.Ns mainGlobals mg → FnOk P w K mg base CX k fa fd [x] sp) (hbind : ∀ (s : Shared) (u : Value), BindsTo s fd ⟨[u], []⟩ [(x, u)])
    (hsp : ∀ H : Hp, Only H → SqL K H a (ns.map V.int) → sp [.ref a] H (fun v _ => v = .bl true) fun _ _ _ => False)
    (hCX : ∀ H e s', CX [] H s₁ (fun _ _ _ => False) e s' → False) :
    codeAny (model P w) callerA (.call (.ref fa) ⟨[.ref a], []⟩) (fun r s' => r = .ok (.ret (.bool true)) ∧ OldK s₁.heap s'.heap ∧ s'.os = s₁.os ∧ AllBare s'.gens) s₁ := by
  have rv := vals_ints hi
  have lenV := hi.length
  -- from an abstract heap in which nothing but the script may be tracked
  have core : ∀ H : Hp, Only H → SqL K H a (ns.map V.int) → HOk P w H s₁.heap → (∀ b, H b ≠ none → b = a) → (H a ≠ none → K.lookup a = none) →
      codeAny (model P w) callerA (.call (.ref fa) ⟨[.ref a], []⟩) (fun r s' => r = .ok (.ret (.bool true)) ∧ OldK s₁.heap s'.heap ∧ s'.os = s₁.os ∧ AllBare s'.gens) s₁ := by
    intro H hO hS hok hA hK
    have base_of : ∀ {b : Addr} {o : Obj}, s₁.heap.get? b = some o → H b = none → (hidT s₁.heap H).get? b = some o := fun e n => hidT_get e n
    have noA : ∀ {b : Addr} {o : Obj} {es : Array DictEntry} {ep : Nat}, s₁.heap.get? b = some o → o.data = .dict es ep → H b = none := fun {b o es ep} e d => by
      cases q : H b with
      | none => rfl
      | some u =>
        have e' : b = a := hA b (by rw [q]; simp)
        subst e'
        rw [ha] at e; cases e
        have d' : Data.seq vs.toArray _ = Data.dict es ep := d
        cases d'
    have nsK : ∀ {b : Addr} {m : Str → Option Value}, s₁.heap.Ns b m → (hidT s₁.heap H).Ns b m := fun {b m} ⟨o, es, ep, e, d, r⟩ => ⟨o, es, ep, base_of e (noA e d), d, r⟩
    have hKb : K.In (hidT s₁.heap H) := fun b o e => base_of (KX b o e) (by
      cases q : H b with
      | none => rfl
      | some u =>
        have e' : b = a := hA b (by rw [q]; simp)
        subst e'
        rw [hK (by rw [q]; simp)] at e; cases e)
    have hM : Mod K mg (hidT s₁.heap H) := ⟨hKb, nsK hns, ⟨mb, nsK hb, hbb⟩, let ⟨mc, h1, h2⟩ := hlim; ⟨mc, nsK h1, h2⟩⟩
    have e0 : Env0 P w K mg (hidT s₁.heap H) callerA [] s₁ H := ⟨rfl, hM, fun b o e => of_hidT e, Nat.le_of_eq (hidT_size _ _), trivial, fun b hb => absurd (show b ∈ ([] : List Addr) from hb) (by simp), hok, .of_eq hg⟩
    refine codeAny_mono ((F _ hKb (nsK hns)).run callerA [] s₁ H ⟨[.ref a], []⟩ [.ref a] [.ref a] _ _ hr e0 (hbind s₁ (.ref a)) (.cons rfl .nil) (hsp H hO hS)) fun r s' h => ?_
    cases r with
    | error e => exact (hCX H e s' h).elim
    | ok fl =>
      cases fl with
      | next => exact False.elim h
      | brk => exact False.elim h
      | cont => exact False.elim h
      | ret u =>
        obtain ⟨v, H', os, bare, un, hok', r', q⟩ := h
        have q' : v = .bl true := q
        subst q'
        obtain rfl : u = Value.bool true := r'
        refine ⟨rfl, OldK.of_keep fun b o e => ?_, os, bare⟩
        cases q : H b with
        | none => exact un.keep b o e q (by intro z; exact absurd (show b ∈ ([] : List Addr) from z) (by simp)) (by simp)
        | some u =>
          rcases hO b with z | ⟨ob, xs, z⟩
          · rw [q] at z; cases z
          · have z2 := un.frzs b ob _ z
            obtain ⟨e1, _⟩ := hok b _ z
            obtain ⟨e2, _⟩ := hok' b _ z2
            rw [e] at e1; cases e1
            exact e2
  cases hk : K.lookup a with
  | some o =>
    -- the script is one of the module's own objects
    have e := KX a o hk
    rw [ha] at e
    cases e
    refine core (fun _ => none) (fun _ => .inl rfl) (.inr ⟨_, vs.toArray, _, hk, rfl, rfl, rfl, by rw [List.size_toArray, lenV]; exact hl, by simpa using rv⟩) (fun b u z => by have z' : (none : Option HO) = some u := z; cases z') (fun b z => absurd rfl z) fun z => absurd rfl z
  | none =>
    refine core (fun b => if b = a then some (.frz { cls := .type "list", data := .seq vs.toArray } (.lst (ns.map V.int))) else none) (fun b => ?_) (.inl (.inr ⟨{ cls := .type "list", data := .seq vs.toArray }, if_pos rfl⟩)) (fun b u z => ?_) (fun b z => ?_) fun _ => hk
    · by_cases hb : b = a
      · exact .inr ⟨_, _, if_pos hb⟩
      · exact .inl (if_neg hb)
    · by_cases hb : b = a
      · have z' := (if_pos hb).symm.trans z
        cases z'
        subst hb
        exact ⟨ha, by rw [List.length_map]; exact hl, vs, _, rv, ha⟩
      · have z' := (if_neg hb).symm.trans z
        cases z'
    · by_cases hb : b = a
      · exact hb
      · exact absurd (if_neg hb) z
end L2

namespace L2
open PySem PySem.Spec PyProof.Rows

noncomputable abbrev KOf {K : PySem.W.Frag} {h : Heap} (_ : K.In h) : PySem.W.Frag := K

theorem walk_of {l : PySem.W.OpenLaw} {n k : Nat} {q : Program} {loose : List Str} {XP : (Str → Option Value) → Heap → Prop} {YP : World → Heap → Prop} {d : DefRec} {K : Params → PySem.W.Frag} {CX : World → CXT} {sp : World → Sp} {x : Str}
    (hn : l.most = some n) (hn2 : n ≤ sizeLine) (hdf : d.params.defaults = []) (hr : Room k callerA)
    (hY : ∀ (w : World) (h : Heap), YP w h → (K w.params).In h)
    (F : ∀ (w : World) (mg : Str → Option Value) (fa : Addr) (h : Heap), (K w.params).In h → h.Ns mainGlobals mg → mg d.name = some (.ref fa) →
      ∃ fd : FuncData, (∀ (s : Shared) (u : Value), BindsTo s fd ⟨[u], []⟩ [(x, u)]) ∧
        ∀ base : Heap, (K w.params).In base → base.Ns mainGlobals mg → FnOk l.prog w (K w.params) mg base (CX w) k fa fd [x] (sp w))
    (hsp : ∀ (w : World) (H : Hp) (a : Addr) (ns : List Int), ns.length ≤ n → Only H → SqL (K w.params) H a (ns.map V.int) → sp w [.ref a] H (fun v _ => v = .bl true) fun _ _ _ => False)
    (hCX : ∀ (w : World) (H : Hp) (s : Shared) (e : Value) (s' : Shared), CX w [] H s (fun _ _ _ => False) e s' → False) :
    PySem.W.WalkO q loose XP YP l.row.toRowW d [] (fun f vs => PySem.call f vs) := by
  refine Att.attach_call hn hdf fun w s₀ s₁ mg mb fa o pm cd doc a vs ns G Y ho hd hcd hmg hobj hints hlen hg => ?_
  have KX := hY w _ Y
  obtain ⟨fd, hb, hF⟩ := F w mg fa _ KX G.T.g hmg
  exact law_call KX G.T.g G.T.b G.T.builtins G.T.nolimit hg hobj hints (Nat.le_trans hlen hn2) hr hF hb (fun H hO hS => hsp w H a ns hlen hO hS) fun H e s' => hCX w H s₁ e s'
theorem walk_ofK {l : PySem.W.OpenLaw} {n k : Nat} {q : Program} {loose : List Str} {XP : (Str → Option Value) → Heap → Prop} {YP : World → Heap → Prop} {d : DefRec} {K : Params → PySem.W.Frag} {CX : CXT} {sp : PySem.W.Frag → Sp} {x : Str}
    (hn : l.most = some n) (hn2 : n ≤ sizeLine) (hdf : d.params.defaults = []) (hr : Room k callerA)
    (hY : ∀ (w : World) (h : Heap), YP w h → (K w.params).In h)
    (F : ∀ (w : World) (mg : Str → Option Value) (fa : Addr) (h : Heap), (K w.params).In h → h.Ns mainGlobals mg → mg d.name = some (.ref fa) →
      ∃ fd : FuncData, (∀ (s : Shared) (u : Value), BindsTo s fd ⟨[u], []⟩ [(x, u)]) ∧
        ∀ base : Heap, (K w.params).In base → base.Ns mainGlobals mg → FnOk l.prog w (K w.params) mg base CX k fa fd [x] (sp (K w.params)))
    (hsp : ∀ (K : PySem.W.Frag) (H : Hp) (a : Addr) (ns : List Int), ns.length ≤ n → Only H → SqL K H a (ns.map V.int) → sp K [.ref a] H (fun v _ => v = .bl true) fun _ _ _ => False)
    (hCX : ∀ (H : Hp) (s : Shared) (e : Value) (s' : Shared), CX [] H s (fun _ _ _ => False) e s' → False) :
    PySem.W.WalkO q loose XP YP l.row.toRowW d [] (fun f vs => PySem.call f vs) :=
  walk_of (K := K) (CX := fun _ => CX) (sp := fun w => sp (K w.params)) hn hn2 hdf hr hY F (fun w H a ns h1 h2 h3 => hsp (K w.params) H a ns h1 h2 h3) fun _ H s e s' => hCX H s e s'
end L2

/- THE LAST THEOREM (shape; LID, My.* are yours):
   My.Adr: a structure of the addresses that your layer names (classes, functions); My.Txt K t: a structure (Prop) of the equations over K;
   My.txt_mk : {K} {implicit addresses ..} (e1 : nsIn K mainGlobals "law" = some (some (.ref f))) (e2 : K.lookup f = some ⟨oc, od, .func (fnOf "law" "law" params body scope dV kV doc pm an cdv ct), sl⟩) (e3 : codeIn K cdv "law" = true) .. : ∃ t, My.Txt K t

set_option maxRecDepth 100000 in
set_option maxHeartbeats 0 in
theorem PySem.Challenge.cw_LID_holds : PySem.Challenge.rw_LID.Holds := by
  w_on; o_law; k_head; (case hw => w_witness2)
  k_fill
  refine L2.walk_of (l := PySem.Challenge.rw_LID) (n := 63) (k := 40) (x := "script") (CX := fun w => ..) (sp := fun _ => My.sp_law) rfl (by decide) rfl ⟨rfl, by decide, by decide⟩ (fun w h Y => PySem.W.kIn_of Y) ?F ?S ?C
  case F =>
    intro w mg fa h KX G hmg
    have T : ∃ t, My.Txt (L2.KOf KX) t := by
      dsimp only [L2.KOf]                          -- K must stand as «<heap const> w.params» for k_is
      refine' My.txt_mk ?e1 ?e2 ?e3 ..
      (case e1 => PySem.W.k_is)                    -- in the order: a name -> its address -> its object -> its parts
      (case e2 => PySem.W.k_is)
      ..
    obtain ⟨t, T⟩ := T
    have e0 := hmg.symm.trans (PySem.W.mg_of KX G T.law)
    cases e0                                       -- fa is the law's own address
    exact ⟨_, fun s u => .of_eq rfl, fun base kb nb => My.law_fn T kb nb⟩     -- if «.of_eq rfl» comes too early: refine' ⟨_, ?b, fun base kb nb => My.law_fn T kb nb⟩; exact fun s u => .of_eq rfl
  case S => exact fun w H a ns hl hO hS => ..
  case C => exact ..
(the tactic k_is has no namespace: write k_is) -/

namespace L2
open PySem PySem.Spec PyProof.Rows

noncomputable def inClass (s : Stmt) (j : Nat) : Stmt := match s with
  | .ClassDef _ _ _ body _ _ _ _ _ _ _ => body.getD j (.Pass ⟨0, 0, 0, 0⟩)
  | _ => .Pass ⟨0, 0, 0, 0⟩
noncomputable def defArgs (s : Stmt) : Arguments := match s with
  | .FunctionDef _ a _ _ _ _ _ _ _ _ => a
  | _ => { posonlyargs := [], args := [], vararg := none, kwonlyargs := [], kw_defaults := [], kwarg := none, defaults := [] }
noncomputable def defBody (s : Stmt) : List Stmt := match s with
  | .FunctionDef _ _ b _ _ _ _ _ _ _ => b
  | _ => []
noncomputable def defScope (s : Stmt) : Scope := match s with
  | .FunctionDef _ _ _ _ _ _ sc _ _ _ => sc
  | _ => { kind := .function, names := [], isGenerator := false, isCoroutine := false }

noncomputable abbrev CX0 : CXT := fun _ _ _ _ _ _ => False
noncomputable abbrev E0 : XK := fun _ _ _ => False
theorem pass0 {X : Cx} : Passes CX0 X E0 := fun _ _ _ _ _ _ _ h => h.elim

structure Fun (K : PySem.W.Frag) (x qual : Str) (st : Stmt) (f : Addr) (fd : FuncData) : Prop where
  ex : ∃ (oc : Value) (od : Option Addr) (kV doc pm : Value) (an : Option Addr) (cdv ct : Value) (osl : Array (Option Value)),
    fd = PySem.W.fnOf x qual (defArgs st) (defBody st) (defScope st) .none kV doc pm an cdv ct ∧ K.lookup f = some ⟨oc, od, .func fd, osl⟩ ∧ PySem.W.codeIn K cdv qual = true
  kp : PySem.W.keepIn K (.ref f) = true
section
variable {P : Program} {w : World} {K : PySem.W.Frag} {mg : Str → Option Value} {base : Heap}
theorem Fun.ok {x qual : Str} {st : Stmt} {f : Addr} {fd : FuncData} {N ps : List Str} {k : Nat} {sp : Sp} (F : Fun K x qual st f fd) (S : FnScope N ps (defScope st)) (len : ∀ vs H Q E, sp vs H Q E → vs.length = ps.length)
    (hbody : ∀ (cdv : Value) (A : Around) (outer : List Env) (s : Shared) (H : Hp) (vs : List V) (Q : VK) (E : XK), Room k (A.deeper (envOfC qual (defScope st) s.heap.objs.size f cdv)) → sp vs H Q E →
      ∃ t, PSs (cxOf CX0 P w K mg base N qual (defScope st) f cdv A outer s H E).nox (defBody st) t ∧ t { nx := fun _ H' => Q .non H', rt := Q } (start N vs) H) : FnOk P w K mg base CX0 (k + 1) f fd ps sp := by
  obtain ⟨oc, od, kV, doc, pm, an, cdv, ct, osl, rfl, lk, hcd⟩ := F.ex
  refine fn_of lk hcd S len fun A outer s H vs Q E hr hsp => ?_
  obtain ⟨t, h, q⟩ := hbody cdv A outer s H vs Q E hr hsp
  exact ⟨t, h.nox, q⟩
theorem Fun.binds {x qual : Str} {st : Stmt} {f : Addr} {fd : FuncData} {ps : List Str} (F : Fun K x qual st f fd)
    (h : ∀ (kV doc pm : Value) (an : Option Addr) (cdv ct : Value) (us : List Value), us.length = ps.length → bindArgs (PySem.W.fnOf x qual (defArgs st) (defBody st) (defScope st) .none kV doc pm an cdv ct) ⟨us, []⟩ = pure (ps.zip us)) : Binds K fd ps [] := by
  obtain ⟨oc, od, kV, doc, pm, an, cdv, ct, osl, rfl, lk, hcd⟩ := F.ex
  exact .all (h kV doc pm an cdv ct)
theorem fun_mk {x qual : Str} {st : Stmt} {f : Addr} {oc : Value} {od an : Option Addr} {osl : Array (Option Value)} {kV doc pm cdv ct : Value} (l : K.lookup f = some ⟨oc, od, .func (PySem.W.fnOf x qual (defArgs st) (defBody st) (defScope st) .none kV doc pm an cdv ct), osl⟩)
    (c : PySem.W.codeIn K cdv qual = true) (k : PySem.W.keepIn K (.ref f) = true) : Fun K x qual st f (PySem.W.fnOf x qual (defArgs st) (defBody st) (defScope st) .none kV doc pm an cdv ct) := ⟨⟨oc, od, kV, doc, pm, an, cdv, ct, osl, rfl, l, c⟩, k⟩
end
theorem hu_of {A : Around} {k : Nat} (hr : Room k A) : A.units + 1 < cLine := Nat.lt_of_le_of_lt (Nat.add_le_add_left (by decide : 1 ≤ 64) _) hr.units

section
variable {X : Cx}
end


noncomputable def Same (H H' : Hp) : Prop := ∀ b o, H b = some o → H' b = some o
theorem Same.refl (H : Hp) : Same H H := fun _ _ h => h
theorem Same.trans {H H1 H2 : Hp} (a : Same H H1) (b : Same H1 H2) : Same H H2 := fun c o h => b c o (a c o h)
theorem Same.free {H H' : Hp} (e : Same H H') {l : Addr} (h : H' l = Option.none) : H l = Option.none := by
  cases q : H l with
  | none => rfl
  | some o =>
    rw [e l o q] at h
    cases h

section
variable {κ : Type} [DecidableEq κ]
end
end L2

namespace L2
open PySem PySem.Spec PyProof.Rows

theorem PE.imp {X : Cx} {e : Expr} {t t' : TE} (h : PE X e t) (w : ∀ σ H Q, t' σ H Q → t σ H Q) : PE X e t' := fun pins s σ H Q I q => h pins s σ H Q I (w σ H Q q)
theorem PT.imp {X : Cx} {e : Expr} {t t' : TT} (h : PT X e t) (w : ∀ σ H Q, t' σ H Q → t σ H Q) : PT X e t' := fun pins s σ H Q I q => h pins s σ H Q I (w σ H Q q)
theorem PW.imp {X : Cx} {e : Expr} {t t' : TT} (h : PW X e t) (w : ∀ σ H Q, t' σ H Q → t σ H Q) : PW X e t' := fun wh pins s σ H Q I q => h wh pins s σ H Q I (w σ H Q q)
theorem PA.imp {X : Cx} {e : List Expr} {t t' : TA} (h : PA X e t) (w : ∀ σ H Q, t' σ H Q → t σ H Q) : PA X e t' := fun pos pins s σ H Q I q => h pos pins s σ H Q I (w σ H Q q)
theorem PS.imp {X : Cx} {e : Stmt} {t t' : TS} (h : PS X e t) (w : ∀ D σ H, t' D σ H → t D σ H) : PS X e t' := fun pins s σ H D I q => h pins s σ H D I (w D σ H q)
theorem PSs.imp {X : Cx} {e : List Stmt} {t t' : TS} (h : PSs X e t) (w : ∀ D σ H, t' D σ H → t D σ H) : PSs X e t' := fun pins s σ H D I q => h pins s σ H D I (w D σ H q)
theorem PG.imp {X : Cx} {e : Expr} {t t' : TG} (h : PG X e t) (w : ∀ v σ H Q, t' v σ H Q → t v σ H Q) : PG X e t' := fun pins s σ H v u Q I r q => h pins s σ H v u Q I r (w v σ H Q q)
theorem PGs.imp {X : Cx} {e : List Expr} {t t' : TGs} (h : PGs X e t) (w : ∀ v σ H Q, t' v σ H Q → t v σ H Q) : PGs X e t' := fun pins s σ H vs us Q I r q => h pins s σ H vs us Q I r (w vs σ H Q q)
theorem PI.imp {X : Cx} {tg e : Expr} {t t' : TI} (h : PI X tg e t) (w : ∀ σ H R, t' σ H R → t σ H R) : PI X tg e t' := fun pins s σ H R I q => h pins s σ H R I (w σ H R q)

noncomputable def clOf (cells : List (Str × Addr)) : List (Str × NameKind) → List (Str × Addr) → List (Str × Addr)
  | [], cs => cs
  | (n, k) :: r, cs => clOf cells r (if k = .free then (n, (cells.lookup n).getD 0) :: cs else cs)
theorem closure_go {env : Env} : ∀ (names : List (Str × NameKind)) (cs : List (Str × Addr)), (∀ y ∈ names, y.2 = .free → ∃ c, env.cells.lookup y.1 = some c) →
    (forIn names cs (fun x r => if (x.2 == NameKind.free) = true then do let a ← cellOf env x.1; pure (ForInStep.yield ((x.1, a) :: r)) else pure (ForInStep.yield r)) : Sem (List (Str × Addr))) = pure (clOf env.cells names cs)
  | [], cs, _ => by rw [List.forIn_nil]; rfl
  | (n, k) :: r, cs, h => by
    rw [List.forIn_cons]
    by_cases hk : k = .free
    · obtain ⟨c, hc⟩ := h (n, k) List.mem_cons_self hk
      subst hk
      have e1 : cellOf env n = pure c := by unfold cellOf; rw [hc]
      show ((if (NameKind.free == NameKind.free) = true then (cellOf env n >>= fun a => pure (ForInStep.yield ((n, a) :: cs))) else pure (ForInStep.yield cs)) >>= fun s => _) = _
      rw [if_pos (show (NameKind.free == NameKind.free) = true by decide), e1]
      show (forIn r ((n, c) :: cs) _ : Sem (List (Str × Addr))) = _
      rw [closure_go r _ fun y hy => h y (List.mem_cons_of_mem _ hy)]
      show _ = pure (clOf env.cells r (if NameKind.free = NameKind.free then (n, (env.cells.lookup n).getD 0) :: cs else cs))
      rw [if_pos rfl, hc]
      rfl
    · have hb : (k == NameKind.free) = false := by simpa using hk
      show ((if (k == NameKind.free) = true then (cellOf env n >>= fun a => pure (ForInStep.yield ((n, a) :: cs))) else pure (ForInStep.yield cs)) >>= fun s => _) = _
      rw [hb, if_neg Bool.false_ne_true]
      show (forIn r cs _ : Sem (List (Str × Addr))) = _
      rw [closure_go r _ fun y hy => h y (List.mem_cons_of_mem _ hy)]
      show _ = pure (clOf env.cells r (if k = NameKind.free then _ else cs))
      rw [if_neg hk]
theorem closureFor_of {scope : Scope} {env : Env} (h : ∀ y ∈ scope.names, y.2 = .free → ∃ c, env.cells.lookup y.1 = some c) : closureFor scope env = pure (clOf env.cells scope.names []) := by
  simp only [closureFor]
  rw [closure_go scope.names [] h]
  rfl
theorem clOf_sub {cells : List (Str × Addr)} {x : Str} {c : Addr} : ∀ {names : List (Str × NameKind)} {cs : List (Str × Addr)}, (∀ y ∈ names, y.2 = .free → ∃ c, cells.lookup y.1 = some c) →
    (cs.lookup x = some c → cells.lookup x = some c) → (clOf cells names cs).lookup x = some c → cells.lookup x = some c
  | [], _, _, h0, e => h0 e
  | (n, k) :: r, cs, h, h0, e => by
    refine clOf_sub (names := r) (fun y hy => h y (List.mem_cons_of_mem _ hy)) ?_ e
    intro e'
    by_cases hk : k = .free
    · rw [if_pos hk] at e'
      obtain ⟨c', hc⟩ := h (n, k) List.mem_cons_self hk
      rw [hc] at e'
      by_cases hx : x == n
      · simp only [List.lookup_cons, hx] at e'
        cases e'
        have : x = n := by simpa using hx
        rw [this]; exact hc
      · have hx' : (x == n) = false := by simpa using hx
        simp only [List.lookup_cons, hx'] at e'
        exact h0 e'
    · rw [if_neg hk] at e'; exact h0 e'
theorem clOf_keep {cells : List (Str × Addr)} {x : Str} : ∀ {names : List (Str × NameKind)} {cs : List (Str × Addr)}, (∃ c, cs.lookup x = some c) → ∃ c, (clOf cells names cs).lookup x = some c
  | [], _, h => h
  | (n, k) :: r, cs, ⟨c, h⟩ => by
    refine clOf_keep (names := r) ?_
    by_cases hk : k = .free
    · rw [if_pos hk]
      by_cases hx : x == n
      · exact ⟨(cells.lookup n).getD 0, by simp only [List.lookup_cons, hx]⟩
      · have hx' : (x == n) = false := by simpa using hx
        exact ⟨c, by simp only [List.lookup_cons, hx']; exact h⟩
    · rw [if_neg hk]; exact ⟨c, h⟩
theorem clOf_has {cells : List (Str × Addr)} {x : Str} : ∀ {names : List (Str × NameKind)} {cs : List (Str × Addr)}, (x, NameKind.free) ∈ names → ∃ c, (clOf cells names cs).lookup x = some c
  | [], _, h => nomatch h
  | (n, k) :: r, cs, h => by
    rcases List.mem_cons.mp h with e | e
    · cases e
      refine clOf_keep (names := r) ⟨(cells.lookup x).getD 0, ?_⟩
      rw [if_pos rfl]
      simp [List.lookup_cons]
    · exact clOf_has (names := r) e
noncomputable def rlF (env : Env) : Str × NameKind → Str × NameKind := fun (n, k) => if (k == NameKind.free && env.scope.kind == .function && env.kindOf n == some .cell) then (n, NameKind.cell) else (n, k)
theorem rlF_fst (env : Env) (p : Str × NameKind) : (rlF env p).1 = p.1 := by
  obtain ⟨n, k⟩ := p
  unfold rlF
  dsimp only
  split <;> rfl
theorem lookup_mapf {f : Str × NameKind → Str × NameKind} (h : ∀ p, (f p).1 = p.1) (x : Str) : ∀ names : List (Str × NameKind), (names.map f).lookup x = (names.lookup x).map fun k => (f (x, k)).2
  | [] => rfl
  | (n, k) :: r => by
    have ih := lookup_mapf h x r
    have e : f (n, k) = (n, (f (n, k)).2) := Prod.ext (h (n, k)) rfl
    rw [List.map_cons, e, List.lookup_cons, List.lookup_cons]
    cases hx : x == n with
    | true =>
      have : x = n := by simpa using hx
      subst this
      rfl
    | false => exact ih
theorem lookup_mem {x : Str} {k : NameKind} : ∀ {names : List (Str × NameKind)}, names.lookup x = some k → (x, k) ∈ names
  | [], h => by simp at h
  | (n, k') :: r, h => by
    rw [List.lookup_cons] at h
    cases hx : x == n with
    | true =>
      rw [hx] at h
      have : x = n := by simpa using hx
      subst this
      cases h
      exact List.mem_cons_self
    | false => rw [hx] at h; exact List.mem_cons_of_mem _ (lookup_mem h)
theorem relabel_free {env : Env} {names : List (Str × NameKind)} {x : Str} {kk : NameKind} (hn : ∀ y ∈ names, y.2 ≠ .cell) (hk : kk = .cell ∨ kk = .free) (h : (names.map (rlF env)).lookup x = some kk) : (x, NameKind.free) ∈ names := by
  rw [lookup_mapf (rlF_fst env)] at h
  obtain ⟨k, h1, h2⟩ := Option.map_eq_some_iff.mp h
  have hm := lookup_mem h1
  have hc : k ≠ .cell := hn _ hm
  by_cases hf : k = .free
  · subst hf; exact hm
  · exfalso
    have hb : (k == NameKind.free) = false := by simpa using hf
    unfold rlF at h2
    simp only [hb, Bool.false_and, Bool.false_eq_true, if_false] at h2
    rcases hk with e | e
    · exact hc (h2.trans e)
    · exact hf (h2.trans e)

inductive BSrc where
  | own | cap (j : Nat) | acc
noncomputable def bSlot (σ : St) (acc : Addr) : BSrc → Option V
  | .own => none
  | .cap j => (σ[j]?).join
  | .acc => some (.ref acc)
noncomputable def bSt (src : List BSrc) (σ : St) (acc : Addr) : St := src.map (bSlot σ acc)
noncomputable abbrev Cx.block (X : Cx) (N' : List Str) (scope : Scope) (C : Addr) (s₀ : Shared) (H₀ : Hp) (ex : List Addr) : Cx :=
  { X with N := N', env := compEnvC scope (clOf X.env.cells scope.names []) C X.env, s₀ := s₀, H₀ := H₀, outer := X.stack, stack := X.stack, ex := ex, fn := fun _ => false, pn := [], xe := fun _ _ => False }
structure CompScope (X : Cx) (N' : List Str) (scope : Scope) (src : List BSrc) : Prop where
  kind : scope.kind = .function
  nocell : ∀ y ∈ scope.names, y.2 ≠ .cell
  names : ∀ y ∈ scope.names, y.2 = .local → scope.names.lookup y.1 = some .local
  free : ∀ y ∈ scope.names, y.2 = .free → X.env.kindOf y.1 = some .cell ∨ X.env.kindOf y.1 = some .free
  len : src.length = N'.length
  cap : ∀ (k j : Nat) (x : Str), src[k]? = some (.cap j) → N'[k]? = some x → X.N[j]? = some x ∧ (X.env.kindOf x = some .cell ∨ X.env.kindOf x = some .free) ∧ scope.names.lookup x = some .free
  acc : ∀ (k : Nat) (x : Str), src[k]? = some .acc → N'[k]? = some x → scope.names.lookup x = none
theorem lookup_none_relabel {env : Env} {names : List (Str × NameKind)} {x : Str} (h : names.lookup x = none) : (names.map (rlF env)).lookup x = none := by
  rw [lookup_mapf (rlF_fst env), h]; rfl
theorem lookup_free_relabel {env : Env} {names : List (Str × NameKind)} {x : Str} (h : names.lookup x = some .free) : (names.map (rlF env)).lookup x = some .cell ∨ (names.map (rlF env)).lookup x = some .free := by
  rw [lookup_mapf (rlF_fst env), h]
  unfold rlF
  dsimp only [Option.map]
  split
  · exact .inl rfl
  · exact .inr rfl

section
variable {X : Cx} {N' : List Str} {scope : Scope} {src : List BSrc} {pins : List (Addr × Obj)} {σ : St} {H : Hp} {s : Shared} {C acc : Addr} {fp : List Addr}
theorem block_start {h1 : Heap} {tk : Nat} (S : CompScope X N' scope src) (I : Inv X pins σ H s) (hC : C = s.heap.objs.size) (hf : ∀ b ∈ fp, FpOk X pins H b) (hfo : ∀ b ∈ fp, ∃ o, s.heap.get? b = some o)
    (hns : h1.Ns C fun _ => none) (hk : ∀ b o, s.heap.get? b = some o → h1.get? b = some o) :
    Inv (X.block N' scope C s H fp) [] (bSt src σ acc) H { s with heap := h1, toks := tk } := by
  have cellf : ∀ y ∈ scope.names, y.2 = .free → ∃ c, X.env.cells.lookup y.1 = some c := fun y hy e => I.ok.has y.1 (S.free y hy e)
  have sub : ∀ x c, (clOf X.env.cells scope.names []).lookup x = some c → X.env.cells.lookup x = some c := fun x c e => clOf_sub cellf (fun h => by simp at h) e
  have gt : ∀ b, b < s.heap.objs.size → b ≠ C := fun b hb e => by rw [e, hC] at hb; exact Nat.lt_irrefl _ hb
  refine ⟨⟨I.ok.mod, S.kind, I.ok.glob, I.ok.blt, by rw [hC]; exact Nat.le_refl _, fun x y c h1 h2 => I.ok.inj x y c (sub x c h1) (sub y c h2), fun x hx => ?_, fun x c h => absurd h Bool.false_ne_true, I.ok.hd, I.ok.frames, .inl rfl, fun b hb => ?_, I.bs,
    Nat.le_trans I.ok.bsz I.sz, fun b o e hb => ?_, fun b hb hs => ?_, I.stack, I.stkFree⟩, rfl, I.bare, Un.kept hk, ⟨_, hns, fun i x v e1 e2 e3 => ?_⟩, fun x c e => ?_, ?_, fun x c e => I.freeC x c (sub x c e), fun p hp => ?_, I.hok.kept hk, ?_⟩
  · rcases hx with hx | hx
    · exact clOf_has (relabel_free S.nocell (.inl rfl) hx)
    · exact clOf_has (relabel_free S.nocell (.inr rfl) hx)
  · obtain ⟨f0, f1, f2, f3, f4, f5⟩ := hf b hb
    refine ⟨?_, fun x c e => f4 x c (sub x c e)⟩
    show b ≠ C
    obtain ⟨o, ho⟩ := hfo b hb
    exact gt b (Heap.lt_size ho)
  · obtain ⟨f0, f1, f2, f3, f4, f5⟩ := hf b hb
    rcases f3 with z | z
    · exact I.ok.noex b o e z
    · exact absurd (Nat.lt_of_lt_of_le (Heap.lt_size e) (Nat.le_trans I.ok.bsz z)) (Nat.lt_irrefl _)
  · obtain ⟨f0, f1, f2, f3, f4, f5⟩ := hf b hb
    rcases List.mem_cons.mp (I.stkSub b hs) with z | z
    · exact f1 z
    · exact f2 z
  · have hsrc : ∃ q, src[i]? = some q := by
      cases q : src[i]? with
      | some q0 => exact ⟨q0, rfl⟩
      | none =>
        have e2' : (bSt src σ acc)[i]? = some (some v) := e2
        unfold bSt at e2'
        rw [List.getElem?_map, q] at e2'; cases e2'
    obtain ⟨q, hq⟩ := hsrc
    have e2' : (bSt src σ acc)[i]? = some (some v) := e2
    unfold bSt at e2'
    rw [List.getElem?_map, hq] at e2'
    have e2'' : bSlot σ acc q = some v := Option.some.inj e2'
    cases q with
    | own => cases e2''
    | acc =>
      exfalso
      have hno := lookup_none_relabel (env := X.env) (S.acc i x hq e1)
      have hno' : (relabel scope X.env).names.lookup x = none := hno
      have e3' : Vis (relabel scope X.env) x := e3
      rcases e3' with z | z | z
      · rw [hno'] at z; cases z
      · rw [hno'] at z; cases z
      · rw [hno'] at z; cases z
    | cap j =>
      obtain ⟨hj, hkind, hfr⟩ := S.cap i j x hq e1
      have hσ : σ[j]? = some (some v) := by
        have e4 : (σ[j]?).join = some v := e2''
        cases r : σ[j]? with
        | none => rw [r] at e4; cases e4
        | some o => rw [r] at e4; cases o with
          | none => cases e4
          | some w' => cases e4; rfl
      obtain ⟨m, hn, hl⟩ := I.loc
      obtain ⟨u, ru, l⟩ := hl j x v hj hσ (by rcases hkind with z | z; exact .inr (.inl z); exact .inr (.inr z))
      refine ⟨u, ru, ?_⟩
      rcases l with ⟨z, _⟩ | ⟨_, c, hc, hcell⟩
      · rcases hkind with y | y
        · rw [y] at z; cases z
        · rw [y] at z; cases z
      · have e3' : Vis (relabel scope X.env) x := e3
        have fin : ∀ kk, kk = .cell ∨ kk = .free → (relabel scope X.env).names.lookup x = some kk → Look (X.block N' scope C s H fp).env h1 (fun _ => none) x u := fun kk hkk hx => by
          obtain ⟨c', hc'⟩ := clOf_has (cells := X.env.cells) (cs := []) (relabel_free S.nocell hkk hx)
          have := sub x c' hc'
          rw [hc] at this; cases this
          obtain ⟨oc, hoc, hocd⟩ := hcell
          refine .inr ⟨?_, c, hc', oc, hk c oc hoc, hocd⟩
          rcases hkk with y | y
          · subst y; exact .inl hx
          · subst y; exact .inr hx
        rcases e3' with z | z | z
        · exfalso
          have z' : (relabel scope X.env).names.lookup x = some .local := z
          rcases lookup_free_relabel (env := X.env) hfr with y | y
          · have y' : (relabel scope X.env).names.lookup x = some .cell := y
            rw [z'] at y'; cases y'
          · have y' : (relabel scope X.env).names.lookup x = some .free := y
            rw [z'] at y'; cases y'
        · exact fin .cell (.inl rfl) z
        · exact fin .free (.inr rfl) z
  · obtain ⟨v, oc, hoc, hocd⟩ := I.cell x c (sub x c e)
    exact ⟨v, oc, hk c oc hoc, hocd⟩
  · show H C = none
    rw [hC]; exact I.hok.fresh (Nat.le_refl _)
  · have hp' : p ∈ ([] : List (Addr × Obj)) := by simpa using hp
    exact nomatch hp'
  · show (bSt src σ acc).length = N'.length
    unfold bSt
    rw [List.length_map]; exact S.len

noncomputable def tComp (src : List BSrc) (wi : TI) (g : TG) (tt : TT) (te : TE) : TE := fun σ H Q => wi σ H fun J H1 => ∀ acc, H1 acc = none →
  ∃ W : Nat → Nat → St → Hp → Prop, (∃ m, W 0 m (bSt src σ acc) (upd H1 acc (.lst []))) ∧ ∀ i m σ' H, W i m σ' H → (J.stop i H ∧ Q (.ref acc) H) ∨
    (J.go i H ∧ ∀ x H', J.yld i H x H' → g x σ' H' fun σ2 H2 => tt σ2 H2 fun b H3 => if b = true then te σ2 H3 fun y H4 => rAppend (.ref acc) [y] H4 fun _ H5 => ∃ m', m' < m ∧ W (i + 1) m' σ2 H5 else ∃ m', m' < m ∧ W (i + 1) m' σ2 H3)
noncomputable def PTs (X : Cx) (ifs : List Expr) (t : TT) : Prop :=
  ∀ (pins : List (Addr × Obj)) (s : Shared) (σ : St) (H : Hp) (Q : Bool → Hp → Prop), Inv X pins σ H s → t σ H Q →
    wpAny (model X.prog X.w) X.A (forIn ifs true fun c r => if r = true then do let ok ← isTrue c X.env (eval c X.env); pure (ForInStep.yield ok) else pure (ForInStep.yield r)) (TP X pins σ Q) X.xe s
noncomputable def tTrue : TT := fun _ H Q => Q true H
theorem pts_nil : PTs X [] tTrue := fun _ s σ H Q I h => wpAny_tests_nil ⟨H, I, h⟩

theorem comp_loop {prog : Program} {w : World} {A : Around} {s : Shared} {elt target iter : Expr} {ifs : List Expr} {scope : Scope} {pos : Pos} {it acc : Value} {env : Env} {R : Result → Shared → Prop} (I : Nat → Shared → Prop)
    (turn : ∀ n s, I n s → wpAny (model prog w) A (pyNext it) (fun r s₁ => match r with
      | none => R (.ok .next) s₁
      | some v => wpAny (model prog w) A (letOwnedTupleGo target it v) (fun _ s₀ => wpAny (model prog w) A (assign target env v) (fun _ s₂ =>
          wpAny (model prog w) A (forIn ifs true fun c r => if r = true then do let ok ← isTrue c env (eval c env); pure (ForInStep.yield ok) else pure (ForInStep.yield r)) (fun ok s₃ => if ok = true then wpAny (model prog w) A (eval elt env) (fun x s₄ =>
            wpAny (model prog w) A (call (.builtin "list.append") [acc, x]) (fun _ s₅ => ∃ m, m < n ∧ I m s₅) (fun _ _ => False) s₄) (fun _ _ => False) s₃
            else ∃ m, m < n ∧ I m s₃) (fun _ _ => False) s₂)
          (fun _ _ => False) s₀) (fun _ _ => False) s₁) (fun _ _ => False) s)
    (n : Nat) (h : I n s) : codeAny (model prog w) A (.compLoop (.ListComp elt [⟨target, iter, ifs, 0⟩] scope pos) 0 it acc env) R s := by
  refine codeAny_loop rfl I (fun n s hI => ?_) n h
  show wpAny _ A ((compTurn (.ListComp elt [⟨target, iter, ifs, 0⟩] scope pos) 0 it acc env).onRaise (fun x => do noteFrame x env; theTreesLotGoes x)) _ _ s
  refine wpAny_noted ?_
  rw [compTurn_list]
  refine wpAny_bind (wpAny_standAt (wpAny_bind (wpAny_mono (turn n s hI) (fun r s₁ h₁ => ?_) fun _ _ f => f.elim)))
  cases r with
  | none => exact wpAny_pure h₁
  | some v =>
    refine wpAny_bind (wpAny_mono h₁ (fun _ s₀ h₀' => ?_) fun _ _ f => f.elim)
    refine wpAny_bind (wpAny_mono h₀' (fun _ s₂ h₂ => ?_) fun _ _ f => f.elim)
    refine wpAny_bind (wpAny_mono h₂ (fun okb s₃ h₃ => ?_) fun _ _ f => f.elim)
    cases okb with
    | false => exact wpAny_pure ⟨rfl, h₃⟩
    | true => exact wpAny_bind (wpAny_bind (wpAny_mono h₃ (fun x s₄ h₄ => wpAny_bind (wpAny_mono h₄ (fun _ s₅ h₅ => wpAny_pure (wpAny_pure ⟨rfl, h₅⟩)) fun _ _ f => f.elim)) fun _ _ f => f.elim))

theorem comp_block {tg elt iter : Expr} {ifs : List Expr} {pos : Pos} {g : TG} {tt : TT} {te : TE} {it : Addr} {tn : Nat → Heap → Prop} {J : It} {Q : VK} {RR : Value → Addr → Result → Shared → Prop} {E : Value → Shared → Prop}
    (hc : X.calm = true) (S : CompScope X N' scope src)
    (hg : ∀ (C : Addr) (s₀ : Shared) (H₀ : Hp) (ex : List Addr), PG (X.block N' scope C s₀ H₀ ex) tg g)
    (ht : ∀ (C : Addr) (s₀ : Shared) (H₀ : Hp) (ex : List Addr), PTs (X.block N' scope C s₀ H₀ ex) ifs tt)
    (he : ∀ (C : Addr) (s₀ : Shared) (H₀ : Hp) (ex : List Addr), PE (X.block N' scope C s₀ H₀ ex) elt te)
    (I : Inv X pins σ H s) (T : Turn X.prog X.w X.K tg J fp it tn) (st : tn 0 s.heap) (hf : ∀ b ∈ fp, FpOk X pins H b)
    (q : ∀ acc, H acc = none → ∃ W : Nat → Nat → St → Hp → Prop, (∃ m, W 0 m (bSt src σ acc) (upd H acc (.lst []))) ∧ ∀ i m σ' H, W i m σ' H → (J.stop i H ∧ Q (.ref acc) H) ∨
      (J.go i H ∧ ∀ x H', J.yld i H x H' → g x σ' H' fun σ2 H2 => tt σ2 H2 fun b H3 => if b = true then te σ2 H3 fun y H4 => rAppend (.ref acc) [y] H4 fun _ H5 => ∃ m', m' < m ∧ W (i + 1) m' σ2 H5 else ∃ m', m' < m ∧ W (i + 1) m' σ2 H3))
    (hRR : ∀ (acc C : Addr) (s' : Shared) (H' : Hp) (m : Str → Option Value), Inv X pins σ H' s' → Q (.ref acc) H' → s'.heap.Ns C m → H' C = none → C ≠ X.env.locals → X.s₀.heap.objs.size ≤ C → (∀ x c, X.env.cells.lookup x = some c → c ≠ C) → (∀ p ∈ X.pn ++ pins, p.1 ≠ C) →
      RR (.ref acc) C (.ok .next) s') :
    wpAny (model X.prog X.w) X.A (newList []) (fun acc s₃ => wpAny (model X.prog X.w) X.A (newFunctionEnv scope X.env.globals (clOf X.env.cells scope.names []) [] X.env.qual none .none (some X.env)) (fun cenv s₄ =>
      codeAny (model X.prog X.w) X.A (.compStart (.ListComp elt [⟨tg, iter, ifs, 0⟩] scope pos) 0 (.ref it) acc { cenv with scope := relabel scope X.env }) (RR acc cenv.locals) s₄) E s₃) E s := by
  have hfo : ∀ b ∈ fp, ∃ o, s.heap.get? b = some o := fun b hb => let ⟨o, e, _⟩ := T.obj 0 _ st b hb; ⟨o, e⟩
  refine wpAny_newObj_type (wpAny_newFunctionEnv S.nocell (by intro y hy; simp at hy) (fun h₁ hns₁ hsb₁ => ?_) S.kind)
  dsimp only at hns₁ hsb₁ ⊢
  have hacc : H s.heap.objs.size = none := I.hok.fresh (Nat.le_refl _)
  have I3 : Inv X pins σ (upd H s.heap.objs.size (.lst [])) { s with heap := s.heap.push { cls := .type "list", dict := none, data := .seq ([] : List Value).toArray } } := I.lnew (t' := s.toks) (its := []) (ys := []) .nil (Nat.zero_le _)
  have hf3 : ∀ b ∈ fp, FpOk X pins (upd H s.heap.objs.size (.lst [])) b := fun b hb => by
    obtain ⟨f0, f⟩ := hf b hb
    obtain ⟨o, ho⟩ := hfo b hb
    exact ⟨by rw [upd_ne (Nat.ne_of_lt (Heap.lt_size ho))]; exact f0, f⟩
  have hfo3 : ∀ b ∈ fp, ∃ o, (s.heap.push { cls := .type "list", dict := none, data := .seq ([] : List Value).toArray }).get? b = some o := fun b hb => let ⟨o, e⟩ := hfo b hb; ⟨o, Heap.get?_push_of_some _ e⟩
  obtain ⟨W, ⟨m0, w0⟩, turn⟩ := q _ hacc
  generalize hH2 : s.heap.push { cls := .type "list", dict := none, data := .seq ([] : List Value).toArray } = H2 at hns₁ hsb₁ I3 hfo3 ⊢
  have keep : ∀ b o, H2.get? b = some o → h₁.get? b = some o := fun b o e => hsb₁.extBut b o (Nat.ne_of_lt (Heap.lt_size e)) (Heap.get?_push_of_some _ e)
  have J0 := block_start (N' := N') (scope := scope) (src := src) (acc := s.heap.objs.size) (tk := s.toks + ([] : List (Str × Value)).length) (C := H2.objs.size) S I3 rfl hf3 hfo3 (show h₁.Ns H2.objs.size (fun _ => none) from hns₁) keep
  have st1 : tn 0 h₁ := T.keep 0 s.heap h₁ st fun b hb o e => keep b o (by rw [← hH2]; exact Heap.get?_push_of_some _ e)
  have cne : H2.objs.size ≠ X.env.locals := Nat.ne_of_gt I3.lt
  have csz : X.s₀.heap.objs.size ≤ H2.objs.size := I3.sz
  have ccell : ∀ x c, X.env.cells.lookup x = some c → c ≠ H2.objs.size := fun x c e z => by
    obtain ⟨v, oc, hoc, _⟩ := I3.cell x c e
    exact absurd (Heap.lt_size hoc) (by rw [z]; exact Nat.lt_irrefl _)
  have cpin : ∀ p ∈ X.pn ++ pins, p.1 ≠ H2.objs.size := fun p hp z => absurd (Heap.lt_size (I3.pin p hp).1) (by rw [z]; exact Nat.lt_irrefl _)
  have loop : ∀ s₃ : Shared, s₃ = { s with heap := h₁, toks := s.toks + ([] : List (Str × Value)).length } →
      codeAny (model X.prog X.w) X.A (.compLoop (.ListComp elt [⟨tg, iter, ifs, 0⟩] scope pos) 0 (.ref it) (.ref s.heap.objs.size) (compEnvC scope (clOf X.env.cells scope.names []) H2.objs.size X.env)) (RR (.ref s.heap.objs.size) H2.objs.size) s₃ := by
    rintro s₃ rfl
    refine comp_loop (fun n s' => ∃ i σ' H', Inv (X.block N' scope H2.objs.size { s with heap := H2 } (upd H s.heap.objs.size (.lst [])) fp) [] σ' H' s' ∧ tn i s'.heap ∧ (∀ b ∈ fp, H' b = none) ∧ W i n σ' H') ?_ m0 ⟨0, _, _, J0, st1, fun b hb => (hf3 b hb).1, w0⟩
    rintro n s4 ⟨i, σ4, H4, J4, st4, fr4, w4⟩
    have fok : ∀ {H' : Hp}, (∀ b ∈ fp, H' b = none) → ∀ b ∈ fp, FpOk (X.block N' scope H2.objs.size { s with heap := H2 } (upd H s.heap.objs.size (.lst [])) fp) [] H' b := fun {H'} hn b hb => by
      obtain ⟨f0, f1, f2, f3, f4, f5⟩ := hf3 b hb
      refine ⟨hn b hb, ?_, fun z => J4.ok.exfs b hb z, .inl hb, fun x c e => (J4.ok.exf b hb).2 x c e, fun p hp => ?_⟩
      · exact (J4.ok.exf b hb).1
      · have hp' : p ∈ ([] : List (Addr × Obj)) := by simpa using hp
        exact nomatch hp'
    rcases turn i n σ4 H4 w4 with ⟨stop, qn⟩ | ⟨go, step⟩
    · refine thn (T.done (X.block N' scope H2.objs.size { s with heap := H2 } (upd H s.heap.objs.size (.lst [])) fp) rfl rfl rfl hc i [] s4 σ4 H4 _ J4 (fok fr4) st4 stop) fun r s5 ⟨hr, J5⟩ => ?_
      subst hr
      obtain ⟨m5, hn5, _⟩ := J5.loc
      have I5 : Inv X pins σ H4 s5 := I3.call' (ch := fp) J5.os J5.base J5.hok J5.bare fun b hb => by
        obtain ⟨f0, f1, f2, f3, f4, f5⟩ := hf3 b hb
        exact ⟨f3, f1, f4, f5⟩
      exact hRR _ _ s5 H4 m5 I5 qn hn5 J5.free cne csz ccell cpin
    · refine thn (T.item (X.block N' scope H2.objs.size { s with heap := H2 } (upd H s.heap.objs.size (.lst [])) fp) rfl rfl rfl hc i [] s4 σ4 H4 _ J4 (fok fr4) st4 go) fun r s5 ⟨u, hr, h5⟩ => ?_
      subst hr
      refine thn h5 fun _ s6 ⟨x, H6, J6, r6, y6, st6, fr6⟩ => ?_
      have J6' := J6.pinned (fok fr6) (T.obj _ _ st6)
      have again : ∀ {σ7 : St} {H7 : Hp} {s7 : Shared}, Inv (X.block N' scope H2.objs.size { s with heap := H2 } (upd H s.heap.objs.size (.lst [])) fp) ([] ++ pinsAt fp s6.heap) σ7 H7 s7 → (∃ m', m' < n ∧ W (i + 1) m' σ7 H7) →
          ∃ m, m < n ∧ ∃ i σ' H', Inv (X.block N' scope H2.objs.size { s with heap := H2 } (upd H s.heap.objs.size (.lst [])) fp) [] σ' H' s7 ∧ tn i s7.heap ∧ (∀ b ∈ fp, H' b = none) ∧ W i m σ' H' := fun {σ7 H7 s7} J7 ⟨m', hm, w7⟩ => by
        refine ⟨m', hm, i + 1, σ7, H7, J7.unpinned, T.keep _ _ _ st6 fun b hb o e => (J7.pin (b, o) (List.mem_append_right _ (List.mem_append_right _ (mem_pinsAt hb e)))).1, fun b hb => ?_, w7⟩
        obtain ⟨o, e, d⟩ := T.obj _ _ st6 b hb
        exact (J7.pin (b, o) (List.mem_append_right _ (List.mem_append_right _ (mem_pinsAt hb e)))).2.1
      refine thn (hg _ _ _ _ _ s6 σ4 H6 x u _ J6' r6 (step x H6 y6)) fun _ s7 ⟨σ7, H7, J7, q7⟩ => ?_
      refine thn (ht _ _ _ _ _ s7 σ7 H7 _ J7 q7) fun b s8 ⟨H8, J8, q8⟩ => ?_
      cases b with
      | false => rw [if_neg Bool.false_ne_true] at q8 ⊢; exact again J8 q8
      | true =>
        rw [if_pos rfl] at q8 ⊢
        refine thn (he _ _ _ _ _ s8 σ7 H8 _ J8 q8) fun y s9 ⟨vy, H9, J9, r9, q9⟩ => ?_
        refine thn (mt_append _ s9 σ7 H9 (.ref s.heap.objs.size) [vy] (.ref s.heap.objs.size) [y] _ J9 rfl (.cons r9 .nil) q9) fun _ s10 ⟨_, H10, J10, _, q10⟩ => again J10 q10
  exact codeAny_compStart_list (loop _ rfl) (T.self X.A 0 _ _ _ st1 (loop _ rfl))

theorem pe_comp {tg elt iter : Expr} {ifs : List Expr} {pos : Pos} {wi : TI} {g : TG} {tt : TT} {te : TE} (hc : X.calm = true) (S : CompScope X N' scope src) (hi : PI X tg iter wi)
    (hg : ∀ (C : Addr) (s₀ : Shared) (H₀ : Hp) (ex : List Addr), PG (X.block N' scope C s₀ H₀ ex) tg g)
    (ht : ∀ (C : Addr) (s₀ : Shared) (H₀ : Hp) (ex : List Addr), PTs (X.block N' scope C s₀ H₀ ex) ifs tt)
    (he : ∀ (C : Addr) (s₀ : Shared) (H₀ : Hp) (ex : List Addr), PE (X.block N' scope C s₀ H₀ ex) elt te)
    (hs : ∀ x, foldedSetIterable iter X.env x = pure x := by intro _; rfl) : PE X (.ListComp elt [⟨tg, iter, ifs, 0⟩] scope pos) (tComp src wi g tt te) := by
  intro pins s σ H Q I h
  rw [eval_ListComp]
  refine wpAny_comprehension_free (use := none) rfl hs (closureFor_of fun y hy e => I.ok.has y.1 (S.free y hy e)) S.kind S.names (thn (hi pins s σ H _ I h) fun v s1 h1 => thn h1 fun itv s2 h2 => ?_)
  obtain ⟨it, fp, tn, J, H2, e, I2, T, st2, f2, q⟩ := h2
  subst e
  refine comp_block hc S hg ht he I2 T st2 f2 q fun acc C s' H' m I' q' hn hC c1 c2 c3 c4 => ⟨m, hn, fun h' hs' => ?_⟩
  exact ⟨.ref acc, H', I'.turned (t' := s'.toks) (fun b o hb e => (hs'.2 b hb).trans e) hC c1 (.inr c2) c3 c4, rfl, q'⟩
theorem ps_setComp {tg elt iter : Expr} {ifs : List Expr} {pos spos py : Pos} {wi : TI} {g : TG} {tt : TT} {te : TE} {i : Nat} {y : Str} (hc : X.calm = true) (S : CompScope X N' scope src) (hi : PI X tg iter wi)
    (hg : ∀ (C : Addr) (s₀ : Shared) (H₀ : Hp) (ex : List Addr), PG (X.block N' scope C s₀ H₀ ex) tg g)
    (ht : ∀ (C : Addr) (s₀ : Shared) (H₀ : Hp) (ex : List Addr), PTs (X.block N' scope C s₀ H₀ ex) ifs tt)
    (he : ∀ (C : Addr) (s₀ : Shared) (H₀ : Hp) (ex : List Addr), PE (X.block N' scope C s₀ H₀ ex) elt te)
    (hN : X.N.Nodup) (hiy : X.N[i]? = some y) (hx : X.env.scope.names.lookup y = some .local)
    (hsw : swapsWith (.ListComp elt [⟨tg, iter, ifs, 0⟩] scope pos) (some (.Name y py)) spos.line X.env = pure true)
    (hs : ∀ x, foldedSetIterable iter X.env x = pure x := by intro _; rfl) : PS X (.Assign [.Name y py] (.ListComp elt [⟨tg, iter, ifs, 0⟩] scope pos) spos) (tAsg (tComp src wi g tt te) (gName i)) := by
  intro pins s σ H D I h
  rw [exec_Assign_Name_used _ _ _ _ hsw]
  refine wpAny_bind (wpAny_standAt (wpAny_bind ?_))
  show wpAny _ X.A (do let _ ← comprehension (.ListComp elt [⟨tg, iter, ifs, 0⟩] scope pos) scope X.env _ (newList []) false (eval iter X.env) (some (assign (.Name y py) X.env))) _ _ s
  refine wpAny_bind (wpAny_mono (wpAny_comprehension_free (use := some (assign (.Name y py) X.env)) (Q := fun _ s' => SP X pins D .next s') rfl hs (closureFor_of fun y hy e => I.ok.has y.1 (S.free y hy e)) S.kind S.names
    (thn (hi pins s σ H _ I h) fun v s1 h1 => thn h1 fun itv s2 h2 => ?_)) (fun _ s' hq => wpAny_pure (wpAny_pure hq)) fun _ _ e => e)
  obtain ⟨it, fp, tn, J, H2, e, I2, T, st2, f2, q⟩ := h2
  subst e
  refine comp_block (Q := fun x H1 => gName i x σ H1 D.nx) hc S hg ht he I2 T st2 f2 q fun acc C s' H' m I' q' hn hC c1 c2 c3 c4 => ?_
  refine wpAny_assign_Name (store_ok2 I' hN hiy (.inl hx) (v := .ref acc) (u := .ref acc) rfl (fun s'' I'' ⟨a, hsb, ha⟩ => ?_) (.inr hx))
  have hCa : C ≠ a := by
    rcases ha with z | z
    · rw [z]; exact c1
    · exact Ne.symm (c3 _ _ z)
  refine ⟨m, hn.sameBut hsb hCa, fun h' hs' => ?_⟩
  exact ⟨_, H', I''.turned (t' := s''.toks) (fun b o hb e => (hs'.2 b hb).trans e) hC c1 (.inr c2) c3 c4, q'⟩
end
end L2

namespace L2
open PySem PySem.Spec PyProof.Rows
noncomputable def without (h : Heap) (xs : List Addr) : Heap := { objs := (Array.range h.objs.size).map fun a => if a ∈ xs then { cls := .none, data := .freed } else (h.objs[a]?).getD { cls := .none, data := .freed } }
structure Raised (h : Heap) (e : Addr) (cls : Value) (dx tb : Option Addr) : Prop where
  obj : ∃ oe vs, h.get? e = some oe ∧ oe.cls = cls ∧ oe.dict = dx ∧ oe.data = .fields vs ∧ vs[1]? = some (match tb with | none => .none | some T => .ref T)
  tr : ∀ T, tb = some T → T ≠ e ∧ ∃ oT ts fl, h.get? T = some oT ∧ oT.data = .fields ts ∧ ts[3]? = some fl
noncomputable def tbl' : Option Addr → List Addr
  | none => []
  | some T => [T]
structure Noted (l : List Addr) (h h' : Heap) (e : Addr) (cls : Value) (dx tb : Option Addr) (T : Addr) : Prop where
  keep : ∀ b o, b ≠ e → b ∉ tbl' tb → b ∉ l → h.get? b = some o → h'.get? b = some o
  slot : ∀ b o, b ∈ l → h.get? b = some o → ∃ sl, h'.get? b = some { o with slots := sl }
  new : h.get? T = none ∨ some T = tb
  r : Raised h' e cls dx (some T)
section
variable {M : Model} {A : Around} {E : Value → Shared → Prop} {s : Shared} {base : Heap} {env : Env} {outer : List Env} {L e : Addr} {cls : Value} {dx tb : Option Addr} {Q : Unit → Shared → Prop}
end
end L2

namespace L2
open PySem PySem.Spec PyProof.Rows
noncomputable def CX1 (P : Program) (w : World) : CXT := fun outer H s E e s' => ∃ (a : Addr) (cls : Value) (dx : Option Addr) (T : Addr) (H' : Hp), e = .ref a ∧ s'.os = s.os ∧ AllBare s'.gens ∧ Un (frs outer) [] H H' s.heap s'.heap ∧ HOk P w H' s'.heap ∧
  Raised s'.heap a cls dx (some T) ∧ s.heap.get? a = none ∧ s.heap.get? T = none ∧ H' a = none ∧ H' T = none ∧ E cls dx H'
noncomputable def Throws (X : Cx) (EX : XK) : Prop := ∀ (pins : List (Addr × Obj)) (σ : St) (H : Hp) (s : Shared) (e : Addr) (cls : Value) (dx tb : Option Addr), Inv X pins σ H s → Raised s.heap e cls dx tb → X.s₀.heap.get? e = none → H e = none →
  (∀ T, tb = some T → X.s₀.heap.get? T = none ∧ H T = none) → EX cls dx H → X.xe (.ref e) s
end L2

namespace L2
open PySem PySem.Spec PyProof.Rows
abbrev VEB : List Value := [.type "ValueError", .type "Exception", .type "BaseException", .type "object"]
noncomputable def tRaise (EX : XK) (C : Addr) (t : TA) : TS := fun _ σ H => t σ H fun vs H1 => vs.length ≤ sizeLine ∧ EX (.ref C) none H1
end L2

namespace L2
open PySem PySem.Spec PyProof.Rows
noncomputable abbrev EXT := Value → Option Addr → St → Hp → Prop
noncomputable def ThrowsT (X : Cx) (EX : EXT) : Prop := ∀ (pins : List (Addr × Obj)) (σ : St) (H : Hp) (s : Shared) (e : Addr) (cls : Value) (dx : Option Addr) (T : Addr), Inv X pins σ H s → Raised s.heap e cls dx (some T) → X.s₀.heap.get? e = none → H e = none →
  X.s₀.heap.get? T = none → H T = none → (∀ p ∈ X.pn ++ pins, p.1 ≠ e ∧ p.1 ≠ T) → (e ≠ X.env.locals ∧ T ≠ X.env.locals) → (∀ x c, X.env.cells.lookup x = some c → c ≠ e ∧ c ≠ T) → EX cls dx σ H → X.xe (.ref e) s
noncomputable def PassX (X : Cx) (EX : EXT) : Prop := ∀ (pins : List (Addr × Obj)) (σ : St) (H : Hp) (s : Shared) (e : Value) (s' : Shared), Inv X pins σ H s → CX1 X.prog X.w X.stack H s (fun cls od H' => EX cls od σ H') e s' → X.xe e s'
noncomputable def tCallX (sp : Sp) (EX : EXT) (t : TA) : TE := fun σ H Q => t σ H fun vs H1 => sp vs H1 Q fun cls od H' => EX cls od σ H'
end L2

namespace L2
open PySem PySem.Spec PyProof.Rows
structure Air (X : Cx) (pins : List (Addr × Obj)) (H : Hp) (s : Shared) (e : Addr) (cls : Value) (dx : Option Addr) (T : Addr) : Prop where
  r : Raised s.heap e cls dx (some T)
  e0 : X.s₀.heap.get? e = none
  eH : H e = none
  t0 : X.s₀.heap.get? T = none
  tH : H T = none
  pe : ∀ p ∈ X.pn ++ pins, p.1 ≠ e ∧ p.1 ≠ T
  le : e ≠ X.env.locals ∧ T ≠ X.env.locals
  ce : ∀ x c, X.env.cells.lookup x = some c → c ≠ e ∧ c ≠ T
section
variable {X : Cx} {pins : List (Addr × Obj)} {σ : St} {H : Hp} {s : Shared} {e T : Addr} {cls : Value} {dx : Option Addr}
end
noncomputable abbrev Cx.inTry (X : Cx) (pn : List (Addr × Obj)) (xe : Value → Shared → Prop) : Cx := { X with pn := pn, xe := xe }
noncomputable abbrev Cx.inSuite (X : Cx) (a : Addr) : Cx := { X with A := X.A.mark (some (.ref a)), calm := false, xe := fun _ _ => False }
section
variable {X : Cx} {pins : List (Addr × Obj)} {σ : St} {H : Hp} {s : Shared} {e T : Addr} {cls : Value} {dx : Option Addr} {xe : Value → Shared → Prop}
noncomputable def excAt (a C : Addr) (dx : Option Addr) : Heap → Prop := fun h => ∃ o, h.get? a = some o ∧ o.cls = .ref C ∧ o.dict = dx ∧ PySem.W.notCls o = true
end
end L2

namespace L2
open PySem PySem.Spec PyProof.Rows
structure Hd where
  x : Str
  np : Pos
  nm : Option (Str × Nat)
  b0 : Stmt
  suite : List Stmt
  pos : Pos
  B : Addr
  t : TS
noncomputable def Hd.ast (h : Hd) : ExceptHandler := .ExceptHandler (some (.Name h.x h.np)) (h.nm.map (·.1)) (h.b0 :: h.suite) h.pos
noncomputable def Ends.but (D : Ends) (i : Nat) : Ends := { nx := fun σ H => D.nx (σ.set i none) H, bk := fun σ H => D.bk (σ.set i none) H, ct := fun σ H => D.ct (σ.set i none) H, rt := D.rt }
noncomputable def Hd.run (h : Hd) (C : Addr) (dx : Option Addr) (D : Ends) (σ : St) (H : Hp) : Prop := match h.nm with
  | none => h.t D σ H
  | some (_, i) => ∀ a, H a = none → h.t (D.but i) (σ.set i (some (.ref a))) (upd H a (.ext (excAt a C dx)))
noncomputable def pickH (K : PySem.W.Frag) (C : Addr) : List Hd → Option Hd
  | [] => none
  | h :: r => match PySem.W.mroIn K C (.ref h.B) with
    | some true => some h
    | some false => pickH K C r
    | none => none
structure Hd.Ok (X : Cx) (h : Hd) : Prop where
  gl : Gl X h.x
  mg : X.mg h.x = some (.ref h.B)
  ty : PySem.W.typeIn X.K (.ref h.B) = some (.type "type")
  cl : PySem.W.isClsIn X.K h.B = true
  bs : PySem.W.mroIn X.K h.B (.type "BaseException") = some true
  db : (h.x == ("__debug__" : Str)) = false
  nm : ∀ n i, h.nm = some (n, i) → X.N.Nodup ∧ X.N[i]? = some n ∧ Loc X.env.scope n ∧ X.env.kindOf n = some .local ∧ X.env.scope.names.lookup n = some .local
  su : ∀ a, PSs (X.inSuite a) (h.b0 :: h.suite) h.t
section
variable {X : Cx} {pins : List (Addr × Obj)} {σ : St} {H : Hp} {s : Shared} {e T C : Addr} {dx : Option Addr} {D : Ends}
noncomputable def tTry (K : PySem.W.Frag) (tb : EXT → TS) (hs : List Hd) : TS := fun D σ H => tb (fun cls dx σ' H' => ∃ C h, cls = .ref C ∧ pickH K C hs = some h ∧ h.run C dx D σ' H') D σ H
end
end L2

namespace L2
open PySem PySem.Spec PySem.Calls PyProof.Rows Builtin.ObjectAttr Builtin.Getset_descriptor
structure ExcKit (K : PySem.W.Frag) (C : Addr) : Prop where
  cl : PySem.W.isClsIn K C = true
  ga : PySem.W.findIn K (.ref C) "__getattribute__" = some (some (.builtin "BaseException.__getattribute__"))
  gt : PySem.W.findIn K (.ref C) "__getattr__" = some none
  ca : PySem.W.findIn K (.ref C) "__class__" = some (some (.builtin "object.__class__"))
  gs : PySem.W.specialIn K (.builtin "object.__class__") "__get__" = some (some (.builtin "getset_descriptor.__get__"))
  tk : PySem.W.takesIn K (.builtin "object.__class__") = some true
  ob : PySem.W.mroIn K C (.type "object") = some true
  be : PySem.W.mroIn K C (.type "BaseException") = some true
section
variable {prog : Program} {w : World} {A : Around} {E : Value → Shared → Prop} {s : Shared} {K : PySem.W.Frag} {x C : Addr} {dx : Option Addr}
end
section
variable {X : Cx}
noncomputable def rIsX (K : PySem.W.Frag) (c : V) (cv : Value) : List V → Hp → VK → Prop := fun xs H Q => ∃ a C dx b, xs = [.ref a, c] ∧ H a = some (.ext (excAt a C dx)) ∧ ExcKit K C ∧ PySem.W.kitOne K (.ref C) cv = some b ∧ Q (.bl b) H
noncomputable def rIsXT (K : PySem.W.Frag) (Bs : List Addr) : List V → Hp → VK → Prop := fun xs H Q => ∃ a C dx p b, xs = [.ref a, .ref p] ∧ H a = some (.ext (excAt a C dx)) ∧ ExcKit K C ∧ H p = some (.tup (Bs.map V.ref)) ∧ PySem.W.kitAny K (.ref C) (Bs.map Value.ref) = some b ∧ Q (.bl b) H
end
end L2

namespace L2
open PySem PySem.Spec PyProof.Rows
section
variable {X : Cx} {pins : List (Addr × Obj)} {σ : St} {H : Hp} {s s' : Shared}
end
noncomputable abbrev Cx.blockX (X : Cx) (N' : List Str) (scope : Scope) (C : Addr) (s₀ : Shared) (H₀ : Hp) (ex : List Addr) (xe : Value → Shared → Prop) : Cx :=
  { X with N := N', env := compEnvC scope (clOf X.env.cells scope.names []) C X.env, s₀ := s₀, H₀ := H₀, outer := X.stack, stack := X.stack, ex := ex, fn := fun _ => false, pn := [], xe := xe }
section
variable {X : Cx} {N' : List Str} {scope : Scope} {src : List BSrc} {pins : List (Addr × Obj)} {σ : St} {H : Hp} {s : Shared} {C acc : Addr} {fp : List Addr}

noncomputable def tCompX (src : List BSrc) (wi : TI) (g : TG) (tt : TT) (te : EXT → TE) (EX : EXT) : TE := fun σ H Q => wi σ H fun J H1 => ∀ acc, H1 acc = none →
  ∃ W : Nat → Nat → St → Hp → Prop, (∃ m, W 0 m (bSt src σ acc) (upd H1 acc (.lst []))) ∧ ∀ i m σ' H, W i m σ' H → (J.stop i H ∧ Q (.ref acc) H) ∨
    (J.go i H ∧ ∀ x H', J.yld i H x H' → g x σ' H' fun σ2 H2 => tt σ2 H2 fun b H3 => if b = true then te (fun cls od _ H' => EX cls od σ H') σ2 H3 fun y H4 => rAppend (.ref acc) [y] H4 fun _ H5 => ∃ m', m' < m ∧ W (i + 1) m' σ2 H5 else ∃ m', m' < m ∧ W (i + 1) m' σ2 H3)
end
end L2

namespace PySem
open Sem (wp)
section
variable {prog : Program} {w : World} {A : Around} {E : Value → Shared → Prop} {h : Heap} {g : Array GenState} {d : Drawn} {t : Nat} {os : OsState}
variable {nm q : Str} {C N fI : Addr} {oI : Obj} {bs bm bmB bmN : List Value} {hdct : Bool} {sn : List Str} {sub : List Value} {ab : Bool} {col : Option Bool} {dd : Option Addr} {k0 k1 k2 k3 k5 : Option Value} {B Bn newId nid initId inN : String} {mN : Str → Option Value} {rest : List Value}
end
section
variable {prog : Program} {w : World} {A : Around} {E : Value → Shared → Prop} {s : Shared} {env : Env}
variable {nm q : Str} {C N fI : Addr} {bs bm bmB bmN : List Value} {hdct : Bool} {sn : List Str} {sub : List Value} {ab : Bool} {col : Option Bool} {dd : Option Addr} {k0 k1 k2 k3 k5 : Option Value} {B Bn newId nid initId inN : String} {mN : Str → Option Value}
end
end PySem

namespace L2
open PySem PySem.Spec PySem.Calls PyProof.Rows Builtin.ObjectAttr
noncomputable def vebMro : List Value → Bool
  | .ref _ :: r => vebMro r
  | l => l == VEB
structure ExcSet (K : PySem.W.Frag) (C : Addr) (name : Str) : Prop where
  sa : PySem.W.findIn K (.ref C) "__setattr__" = some (some (.builtin "object.__setattr__"))
  ob : PySem.W.mroIn K C (.type "object") = some true
  na : PySem.W.findIn K (.ref C) name = some none
  mr : ((PySem.W.clsIn K C).any fun cd => vebMro cd.mro && cd.hasDict) = true
noncomputable def excNew (a C : Addr) (dx : Option Addr) : Heap → Prop := fun h => ∃ o t, h.get? a = some o ∧ o.cls = .ref C ∧ o.dict = dx ∧ o.data = .fields #[.ref t, .none, .none, .none, .bool false, .none]
section
variable {prog : Program} {w : World} {A : Around} {E : Value → Shared → Prop} {s : Shared} {K : PySem.W.Frag} {x C : Addr} {name : Str} {v : Value}
end
end L2

namespace L2
open PySem PySem.Spec PyProof.Rows
noncomputable def initIn (K : PySem.W.Frag) (C f : Addr) : Bool := match K.lookup C with
  | some ⟨.type "type", _, .cls cd, sl⟩ => (match cd.mro, sl.toList with
    | .ref B :: r, [_, _, _, _, some (.builtin i), _] => B == C && i == "ValueError.__new__" && !cd.hasDel && PySem.W.tailIn K VEB r && PySem.W.nsOkIn K cd.ns && PySem.W.nsIn K cd.ns "__init__" == some (some (.ref f))
    | _, _ => false)
  | _ => false
noncomputable def OwnInit (C f : Addr) (h : Heap) : Prop := ∃ (bm : List Value) (N : Addr) (nm q : Str) (bs : List Value) (hdct : Bool) (sn : List Str) (sub : List Value) (ab : Bool) (col : Option Bool) (dd : Option Addr) (k0 k1 k2 k3 k5 : Option Value) (mN : Str → Option Value),
  h.get? C = some (excClassObj nm q C N bs bm hdct sn sub ab col dd k0 k1 k2 k3 k5 "ValueError.__new__") ∧ h.Ns N mN ∧ mN "__init__" = some (.ref f) ∧ OwnTail h VEB bm
noncomputable def drop (H : Hp) (e : Addr) : Hp := fun b => if b = e then none else H b
section
variable {X : Cx} {pins : List (Addr × Obj)} {σ : St} {H : Hp} {s : Shared} {e C : Addr}
end
structure ExcGet (K : PySem.W.Frag) (C : Addr) (f : Str) : Prop where
  kit : ExcKit K C
  na : PySem.W.findIn K (.ref C) f = some none
  mr : ((PySem.W.clsIn K C).any fun cd => cd.hasDict) = true
noncomputable def tAttrX (K : PySem.W.Frag) (ta : TE) (f : Str) : TE := fun σ H Q => ta σ H fun x H1 => ∃ a C dx fs v, x = .ref a ∧ H1 a = some (.ext (excAt a C (some dx))) ∧ H1 dx = some (.xd fs) ∧ ExcGet K C f ∧ fs.lookup f = some v ∧ Q v H1
section
variable {X : Cx} {e o value : Expr} {f : Str} {pos pos' : Pos} {ta tv : TE}
noncomputable def sAttrX (K : PySem.W.Frag) (ta tv : TE) (f : Str) : TS := fun D σ H => tv σ H fun y H1 => ta σ H1 fun x H2 => ∃ a C, x = .ref a ∧ H2 a = some (.ext (excNew a C none)) ∧ ExcSet K C f ∧
  ∀ dx, H2 dx = none → D.nx σ (upd (upd H2 dx (.xd [(f, y)])) a (.ext (excNew a C (some dx))))
end
noncomputable def tRaiseI (EX : XK) (C : Addr) (sp : Sp) (t : TA) : TS := fun _ σ H => t σ H fun vs H1 => vs.length ≤ sizeLine ∧ ∀ e, H1 e = none → sp (.ref e :: vs) (upd H1 e (.ext (excNew e C none))) (fun v H2 => v = .non ∧ ∃ dx, H2 e = some (.ext (excNew e C dx)) ∧ EX (.ref C) dx (drop H2 e)) E0
end L2

namespace DL
open PySem L2
variable {K : PySem.W.Frag}

inductive D where
  | non | bl (b : Bool) | int (i : Int) | str (x : Str)
  | tup (xs : List D) | lst (xs : List D)
  | dK (ks : List Key) (vs : List D) | dT (ks : List (List Key)) (vs : List D)
  | exc (c : Str) (ks : List Str) (vs : List D)
noncomputable def ClsIs (K : PySem.W.Frag) (c : Str) (C : Addr) : Prop := PySem.W.nsIn K mainGlobals c = some (some (.ref C))

noncomputable def KB (F : Hp) (kvs : List (List Key × V)) (bs : List Addr) : Prop := Paired (fun (p : List Key × V) (b : Addr) => F b = some (.tup (p.1.map kV))) kvs bs
mutual
inductive Rep (K : PySem.W.Frag) (F : Hp) : D → V → Prop where
  | non : Rep K F .non .non
  | bl (b : Bool) : Rep K F (.bl b) (.bl b)
  | int (i : Int) : Rep K F (.int i) (.int i)
  | str (x : Str) : Rep K F (.str x) (.str x)
  | tup {a : Addr} {xs : List D} {vs : List V} (h : F a = some (.tup vs)) (r : Reps K F xs vs) : Rep K F (.tup xs) (.ref a)
  | lst {a : Addr} {xs : List D} {vs : List V} (h : SqL K F a vs) (r : Reps K F xs vs) : Rep K F (.lst xs) (.ref a)
  | dK {a : Addr} {ks : List Key} {ds : List D} {kvs : List (Key × V)} {ep : Nat} (h : F a = some (.dK kvs ep)) (e : kvs.map (·.1) = ks) (r : Reps K F ds (kvs.map (·.2))) : Rep K F (.dK ks ds) (.ref a)
  | dT {a : Addr} {ks : List (List Key)} {ds : List D} {kvs : List (List Key × V)} {ep : Nat} {bs : List Addr} (h : F a = some (.dT kvs ep bs)) (kb : KB F kvs bs) (e : kvs.map (·.1) = ks) (r : Reps K F ds (kvs.map (·.2))) : Rep K F (.dT ks ds) (.ref a)
  | exc {a C : Addr} {c : Str} (cl : ClsIs K c C) (h : F a = some (.ext (excAt a C none))) : Rep K F (.exc c [] []) (.ref a)
  | exd {a C dx : Addr} {c : Str} {ks : List Str} {ds : List D} {fs : List (Str × V)} (cl : ClsIs K c C) (h : F a = some (.ext (excAt a C (some dx)))) (hx : F dx = some (.xd fs)) (e : fs.map (·.1) = ks) (r : Reps K F ds (fs.map (·.2))) : Rep K F (.exc c ks ds) (.ref a)
inductive Reps (K : PySem.W.Frag) (F : Hp) : List D → List V → Prop where
  | nil : Reps K F [] []
  | cons {d : D} {v : V} {ds : List D} {vs : List V} (h : Rep K F d v) (t : Reps K F ds vs) : Reps K F (d :: ds) (v :: vs)
end

theorem KB.mono {F F' : Hp} (s : Same F F') {kvs : List (List Key × V)} {bs : List Addr} (h : KB F kvs bs) : KB F' kvs bs := Paired.mapP h fun _ _ z => s _ _ z
theorem rdMono {F F' : Hp} (s : Same F F') {a : Addr} {u : HO} (h : Rd F a u) : Rd F' a u := by
  rcases h with h | ⟨o, h⟩
  · exact .inl (s _ _ h)
  · exact .inr ⟨o, s _ _ h⟩
theorem sqL_mono {F F' : Hp} (s : Same F F') {a : Addr} {xs : List V} (h : SqL K F a xs) : SqL K F' a xs := by
  rcases h with h | h
  · exact .inl (rdMono s h)
  · exact .inr h
theorem sqT_mono {F F' : Hp} (s : Same F F') {a : Addr} {xs : List V} (h : SqT K F a xs) : SqT K F' a xs := by
  rcases h with h | h
  · exact .inl (rdMono s h)
  · exact .inr h
theorem tupSq {F : Hp} {a : Addr} {vs : List V} (h : F a = some (.tup vs)) : SqT K F a vs := .inl (.inl h)
mutual
theorem Rep.mono {F F' : Hp} (s : Same F F') : ∀ {d : D} {v : V}, Rep K F d v → Rep K F' d v
  | _, _, .non => .non
  | _, _, .bl b => .bl b
  | _, _, .int i => .int i
  | _, _, .str x => .str x
  | _, _, .tup h r => .tup (s _ _ h) (Reps.mono s r)
  | _, _, .lst h r => .lst (sqL_mono s h) (Reps.mono s r)
  | _, _, .dK h e r => .dK (s _ _ h) e (Reps.mono s r)
  | _, _, .dT h kb e r => .dT (s _ _ h) (kb.mono s) e (Reps.mono s r)
  | _, _, .exc cl h => .exc cl (s _ _ h)
  | _, _, .exd cl h hx e r => .exd cl (s _ _ h) (s _ _ hx) e (Reps.mono s r)
theorem Reps.mono {F F' : Hp} (s : Same F F') : ∀ {ds : List D} {vs : List V}, Reps K F ds vs → Reps K F' ds vs
  | _, _, .nil => .nil
  | _, _, .cons h t => .cons (Rep.mono s h) (Reps.mono s t)
end
theorem Reps.length {F : Hp} : ∀ {ds : List D} {vs : List V}, Reps K F ds vs → ds.length = vs.length
  | _, _, .nil => rfl
  | _, _, .cons _ t => by rw [List.length_cons, List.length_cons, Reps.length t]
theorem Reps.append {F : Hp} : ∀ {ds es : List D} {vs us : List V}, Reps K F ds vs → Reps K F es us → Reps K F (ds ++ es) (vs ++ us)
  | _, _, _, _, .nil, q => q
  | _, _, _, _, .cons h t, q => .cons h (t.append q)
theorem Reps.snoc {F : Hp} {ds : List D} {vs : List V} {d : D} {v : V} (r : Reps K F ds vs) (h : Rep K F d v) : Reps K F (ds ++ [d]) (vs ++ [v]) := r.append (.cons h .nil)
theorem Reps.get {F : Hp} : ∀ {ds : List D} {vs : List V} {i : Nat} {d : D}, Reps K F ds vs → ds[i]? = some d → ∃ v, vs[i]? = some v ∧ Rep K F d v
  | _, _, _, _, .nil, e => by simp at e
  | _, _, 0, _, .cons h t, e => by simp at e; subst e; exact ⟨_, rfl, h⟩
  | _, _, i + 1, d, .cons h t, e => by
    obtain ⟨v, h1, h2⟩ := Reps.get (i := i) (d := d) t (by simpa using e)
    exact ⟨v, by simpa using h1, h2⟩
theorem Reps.take {F : Hp} : ∀ {ds : List D} {vs : List V} (n : Nat), Reps K F ds vs → Reps K F (ds.take n) (vs.take n)
  | _, _, 0, _ => .nil
  | _, _, _ + 1, .nil => .nil
  | _, _, n + 1, .cons h t => .cons h (t.take n)
theorem Reps.drop {F : Hp} : ∀ {ds : List D} {vs : List V} (n : Nat), Reps K F ds vs → Reps K F (ds.drop n) (vs.drop n)
  | _, _, 0, r => r
  | _, _, _ + 1, .nil => .nil
  | _, _, n + 1, .cons h t => t.drop n

inductive SV where
  | fz (d : D) | ol (xs : List D) | oK (ks : List Key) (vs : List D) | oT (ks : List (List Key)) (vs : List D) | oN (ks : List Key) (xss : List (List D)) | oL (pin : Option Addr) (xss : List (List D))
@[simp] noncomputable def SV.toD : SV → D
  | .fz d => d
  | .ol xs => .lst xs
  | .oK ks vs => .dK ks vs
  | .oT ks vs => .dT ks vs
  | .oN ks xss => .dK ks (xss.map D.lst)
  | .oL _ xss => .lst (xss.map D.lst)
noncomputable abbrev Nodes := List (Addr × HO)
inductive Kids (K : PySem.W.Frag) (F : Hp) : List (List D) → List V → Nodes → Prop where
  | nil : Kids K F [] [] []
  | cons {xs : List D} {xss : List (List D)} {b : Addr} {vs : List V} {ws : List V} {ns : Nodes} (r : Reps K F xs vs) (t : Kids K F xss ws ns) : Kids K F (xs :: xss) (.ref b :: ws) ((b, .lst vs) :: ns)
inductive Shape (K : PySem.W.Frag) (F : Hp) : SV → V → Nodes → Prop where
  | fz {d : D} {v : V} (h : Rep K F d v) : Shape K F (.fz d) v []
  | ol {a : Addr} {xs : List D} {vs : List V} (r : Reps K F xs vs) : Shape K F (.ol xs) (.ref a) [(a, .lst vs)]
  | oK {a : Addr} {ks : List Key} {ds : List D} {kvs : List (Key × V)} {ep : Nat} (e : kvs.map (·.1) = ks) (r : Reps K F ds (kvs.map (·.2))) : Shape K F (.oK ks ds) (.ref a) [(a, .dK kvs ep)]
  | oT {a : Addr} {ks : List (List Key)} {ds : List D} {kvs : List (List Key × V)} {ep : Nat} {bs : List Addr} (kb : KB F kvs bs) (e : kvs.map (·.1) = ks) (r : Reps K F ds (kvs.map (·.2))) : Shape K F (.oT ks ds) (.ref a) [(a, .dT kvs ep bs)]
  | oN {a : Addr} {ks : List Key} {xss : List (List D)} {kvs : List (Key × V)} {ns : Nodes} {ep : Nat} (e : kvs.map (·.1) = ks) (r : Kids K F xss (kvs.map (·.2)) ns) : Shape K F (.oN ks xss) (.ref a) ((a, .dK kvs ep) :: ns)
  | oL {pin : Option Addr} {a : Addr} {xss : List (List D)} {ws : List V} {ns : Nodes} (hp : ∀ b, pin = some b → b = a) (r : Kids K F xss ws ns) : Shape K F (.oL pin xss) (.ref a) ((a, .lst ws) :: ns)
theorem Kids.mono {F F' : Hp} (s : Same F F') : ∀ {xss : List (List D)} {ws : List V} {ns : Nodes}, Kids K F xss ws ns → Kids K F' xss ws ns
  | _, _, _, .nil => .nil
  | _, _, _, .cons r t => .cons (r.mono s) (t.mono s)
theorem Shape.mono {F F' : Hp} (s : Same F F') {sv : SV} {v : V} {ns : Nodes} (h : Shape K F sv v ns) : Shape K F' sv v ns := by
  cases h with
  | fz h => exact .fz (h.mono s)
  | ol r => exact .ol (r.mono s)
  | oK e r => exact .oK e (r.mono s)
  | oT kb e r => exact .oT (kb.mono s) e (r.mono s)
  | oN e r => exact .oN e (r.mono s)
  | oL hp r => exact .oL hp (r.mono s)

noncomputable def addL (F : Hp) : Nodes → Hp
  | [] => F
  | p :: r => upd (addL F r) p.1 p.2
noncomputable abbrev adr (ns : Nodes) : List Addr := ns.map (·.1)
theorem addL_old {F : Hp} {b : Addr} : ∀ {ns : Nodes}, b ∉ adr ns → addL F ns b = F b
  | [], _ => rfl
  | p :: r, h => by
    have h1 : b ≠ p.1 := fun e => h (by rw [e]; exact List.mem_cons_self)
    have h2 : b ∉ adr r := fun e => h (List.mem_cons_of_mem _ e)
    show upd (addL F r) p.1 p.2 b = F b
    rw [upd_ne h1, addL_old h2]
theorem addL_new {F : Hp} {p : Addr × HO} : ∀ {ns : Nodes}, (adr ns).Nodup → p ∈ ns → addL F ns p.1 = some p.2
  | [], _, h => nomatch h
  | q :: r, nd, h => by
    obtain ⟨n1, n2⟩ := List.nodup_cons.mp nd
    show upd (addL F r) q.1 q.2 p.1 = some p.2
    rcases List.mem_cons.mp h with e | e
    · subst e; exact upd_same
    · rw [upd_ne fun z => n1 (List.mem_map.mpr ⟨p, e, z⟩)]
      exact addL_new n2 e
theorem addL_same {F : Hp} {ns : Nodes} (h : ∀ p ∈ ns, F p.1 = none) : Same F (addL F ns) := fun b o e => by
  by_cases hb : b ∈ adr ns
  · obtain ⟨p, hp, ep⟩ := List.mem_map.mp hb
    subst ep
    rw [h p hp] at e; cases e
  · rw [addL_old hb]; exact e
theorem addL_le {F H : Hp} {ns : Nodes} (nd : (adr ns).Nodup) (le : Same F H) (h : ∀ p ∈ ns, H p.1 = some p.2) : Same (addL F ns) H := fun b o e => by
  by_cases hb : b ∈ adr ns
  · obtain ⟨p, hp, ep⟩ := List.mem_map.mp hb
    subst ep
    rw [addL_new nd hp] at e
    cases e
    exact h p hp
  · rw [addL_old hb] at e; exact le b o e
theorem addL_fro {Z : Hp × Hp} {F : Hp} {ns : Nodes} (nd : (adr ns).Nodup) (fro : ∀ (b : Addr) (o : HO), F b = some o → Z.2 b = some o ∨ Z.1 b = none) (hz : ∀ p ∈ ns, Z.1 p.1 = none) : ∀ (b : Addr) (o : HO), addL F ns b = some o → Z.2 b = some o ∨ Z.1 b = none := fun b o e => by
  by_cases hb : b ∈ adr ns
  · obtain ⟨p, hp, ep⟩ := List.mem_map.mp hb
    subst ep
    exact .inr (hz p hp)
  · rw [addL_old hb] at e; exact fro b o e
theorem Kids.rep {F F' : Hp} (s : Same F F') : ∀ {xss : List (List D)} {ws : List V} {ns : Nodes}, Kids K F xss ws ns → (∀ p ∈ ns, F' p.1 = some p.2) → Reps K F' (xss.map D.lst) ws
  | _, _, _, .nil, _ => .nil
  | _, _, _, .cons r t, h => .cons (.lst (.inl (.inl (h _ List.mem_cons_self))) (r.mono s)) (t.rep s fun p hp => h p (List.mem_cons_of_mem _ hp))
theorem Shape.rep {F : Hp} {sv : SV} {v : V} {ns : Nodes} (h : Shape K F sv v ns) (nd : (adr ns).Nodup) (hn : ∀ p ∈ ns, F p.1 = none) : Rep K (addL F ns) sv.toD v := by
  have s := addL_same hn
  have a : ∀ p ∈ ns, addL F ns p.1 = some p.2 := fun p hp => addL_new nd hp
  cases h with
  | fz h => exact h
  | ol r => exact .lst (.inl (.inl (a (_, _) List.mem_cons_self))) (r.mono s)
  | oK e r => exact .dK (a (_, _) List.mem_cons_self) e (r.mono s)
  | oT kb e r => exact .dT (a (_, _) List.mem_cons_self) (kb.mono s) e (r.mono s)
  | oN e r => exact .dK (a (_, _) List.mem_cons_self) e (r.rep s fun p hp => a p (List.mem_cons_of_mem _ hp))
  | oL _ r => exact .lst (.inl (.inl (a (_, _) List.mem_cons_self))) (r.rep s fun p hp => a p (List.mem_cons_of_mem _ hp))

noncomputable abbrev DSt := List (Option SV)
structure Ent (K : PySem.W.Frag) where
  h : Hp
  f : Hp
  x : EXT
noncomputable abbrev ent (H F : Hp) : Ent K := ⟨H, F, fun _ _ _ _ => False⟩
structure Exn where
  c : Str
  ks : List Str := []
  vs : List D := []
noncomputable def ExcRep (K : PySem.W.Frag) (F : Hp) (e : Exn) (cls : Value) (od : Option Addr) : Prop := ∃ C, ClsIs K e.c C ∧ cls = .ref C ∧ match od with
  | none => e.ks = [] ∧ e.vs = []
  | some dx => ∃ fs : List (Str × V), F dx = some (.xd fs) ∧ fs.map (·.1) = e.ks ∧ Reps K F e.vs (fs.map (·.2))
structure SR (Z : Ent K) (F H : Hp) (σ : St) (δ : DSt) (own : Nat → Nodes) : Prop where
  le : Same F H
  fro : ∀ (b : Addr) (o : HO), F b = some o → Z.f b = some o ∨ Z.h b = none
  old : Same Z.h H
  len : σ.length = δ.length
  at' : ∀ (i : Nat) (sv : SV), δ[i]? = some (some sv) → ∃ v, σ[i]? = some (some v) ∧ Shape K F sv v (own i)
  nod : ∀ i : Nat, (adr (own i)).Nodup
  ok : ∀ (i : Nat) (p : Addr × HO), p ∈ own i → F p.1 = none ∧ Z.h p.1 = none ∧ H p.1 = some p.2
  sep : ∀ (i j : Nat) (p q : Addr × HO), i ≠ j → p ∈ own i → q ∈ own j → p.1 ≠ q.1
inductive RV where
  | tmp (sv : SV) | bw (i : Nat)
structure TmpOk (Z : Ent K) (F H : Hp) (own : Nat → Nodes) (sv : SV) (v : V) (ns : Nodes) : Prop where
  sh : Shape K F sv v ns
  nd : (adr ns).Nodup
  ok : ∀ p ∈ ns, F p.1 = none ∧ Z.h p.1 = none ∧ H p.1 = some p.2
  sep : ∀ (i : Nat) (p q : Addr × HO), p ∈ ns → q ∈ own i → p.1 ≠ q.1
noncomputable def RVRep (Z : Ent K) (F H : Hp) (σ : St) (own : Nat → Nodes) : RV → V → Prop
  | .tmp sv, v => ∃ ns, TmpOk Z F H own sv v ns
  | .bw i, v => σ[i]? = some (some v)

theorem TmpOk.fz {Z : Ent K} {F H : Hp} {own : Nat → Nodes} {d : D} {v : V} (h : Rep K F d v) : TmpOk Z F H own (.fz d) v [] :=
  ⟨.fz h, List.nodup_nil, fun _ h => (nomatch h), fun _ _ _ h => (nomatch h)⟩

theorem same_new {H : Hp} {p : Addr} {o : HO} (h : H p = none) : Same H (upd H p o) := fun b u e => by
  rw [upd_ne fun z => by rw [z, h] at e; cases e]; exact e
theorem SR.grow {Z : Ent K} {F H H' : Hp} {σ : St} {δ : DSt} {own : Nat → Nodes} (s : SR Z F H σ δ own) (h : Same H H') : SR Z F H' σ δ own :=
  ⟨s.le.trans h, s.fro, s.old.trans h, s.len, s.at', s.nod, fun i p hp => let ⟨a, b, c⟩ := s.ok i p hp; ⟨a, b, h _ _ c⟩, s.sep⟩
theorem SR.addF {Z : Ent K} {F H : Hp} {σ : St} {δ : DSt} {own : Nat → Nodes} {ns : Nodes} (s : SR Z F H σ δ own) (nd : (adr ns).Nodup) (hn : ∀ p ∈ ns, F p.1 = none) (hH : ∀ p ∈ ns, H p.1 = some p.2) (hz : ∀ p ∈ ns, Z.h p.1 = none)
    (hs : ∀ (i : Nat) (p q : Addr × HO), p ∈ ns → q ∈ own i → p.1 ≠ q.1) : SR Z (addL F ns) H σ δ own := by
  have sm := addL_same hn
  refine ⟨addL_le nd s.le hH, addL_fro (Z := (Z.h, Z.f)) nd s.fro hz, s.old, s.len, fun i sv e => ?_, s.nod, fun i p hp => ?_, s.sep⟩
  · obtain ⟨v, h1, h2⟩ := s.at' i sv e
    exact ⟨v, h1, h2.mono sm⟩
  · obtain ⟨a, b, c⟩ := s.ok i p hp
    refine ⟨?_, b, c⟩
    rw [addL_old fun hb => ?_]
    · exact a
    · obtain ⟨q, hq, e⟩ := List.mem_map.mp hb
      exact hs i q p hq hp e
theorem SR.settle {Z : Ent K} {F H : Hp} {σ : St} {δ : DSt} {own : Nat → Nodes} {sv : SV} {v : V} {ns : Nodes} (s : SR Z F H σ δ own) (t : TmpOk Z F H own sv v ns) :
    ∃ F1, Same F F1 ∧ SR Z F1 H σ δ own ∧ Rep K F1 sv.toD v :=
  ⟨addL F ns, addL_same fun p hp => (t.ok p hp).1, s.addF t.nd (fun p hp => (t.ok p hp).1) (fun p hp => (t.ok p hp).2.2) (fun p hp => (t.ok p hp).2.1) t.sep, t.sh.rep t.nd fun p hp => (t.ok p hp).1⟩

noncomputable def put (own : Nat → Nodes) (i : Nat) (ns : Nodes) : Nat → Nodes := fun j => if j = i then ns else own j
theorem put_same {own : Nat → Nodes} {i : Nat} {ns : Nodes} : put own i ns i = ns := if_pos rfl
theorem put_ne {own : Nat → Nodes} {i j : Nat} {ns : Nodes} (h : j ≠ i) : put own i ns j = own j := if_neg h
theorem SR.freeze {Z : Ent K} {F H : Hp} {σ : St} {δ : DSt} {own : Nat → Nodes} {i : Nat} {sv : SV} (s : SR Z F H σ δ own) (e : δ[i]? = some (some sv)) :
    ∃ F1 v, Same F F1 ∧ σ[i]? = some (some v) ∧ Rep K F1 sv.toD v ∧ SR Z F1 H σ (δ.set i (some (.fz sv.toD))) (put own i []) := by
  obtain ⟨v, h1, h2⟩ := s.at' i sv e
  have hn : ∀ p ∈ own i, F p.1 = none := fun p hp => (s.ok i p hp).1
  have sm := addL_same hn
  have hi : i < δ.length := (List.getElem?_eq_some_iff.mp e).1
  refine ⟨addL F (own i), v, sm, h1, h2.rep (s.nod i) hn, ⟨addL_le (s.nod i) s.le fun p hp => (s.ok i p hp).2.2, addL_fro (Z := (Z.h, Z.f)) (s.nod i) s.fro fun p hp => (s.ok i p hp).2.1, s.old, by rw [List.length_set]; exact s.len, fun j sw ej => ?_, fun j => ?_, fun j p hp => ?_, fun j k p q hjk hp hq => ?_⟩⟩
  · by_cases hj : j = i
    · subst hj
      rw [List.getElem?_set_self hi] at ej
      cases ej
      rw [put_same]
      exact ⟨v, h1, .fz (h2.rep (s.nod j) hn)⟩
    · rw [List.getElem?_set_ne (Ne.symm hj)] at ej
      obtain ⟨w, g1, g2⟩ := s.at' j sw ej
      rw [put_ne hj]
      exact ⟨w, g1, g2.mono sm⟩
  · by_cases hj : j = i
    · subst hj; rw [put_same]; exact List.nodup_nil
    · rw [put_ne hj]; exact s.nod j
  · by_cases hj : j = i
    · subst hj; rw [put_same] at hp; exact nomatch hp
    · rw [put_ne hj] at hp
      obtain ⟨a, b, c⟩ := s.ok j p hp
      refine ⟨?_, b, c⟩
      rw [addL_old fun hb => ?_]
      · exact a
      · obtain ⟨q, hq, z⟩ := List.mem_map.mp hb
        exact s.sep i j q p (Ne.symm hj) hq hp z
  · by_cases hj : j = i
    · subst hj; rw [put_same] at hp; exact nomatch hp
    · by_cases hk : k = i
      · subst hk; rw [put_same] at hq; exact nomatch hq
      · rw [put_ne hj] at hp
        rw [put_ne hk] at hq
        exact s.sep j k p q hjk hp hq
theorem SR.store {Z : Ent K} {F H : Hp} {σ : St} {δ : DSt} {own : Nat → Nodes} {i : Nat} {sv : SV} {v : V} {ns : Nodes} (s : SR Z F H σ δ own) (t : TmpOk Z F H own sv v ns) (hi : i < σ.length) :
    SR Z F H (σ.set i (some v)) (δ.set i (some sv)) (put own i ns) := by
  refine ⟨s.le, s.fro, s.old, by rw [List.length_set, List.length_set]; exact s.len, fun j sw ej => ?_, fun j => ?_, fun j p hp => ?_, fun j k p q hjk hp hq => ?_⟩
  · by_cases hj : j = i
    · subst hj
      have hd : j < δ.length := by
        have := (List.getElem?_eq_some_iff.mp ej).1
        simpa using this
      rw [List.getElem?_set_self hd] at ej
      cases ej
      rw [put_same, List.getElem?_set_self hi]
      exact ⟨v, rfl, t.sh⟩
    · rw [List.getElem?_set_ne (Ne.symm hj)] at ej
      rw [put_ne hj, List.getElem?_set_ne (Ne.symm hj)]
      exact s.at' j sw ej
  · by_cases hj : j = i
    · subst hj; rw [put_same]; exact t.nd
    · rw [put_ne hj]; exact s.nod j
  · by_cases hj : j = i
    · subst hj; rw [put_same] at hp; exact t.ok p hp
    · rw [put_ne hj] at hp; exact s.ok j p hp
  · by_cases hj : j = i
    · subst hj
      rw [put_same] at hp
      rw [put_ne (Ne.symm hjk)] at hq
      exact t.sep k p q hp hq
    · by_cases hk : k = i
      · subst hk
        rw [put_same] at hq
        rw [put_ne hj] at hp
        exact Ne.symm (t.sep j q p hq hp)
      · rw [put_ne hj] at hp
        rw [put_ne hk] at hq
        exact s.sep j k p q hjk hp hq
theorem SR.change {Z : Ent K} {F H : Hp} {σ : St} {δ : DSt} {own : Nat → Nodes} {i : Nat} {sv sv' : SV} {a : Addr} {o o' : HO} {v : V} {ns' : Nodes} (s : SR Z F H σ δ own) (e : δ[i]? = some (some sv)) (hv : σ[i]? = some (some v))
    (ha : (a, o) ∈ own i) (hs : Shape K F sv' v ns') (hns : ∀ p ∈ ns', p = (a, o') ∨ (p ∈ own i ∧ p.1 ≠ a)) (nd : (adr ns').Nodup) : SR Z F (upd H a o') σ (δ.set i (some sv')) (put own i ns') := by
  obtain ⟨fa, ha0, hHa⟩ := s.ok i (a, o) ha
  have hi : i < δ.length := (List.getElem?_eq_some_iff.mp e).1
  refine ⟨fun b u eb => ?_, s.fro, fun b u eb => ?_, by rw [List.length_set]; exact s.len, fun j sw ej => ?_, fun j => ?_, fun j p hp => ?_, fun j k p q hjk hp hq => ?_⟩
  · rw [upd_ne fun z => by rw [z] at eb; rw [fa] at eb; cases eb]; exact s.le b u eb
  · rw [upd_ne fun z => by rw [z] at eb; rw [ha0] at eb; cases eb]; exact s.old b u eb
  · by_cases hj : j = i
    · subst hj
      rw [List.getElem?_set_self hi] at ej
      cases ej
      rw [put_same]
      exact ⟨v, hv, hs⟩
    · rw [List.getElem?_set_ne (Ne.symm hj)] at ej
      rw [put_ne hj]
      exact s.at' j sw ej
  · by_cases hj : j = i
    · subst hj; rw [put_same]; exact nd
    · rw [put_ne hj]; exact s.nod j
  · by_cases hj : j = i
    · subst hj
      rw [put_same] at hp
      rcases hns p hp with z | ⟨z, ne⟩
      · subst z; exact ⟨fa, ha0, upd_same⟩
      · obtain ⟨x, y, w⟩ := s.ok j p z
        exact ⟨x, y, by rw [upd_ne ne]; exact w⟩
    · rw [put_ne hj] at hp
      obtain ⟨x, y, w⟩ := s.ok j p hp
      exact ⟨x, y, by rw [upd_ne (s.sep j i p (a, o) hj hp ha)]; exact w⟩
  · have own' : ∀ r ∈ ns', ∃ r' ∈ own i, r.1 = r'.1 := fun r hr => by
      rcases hns r hr with z | ⟨z, _⟩
      · subst z; exact ⟨(a, o), ha, rfl⟩
      · exact ⟨r, z, rfl⟩
    by_cases hj : j = i
    · subst hj
      rw [put_same] at hp
      rw [put_ne (Ne.symm hjk)] at hq
      obtain ⟨r', hr', er⟩ := own' p hp
      rw [er]
      exact s.sep j k r' q hjk hr' hq
    · by_cases hk : k = i
      · subst hk
        rw [put_same] at hq
        rw [put_ne hj] at hp
        obtain ⟨r', hr', er⟩ := own' q hq
        rw [er]
        exact s.sep j k p r' hjk hp hr'
      · rw [put_ne hj] at hp
        rw [put_ne hk] at hq
        exact s.sep j k p q hjk hp hq
end DL

namespace DL
open PySem L2
variable {K : PySem.W.Frag}

noncomputable abbrev FE := DSt → Option (RV × DSt)
noncomputable abbrev FT := DSt → Option (Bool × DSt)
noncomputable abbrev FA := DSt → Option (List RV × DSt)
noncomputable abbrev FD := DSt → Option (List D × DSt)
@[simp] noncomputable def SV.nested : SV → Bool
  | .oN _ _ => true
  | .oL _ _ => true
  | _ => false
@[simp] noncomputable def rdv : RV → DSt → Option D
  | .tmp sv, _ => some sv.toD
  | .bw i, δ => (δ[i]?.join).bind fun sv => if sv.nested then none else some sv.toD
@[simp] noncomputable def frz : RV → DSt → Option (D × DSt)
  | .tmp sv, δ => some (sv.toD, δ)
  | .bw i, δ => (δ[i]?.join).bind fun sv => some (sv.toD, δ.set i (some (.fz sv.toD)))
theorem join_some {δ : DSt} {i : Nat} {sv : SV} (h : δ[i]?.join = some sv) : δ[i]? = some (some sv) := by
  cases e : δ[i]? with
  | none => rw [e] at h; cases h
  | some o => rw [e] at h; cases o with
    | none => cases h
    | some s => cases h; rfl

noncomputable def liftE (Z : Ent K) (f : FE) : TE := fun σ H Q => ∃ F δ own rv δ', SR Z F H σ δ own ∧ f δ = some (rv, δ') ∧
  ∀ v H' F' own', Same H H' → Same F F' → SR Z F' H' σ δ' own' → RVRep Z F' H' σ own' rv v → Q v H'
noncomputable def liftT (Z : Ent K) (f : FT) : TT := fun σ H Q => ∃ F δ own b δ', SR Z F H σ δ own ∧ f δ = some (b, δ') ∧
  ∀ H' F' own', Same H H' → Same F F' → SR Z F' H' σ δ' own' → Q b H'
noncomputable def RVS (K : PySem.W.Frag) (F : Hp) (σ : St) : RV → V → Prop
  | .tmp sv, v => Rep K F sv.toD v
  | .bw i, v => σ[i]? = some (some v)
inductive RVSs (K : PySem.W.Frag) (F : Hp) (σ : St) : List RV → List V → Prop where
  | nil : RVSs K F σ [] []
  | cons {rv : RV} {v : V} {rvs : List RV} {vs : List V} (h : RVS K F σ rv v) (t : RVSs K F σ rvs vs) : RVSs K F σ (rv :: rvs) (v :: vs)
noncomputable def liftA (Z : Ent K) (f : FA) : TA := fun σ H Q => ∃ F δ own rvs δ', SR Z F H σ δ own ∧ f δ = some (rvs, δ') ∧
  ∀ vs H' F' own', Same H H' → Same F F' → SR Z F' H' σ δ' own' → RVSs K F' σ rvs vs → Q vs H'
noncomputable def liftD (Z : Ent K) (f : FD) : TA := fun σ H Q => ∃ F δ own ds δ', SR Z F H σ δ own ∧ f δ = some (ds, δ') ∧
  ∀ vs H' F' own', Same H H' → Same F F' → SR Z F' H' σ δ' own' → Reps K F' ds vs → Q vs H'

section
variable {Z : Ent K} {F H F' H' : Hp} {σ : St} {δ δ' : DSt} {own : Nat → Nodes} {rv : RV} {v : V} {d : D} {Q : VK}
theorem RVS.mono (s : Same F F') (h : RVS K F σ rv v) : RVS K F' σ rv v := by
  cases rv with
  | tmp sv => exact Rep.mono s h
  | bw i => exact h
theorem SR.settleR (s : SR Z F H σ δ own) (h : RVRep Z F H σ own rv v) : ∃ F1, Same F F1 ∧ SR Z F1 H σ δ own ∧ RVS K F1 σ rv v := by
  cases rv with
  | tmp sv => obtain ⟨ns, t⟩ := h; exact s.settle t
  | bw i => exact ⟨F, Same.refl F, s, h⟩
theorem SR.frzR (s : SR Z F H σ δ own) (h : RVS K F σ rv v) (e : frz rv δ = some (d, δ')) : ∃ F1 own1, Same F F1 ∧ SR Z F1 H σ δ' own1 ∧ Rep K F1 d v := by
  cases rv with
  | tmp sv => cases e; exact ⟨F, own, Same.refl F, s, h⟩
  | bw i =>
    obtain ⟨sv, e1, e2⟩ := Option.bind_eq_some_iff.mp e
    cases e2
    obtain ⟨F1, w, h1, h2, h3, h4⟩ := s.freeze (join_some e1)
    have h' : σ[i]? = some (some v) := h
    rw [h'] at h2; cases h2
    exact ⟨F1, _, h1, h4, h3⟩

noncomputable def RepN (K : PySem.W.Frag) (F H : Hp) (d : D) (v : V) : Prop := ∃ sv ns, sv.toD = d ∧ sv.nested = false ∧ Shape K F sv v ns ∧ ∀ p ∈ ns, H p.1 = some p.2
theorem RepN.of (h : Rep K F d v) : RepN K F H d v := ⟨.fz d, [], rfl, rfl, .fz h, fun _ h => nomatch h⟩
theorem SR.rd (s : SR Z F H σ δ own) (h : RVS K F σ rv v) (e : rdv rv δ = some d) : RepN K F H d v := by
  cases rv with
  | tmp sv => cases e; exact RepN.of h
  | bw i =>
    obtain ⟨sv, e1, e2⟩ := Option.bind_eq_some_iff.mp e
    cases hn : sv.nested with
    | true => rw [hn] at e2; cases e2
    | false =>
      rw [hn] at e2
      cases e2
      obtain ⟨w, h1, h2⟩ := s.at' i sv (join_some e1)
      have h' : σ[i]? = some (some v) := h
      rw [h'] at h1; cases h1
      exact ⟨sv, own i, rfl, hn, h2, fun p hp => (s.ok i p hp).2.2⟩
inductive RepNs (K : PySem.W.Frag) (F H : Hp) : List D → List V → Prop where
  | nil : RepNs K F H [] []
  | cons {d : D} {v : V} {ds : List D} {vs : List V} (h : RepN K F H d v) (t : RepNs K F H ds vs) : RepNs K F H (d :: ds) (v :: vs)
theorem RepN.non (h : RepN K F H .non v) : v = .non := by
  obtain ⟨sv, ns, e, n, sh, hp⟩ := h
  cases sh with
  | fz r => cases e; cases r; rfl
  | ol r => cases e
  | oK e' r => cases e
  | oT kb e' r => cases e
  | oN e' r => cases n
  | oL _ r => cases n
theorem RepN.bl {b : Bool} (h : RepN K F H (.bl b) v) : v = .bl b := by
  obtain ⟨sv, ns, e, n, sh, hp⟩ := h
  cases sh with
  | fz r => cases e; cases r; rfl
  | ol r => cases e
  | oK e' r => cases e
  | oT kb e' r => cases e
  | oN e' r => cases n
  | oL _ r => cases n
theorem RepN.int {i : Int} (h : RepN K F H (.int i) v) : v = .int i := by
  obtain ⟨sv, ns, e, n, sh, hp⟩ := h
  cases sh with
  | fz r => cases e; cases r; rfl
  | ol r => cases e
  | oK e' r => cases e
  | oT kb e' r => cases e
  | oN e' r => cases n
  | oL _ r => cases n
theorem RepN.str {x : Str} (h : RepN K F H (.str x) v) : v = .str x := by
  obtain ⟨sv, ns, e, n, sh, hp⟩ := h
  cases sh with
  | fz r => cases e; cases r; rfl
  | ol r => cases e
  | oK e' r => cases e
  | oT kb e' r => cases e
  | oN e' r => cases n
  | oL _ r => cases n
theorem RepN.tup {xs : List D} (le : Same F H) (h : RepN K F H (.tup xs) v) : ∃ a vs, v = .ref a ∧ SqT K H a vs ∧ Reps K F xs vs := by
  obtain ⟨sv, ns, e, n, sh, hp⟩ := h
  cases sh with
  | fz r => cases e; cases r with | tup h r => exact ⟨_, _, rfl, sqT_mono le (tupSq h), r⟩
  | ol r => cases e
  | oK e' r => cases e
  | oT kb e' r => cases e
  | oN e' r => cases n
  | oL _ r => cases n
theorem RepN.lst {xs : List D} (le : Same F H) (h : RepN K F H (.lst xs) v) : ∃ a vs, v = .ref a ∧ SqL K H a vs ∧ Reps K F xs vs := by
  obtain ⟨sv, ns, e, n, sh, hp⟩ := h
  cases sh with
  | fz r => cases e; cases r with | lst h r => exact ⟨_, _, rfl, sqL_mono le h, r⟩
  | ol r => cases e; exact ⟨_, _, rfl, .inl (.inl (hp _ List.mem_cons_self)), r⟩
  | oK e' r => cases e
  | oT kb e' r => cases e
  | oN e' r => cases n
  | oL _ r => cases n
theorem RepN.dK {ks : List Key} {ds : List D} (le : Same F H) (h : RepN K F H (.dK ks ds) v) : ∃ a kvs, v = .ref a ∧ HK H a kvs ∧ kvs.map (·.1) = ks ∧ Reps K F ds (kvs.map (·.2)) := by
  obtain ⟨sv, ns, e, n, sh, hp⟩ := h
  cases sh with
  | fz r => cases e; cases r with | dK h e r => exact ⟨_, _, rfl, ⟨_, le _ _ h⟩, e, r⟩
  | ol r => cases e
  | oK e' r => cases e; exact ⟨_, _, rfl, ⟨_, hp _ List.mem_cons_self⟩, e', r⟩
  | oT kb e' r => cases e
  | oN e' r => cases n
  | oL _ r => cases n
theorem RepN.dT {ks : List (List Key)} {ds : List D} (le : Same F H) (h : RepN K F H (.dT ks ds) v) : ∃ a kvs, v = .ref a ∧ HTt H a kvs ∧ kvs.map (·.1) = ks ∧ Reps K F ds (kvs.map (·.2)) := by
  obtain ⟨sv, ns, e, n, sh, hp⟩ := h
  cases sh with
  | fz r => cases e; cases r with | dT h kb e r => exact ⟨_, _, rfl, ⟨_, _, le _ _ h⟩, e, r⟩
  | ol r => cases e
  | oK e' r => cases e
  | oT kb e' r => cases e; exact ⟨_, _, rfl, ⟨_, _, hp _ List.mem_cons_self⟩, e', r⟩
  | oN e' r => cases n
  | oL _ r => cases n
end

theorem nd1 {a : Addr} : ([a] : List Addr).Nodup := List.nodup_cons.mpr ⟨fun h => (nomatch h), List.nodup_nil⟩
noncomputable def Fin (Z : Ent K) (F H : Hp) (σ : St) (δ : DSt) (own : Nat → Nodes) (sv : SV) (Q : VK) : Prop :=
  ∀ v H' F' ns, Same H H' → Same F F' → SR Z F' H' σ δ own → TmpOk Z F' H' own sv v ns → Q v H'
section
variable {Z : Ent K} {F H : Hp} {σ : St} {δ : DSt} {own : Nat → Nodes} {Q : VK}
theorem Fin.fz {d : D} {v : V} (f : Fin Z F H σ δ own (.fz d) Q) (s : SR Z F H σ δ own) (h : Rep K F d v) : Q v H := f v H F [] (Same.refl H) (Same.refl F) s (.fz h)
theorem Fin.one {sv : SV} {o : HO} {p : Addr} (f : Fin Z F H σ δ own sv Q) (s : SR Z F H σ δ own) (sh : Shape K F sv (.ref p) [(p, o)]) (hp : H p = none) : Q (.ref p) (upd H p o) := by
  have sm := same_new (o := o) hp
  refine f (.ref p) (upd H p o) F [(p, o)] sm (Same.refl F) (s.grow sm) ⟨sh, nd1, fun q hq => ?_, fun i q r hq hr => ?_⟩
  · obtain rfl := List.mem_singleton.mp hq
    exact ⟨s.le.free hp, s.old.free hp, upd_same⟩
  · obtain rfl := List.mem_singleton.mp hq
    intro e
    have e' : p = r.1 := e
    have z := (s.ok i r hr).2.2
    rw [← e', hp] at z; cases z
theorem Fin.lst {xs : List D} {vs : List V} {p : Addr} (f : Fin Z F H σ δ own (.ol xs) Q) (s : SR Z F H σ δ own) (r : Reps K F xs vs) (hp : H p = none) : Q (.ref p) (upd H p (.lst vs)) := f.one s (.ol r) hp
theorem Fin.tup {xs : List D} {vs : List V} {p : Addr} (f : Fin Z F H σ δ own (.fz (.tup xs)) Q) (s : SR Z F H σ δ own) (r : Reps K F xs vs) (hp : H p = none) : Q (.ref p) (upd H p (.tup vs)) := by
  have sm := same_new (o := .tup vs) hp
  have sF : Same F (addL F [(p, .tup vs)]) := addL_same fun q hq => by obtain rfl := List.mem_singleton.mp hq; exact s.le.free hp
  refine f (.ref p) (upd H p (.tup vs)) (addL F [(p, .tup vs)]) [] sm sF ?_ (.fz (.tup upd_same (r.mono sF)))
  refine (s.grow sm).addF (nd1) (fun q hq => ?_) (fun q hq => ?_) (fun q hq => ?_) fun i q u hq hu => ?_
  · obtain rfl := List.mem_singleton.mp hq; exact s.le.free hp
  · obtain rfl := List.mem_singleton.mp hq; exact upd_same
  · obtain rfl := List.mem_singleton.mp hq; exact s.old.free hp
  · obtain rfl := List.mem_singleton.mp hq
    intro e
    have e' : p = u.1 := e
    have z := (s.ok i u hu).2.2
    rw [← e', hp] at z; cases z
end

theorem shape_fz {F : Hp} {d : D} {v : V} {ns : Nodes} (h : Shape K F (.fz d) v ns) : Rep K F d v := by
  cases h with
  | fz r => exact r
section
variable {Z : Ent K} {H : Hp} {σ : St} {Q : VK}
@[simp] noncomputable def nameF (i : Nat) : FE := fun δ => match δ[i]? with
  | some (some (.fz d)) => some (.tmp (.fz d), δ)
  | some (some _) => some (.bw i, δ)
  | _ => none
theorem l_var {i : Nat} (h : liftE Z (nameF i) σ H Q) : tVar i σ H Q := by
  obtain ⟨F, δ, own, rv, δ', s, e, k⟩ := h
  unfold nameF at e
  split at e
  · rename_i d hd
    cases e
    obtain ⟨v, h1, h2⟩ := s.at' i _ hd
    exact ⟨v, h1, k v H F own (Same.refl H) (Same.refl F) s ⟨[], .fz (shape_fz h2)⟩⟩
  · rename_i sv hsv hd
    cases e
    obtain ⟨v, h1, h2⟩ := s.at' i _ hd
    exact ⟨v, h1, k v H F own (Same.refl H) (Same.refl F) s h1⟩
  · cases e
@[simp] noncomputable def constF (d : D) : FE := fun δ => some (.tmp (.fz d), δ)
theorem l_const {d : D} {v : V} (hr : ∀ F, Rep K F d v) (h : liftE Z (constF d) σ H Q) : tC v σ H Q := by
  obtain ⟨F, δ, own, rv, δ', s, e, k⟩ := h
  cases e
  exact k v H F own (Same.refl H) (Same.refl F) s ⟨[], .fz (hr F)⟩

@[simp] noncomputable def argNil : FA := fun δ => some ([], δ)
@[simp] noncomputable def argCons (fe : FE) (fa : FA) : FA := fun δ => (fe δ).bind fun p => (fa p.2).bind fun q => some (p.1 :: q.1, q.2)
theorem l_argNil {R : List V → Hp → Prop} (h : liftA Z argNil σ H R) : tNil σ H R := by
  obtain ⟨F, δ, own, rvs, δ', s, e, k⟩ := h
  cases e
  exact k [] H F own (Same.refl H) (Same.refl F) s .nil
theorem l_argCons {fe : FE} {fa : FA} {R : List V → Hp → Prop} (h : liftA Z (argCons fe fa) σ H R) : tCons (liftE Z fe) (liftA Z fa) σ H R := by
  obtain ⟨F, δ, own, rvs, δ', s, e, k⟩ := h
  obtain ⟨⟨rv, δ1⟩, e1, e2⟩ := Option.bind_eq_some_iff.mp e
  obtain ⟨⟨rr, δ2⟩, e3, e4⟩ := Option.bind_eq_some_iff.mp e2
  cases e4
  refine ⟨F, δ, own, rv, δ1, s, e1, fun v H1 F1 own1 sH sF s1 r1 => ?_⟩
  obtain ⟨F2, sF2, s2, r2⟩ := s1.settleR r1
  exact ⟨F2, δ1, own1, rr, δ2, s2, e3, fun vs H3 F3 own3 sH3 sF3 s3 r3 => k _ H3 F3 own3 (sH.trans sH3) (sF.trans (sF2.trans sF3)) s3 (.cons (r2.mono sF3) r3)⟩
@[simp] noncomputable def readAll : List RV → DSt → Option (List D)
  | [], _ => some []
  | rv :: r, δ => (rdv rv δ).bind fun d => (readAll r δ).bind fun ds => some (d :: ds)
theorem SR.rdAll {F : Hp} {δ : DSt} {own : Nat → Nodes} (s : SR Z F H σ δ own) : ∀ {rvs : List RV} {vs : List V} {ds : List D}, RVSs K F σ rvs vs → readAll rvs δ = some ds → RepNs K F H ds vs
  | _, _, _, .nil, e => by cases e; exact .nil
  | _, _, _, .cons h t, e => by
    obtain ⟨d, e1, e2⟩ := Option.bind_eq_some_iff.mp e
    obtain ⟨ds, e3, e4⟩ := Option.bind_eq_some_iff.mp e2
    cases e4
    exact .cons (s.rd h e1) (s.rdAll t e3)
@[simp] noncomputable def primF (g : List D → Option SV) (fa : FA) : FE := fun δ => (fa δ).bind fun p => (readAll p.1 p.2).bind fun ds => (g ds).bind fun sv => some (.tmp sv, p.2)
noncomputable def PrimN (Z : Ent K) (r : List V → Hp → VK → Prop) (g : List D → Option SV) : Prop :=
  ∀ (F H : Hp) (σ : St) (δ : DSt) (own : Nat → Nodes) (vs : List V) (ds : List D) (sv : SV) (Q : VK), SR Z F H σ δ own → RepNs K F H ds vs → g ds = some sv → Fin Z F H σ δ own sv Q → r vs H Q
theorem l_prim {r : List V → Hp → VK → Prop} {g : List D → Option SV} {fa : FA} (hg : PrimN Z r g) (h : liftE Z (primF g fa) σ H Q) : tCB r (liftA Z fa) σ H Q := by
  obtain ⟨F, δ, own, rv, δ', s, e, k⟩ := h
  obtain ⟨⟨rvs, δ1⟩, e1, e2⟩ := Option.bind_eq_some_iff.mp e
  obtain ⟨ds, e3, e4⟩ := Option.bind_eq_some_iff.mp e2
  obtain ⟨sv, e5, e6⟩ := Option.bind_eq_some_iff.mp e4
  cases e6
  refine ⟨F, δ, own, rvs, δ1, s, e1, fun vs H1 F1 own1 sH sF s1 r1 => ?_⟩
  exact hg F1 H1 σ δ1 own1 vs ds sv Q s1 (s1.rdAll r1 e3) e5 fun v H2 F2 ns sH2 sF2 s2 t => k v H2 F2 own1 (sH.trans sH2) (sF.trans sF2) s2 ⟨ns, t⟩
@[simp] noncomputable def g2 (g : D → D → Option SV) : List D → Option SV
  | [x, y] => g x y
  | _ => none
@[simp] noncomputable def binF (g : D → D → Option SV) (fa fb : FE) : FE := primF (g2 g) (argCons fa (argCons fb argNil))
noncomputable def Prim2 (Z : Ent K) (r : R2) (g : D → D → Option SV) : Prop :=
  ∀ (F H : Hp) (σ : St) (δ : DSt) (own : Nat → Nodes) (x y : V) (d1 d2 : D) (sv : SV) (Q : VK), SR Z F H σ δ own → RepN K F H d1 x → RepN K F H d2 y → g d1 d2 = some sv → Fin Z F H σ δ own sv Q → r x y H Q
theorem l_bin {r : R2} {g : D → D → Option SV} {fa fb : FE} (hg : Prim2 Z r g) (h : liftE Z (binF g fa fb) σ H Q) : tOp r (liftE Z fa) (liftE Z fb) σ H Q := by
  have hN : PrimN Z (fun vs H Q => ∃ x y, vs = [x, y] ∧ r x y H Q) (g2 g) := by
    intro F H σ δ own vs ds sv Q s rs e f
    cases rs with
    | nil => cases e
    | cons h1 t1 =>
      cases t1 with
      | nil => cases e
      | cons h2 t2 =>
        cases t2 with
        | nil => exact ⟨_, _, rfl, hg F H σ δ own _ _ _ _ sv Q s h1 h2 e f⟩
        | cons h3 t3 => cases e
  obtain ⟨F, δ, own, rv, δ', s, e, k⟩ := l_prim hN h
  obtain ⟨⟨rv1, δ1⟩, e1, e2⟩ := Option.bind_eq_some_iff.mp e
  obtain ⟨⟨rr, δ2⟩, e3, e4⟩ := Option.bind_eq_some_iff.mp e2
  cases e4
  obtain ⟨⟨rv2, δ3⟩, e5, e6⟩ := Option.bind_eq_some_iff.mp e3
  obtain ⟨⟨rr', δ4⟩, e7, e8⟩ := Option.bind_eq_some_iff.mp e6
  cases e8
  cases e7
  refine ⟨F, δ, own, rv1, δ1, s, e1, fun v H1 F1 own1 sH sF s1 r1 => ?_⟩
  obtain ⟨F2, sF2, s2, r2⟩ := s1.settleR r1
  refine ⟨F2, δ1, own1, rv2, δ3, s2, e5, fun u H3 F3 own3 sH3 sF3 s3 r3 => ?_⟩
  obtain ⟨F4, sF4, s4, r4⟩ := s3.settleR r3
  obtain ⟨x, y, exy, q⟩ := k [v, u] H3 F4 own3 (sH.trans sH3) (sF.trans (sF2.trans (sF3.trans sF4))) s4 (.cons (r2.mono (sF3.trans sF4)) (.cons r4 .nil))
  injection exy with ex ey
  injection ey with ey _
  subst ex ey
  exact q
@[simp] noncomputable def unF (g : D → Option SV) (fa : FE) : FE := primF (fun | [x] => g x | _ => none) (argCons fa argNil)
noncomputable def Prim1 (Z : Ent K) (r : V → Hp → VK → Prop) (g : D → Option SV) : Prop :=
  ∀ (F H : Hp) (σ : St) (δ : DSt) (own : Nat → Nodes) (x : V) (d : D) (sv : SV) (Q : VK), SR Z F H σ δ own → RepN K F H d x → g d = some sv → Fin Z F H σ δ own sv Q → r x H Q
theorem l_un {r : V → Hp → VK → Prop} {g : D → Option SV} {fa : FE} (hg : Prim1 Z r g) (h : liftE Z (unF g fa) σ H Q) : tUn r (liftE Z fa) σ H Q := by
  obtain ⟨F, δ, own, rv, δ', s, e, k⟩ := h
  obtain ⟨⟨rvs, δ1⟩, e1, e2⟩ := Option.bind_eq_some_iff.mp e
  obtain ⟨ds, e3, e4⟩ := Option.bind_eq_some_iff.mp e2
  obtain ⟨sv, e5, e6⟩ := Option.bind_eq_some_iff.mp e4
  cases e6
  obtain ⟨⟨rv1, δ2⟩, e7, e8⟩ := Option.bind_eq_some_iff.mp e1
  obtain ⟨⟨rr', δ4⟩, e9, e10⟩ := Option.bind_eq_some_iff.mp e8
  cases e10
  cases e9
  obtain ⟨d, e11, e12⟩ := Option.bind_eq_some_iff.mp e3
  cases e12
  refine ⟨F, δ, own, rv1, δ2, s, e7, fun v H1 F1 own1 sH sF s1 r1 => ?_⟩
  obtain ⟨F2, sF2, s2, r2⟩ := s1.settleR r1
  exact hg F2 H1 σ δ2 own1 v d sv Q s2 (s2.rd r2 e11) e5 fun v H2 F2' ns sH2 sF2' s2 t => k v H2 F2' own1 (sH.trans sH2) (sF.trans (sF2.trans sF2')) s2 ⟨ns, t⟩
@[simp] noncomputable def dispNil : FD := fun δ => some ([], δ)
@[simp] noncomputable def dispCons (fe : FE) (fd : FD) : FD := fun δ => (fe δ).bind fun p => (frz p.1 p.2).bind fun q => (fd q.2).bind fun r => some (q.1 :: r.1, r.2)
theorem l_dispNil {R : List V → Hp → Prop} (h : liftD Z dispNil σ H R) : tNil σ H R := by
  obtain ⟨F, δ, own, rvs, δ', s, e, k⟩ := h
  cases e
  exact k [] H F own (Same.refl H) (Same.refl F) s .nil
theorem l_dispCons {fe : FE} {fd : FD} {R : List V → Hp → Prop} (h : liftD Z (dispCons fe fd) σ H R) : tCons (liftE Z fe) (liftD Z fd) σ H R := by
  obtain ⟨F, δ, own, rvs, δ', s, e, k⟩ := h
  obtain ⟨⟨rv, δ1⟩, e1, e2⟩ := Option.bind_eq_some_iff.mp e
  obtain ⟨⟨d, δ2⟩, e3, e4⟩ := Option.bind_eq_some_iff.mp e2
  obtain ⟨⟨ds, δ3⟩, e5, e6⟩ := Option.bind_eq_some_iff.mp e4
  cases e6
  refine ⟨F, δ, own, rv, δ1, s, e1, fun v H1 F1 own1 sH sF s1 r1 => ?_⟩
  obtain ⟨F2, sF2, s2, r2⟩ := s1.settleR r1
  obtain ⟨F3, own3, sF3, s3, r3⟩ := s2.frzR r2 e3
  exact ⟨F3, δ2, own3, ds, δ3, s3, e5, fun vs H4 F4 own4 sH4 sF4 s4 r4 => k _ H4 F4 own4 (sH.trans sH4) (sF.trans (sF2.trans (sF3.trans sF4))) s4 (.cons (r3.mono sF4) r4)⟩
@[simp] noncomputable def tupF (fd : FD) : FE := fun δ => (fd δ).bind fun p => if p.1.length ≤ PySem.sizeLine then some (.tmp (.fz (.tup p.1)), p.2) else none
@[simp] noncomputable def lstF (fd : FD) : FE := fun δ => (fd δ).bind fun p => if p.1.length ≤ PySem.sizeLine then some (.tmp (.ol p.1), p.2) else none
theorem l_tup {fd : FD} (h : liftE Z (tupF fd) σ H Q) : tTup (liftD Z fd) σ H Q := by
  obtain ⟨F, δ, own, rv, δ', s, e, k⟩ := h
  obtain ⟨⟨ds, δ1⟩, e1, e2⟩ := Option.bind_eq_some_iff.mp e
  by_cases hz : ds.length ≤ PySem.sizeLine
  · rw [if_pos hz] at e2
    cases e2
    refine ⟨F, δ, own, ds, δ1, s, e1, fun vs H1 F1 own1 sH sF s1 r1 => ⟨by rw [← r1.length]; exact hz, fun p hp => ?_⟩⟩
    exact Fin.tup (fun v H2 F2 ns a b c t => k v H2 F2 own1 (sH.trans a) (sF.trans b) c ⟨ns, t⟩) s1 r1 hp
  · rw [if_neg hz] at e2; cases e2
theorem l_lst {fd : FD} (h : liftE Z (lstF fd) σ H Q) : tLst (liftD Z fd) σ H Q := by
  obtain ⟨F, δ, own, rv, δ', s, e, k⟩ := h
  obtain ⟨⟨ds, δ1⟩, e1, e2⟩ := Option.bind_eq_some_iff.mp e
  by_cases hz : ds.length ≤ PySem.sizeLine
  · rw [if_pos hz] at e2
    cases e2
    refine ⟨F, δ, own, ds, δ1, s, e1, fun vs H1 F1 own1 sH sF s1 r1 => ⟨by rw [← r1.length]; exact hz, fun p hp => ?_⟩⟩
    exact Fin.lst (fun v H2 F2 ns a b c t => k v H2 F2 own1 (sH.trans a) (sF.trans b) c ⟨ns, t⟩) s1 r1 hp
  · rw [if_neg hz] at e2; cases e2
end

@[simp] noncomputable def SV.scal : SV → Bool
  | .fz .non => true
  | .fz (.bl _) => true
  | .fz (.int _) => true
  | .fz (.str _) => true
  | _ => false
noncomputable def spOf (K : PySem.W.Frag) (n : Nat) (g : List D → Option SV) : Sp := fun vs H Q _ => ∃ F ds sv, Same F H ∧ Reps K F ds vs ∧ ds.length = n ∧ g ds = some sv ∧
  ∀ v H' F' ns, Same H H' → Same F F' → Same F' H' → (∀ (b : Addr) (o : HO), F' b = some o → F b = some o ∨ H b = none) → Shape K F' sv v ns → (adr ns).Nodup → (∀ p ∈ ns, F' p.1 = none ∧ H p.1 = none ∧ H' p.1 = some p.2) → Q v H'
@[simp] noncomputable def frzAll : List RV → DSt → Option (List D × DSt)
  | [], δ => some ([], δ)
  | rv :: r, δ => (frz rv δ).bind fun p => (frzAll r p.2).bind fun q => some (p.1 :: q.1, q.2)
theorem RVSs.mono {F F' : Hp} {σ : St} (s : Same F F') : ∀ {rvs : List RV} {vs : List V}, RVSs K F σ rvs vs → RVSs K F' σ rvs vs
  | _, _, .nil => .nil
  | _, _, .cons h t => .cons (h.mono s) (t.mono s)
section
variable {Z : Ent K} {H : Hp} {σ : St} {Q : VK}
theorem SR.frzAll {F : Hp} {δ : DSt} {own : Nat → Nodes} : ∀ {rvs : List RV} {vs : List V} {ds : List D} {δ' : DSt} {F : Hp} {δ : DSt} {own : Nat → Nodes}, SR Z F H σ δ own → RVSs K F σ rvs vs → DL.frzAll rvs δ = some (ds, δ') →
    ∃ F1 own1, Same F F1 ∧ SR Z F1 H σ δ' own1 ∧ Reps K F1 ds vs
  | _, _, _, _, F, _, own, s, .nil, e => by cases e; exact ⟨F, own, Same.refl F, s, .nil⟩
  | _, _, _, _, F, _, own, s, .cons h t, e => by
    obtain ⟨⟨d, δ1⟩, e1, e2⟩ := Option.bind_eq_some_iff.mp e
    obtain ⟨⟨ds, δ2⟩, e3, e4⟩ := Option.bind_eq_some_iff.mp e2
    cases e4
    obtain ⟨F1, own1, sF1, s1, r1⟩ := s.frzR h e1
    obtain ⟨F2, own2, sF2, s2, r2⟩ := SR.frzAll (own := own) (F := F) (δ := δ1) s1 (t.mono sF1) e3
    exact ⟨F2, own2, sF1.trans sF2, s2, .cons (r1.mono sF2) r2⟩
@[simp] noncomputable def callF (n : Nat) (g : List D → Option SV) (fa : FA) : FE := fun δ => (fa δ).bind fun p => (DL.frzAll p.1 p.2).bind fun q => if q.1.length = n then (g q.1).bind fun sv => some (.tmp sv, if sv.scal then p.2 else q.2) else none
theorem scal_rep {F F' : Hp} {sv : SV} {v : V} {ns : Nodes} (h : sv.scal = true) (sh : Shape K F sv v ns) : ns = [] ∧ Shape K F' sv v [] := by
  cases sh with
  | fz r => 
    refine ⟨rfl, .fz ?_⟩
    cases r with
    | non => exact .non
    | bl b => exact .bl b
    | int i => exact .int i
    | str x => exact .str x
    | tup _ _ => cases h
    | lst _ _ => cases h
    | dK _ _ _ => cases h
    | dT _ _ _ _ => cases h
    | exc _ _ => cases h
    | exd _ _ _ _ _ => cases h
  | ol _ => cases h
  | oK _ _ => cases h
  | oT _ _ _ => cases h
  | oN _ _ => cases h
  | oL _ _ => cases h
theorem l_call {n : Nat} {g : List D → Option SV} {fa : FA} {E : XK} (h : liftE Z (callF n g fa) σ H Q) : tCall (spOf K n g) [] E (liftA Z fa) σ H Q := by
  obtain ⟨F, δ, own, rv, δ', s, e, k⟩ := h
  obtain ⟨⟨rvs, δ1⟩, e1, e2⟩ := Option.bind_eq_some_iff.mp e
  obtain ⟨⟨ds, δ2⟩, e3, e4⟩ := Option.bind_eq_some_iff.mp e2
  by_cases hn : ds.length = n
  · rw [if_pos hn] at e4
    obtain ⟨sv, e5, e6⟩ := Option.bind_eq_some_iff.mp e4
    refine ⟨F, δ, own, rvs, δ1, s, e1, fun vs H1 F1 own1 sH sF s1 r1 => ?_⟩
    obtain ⟨F2, own2, sF2, s2, r2⟩ := s1.frzAll (own := own) (F := F) (δ := δ) r1 e3
    rw [List.append_nil]
    refine ⟨F2, ds, sv, s2.le, r2, hn, e5, fun v H3 F3 ns sH3 sF3 le3 fro3 sh nd ok => ?_⟩
    by_cases hs : sv.scal = true
    · rw [if_pos hs] at e6
      cases e6
      obtain ⟨_, sh'⟩ := scal_rep (F' := F1) hs sh
      exact k v H3 F1 own1 (sH.trans sH3) sF (s1.grow sH3) ⟨[], sh', List.nodup_nil, fun _ h => (nomatch h), fun _ _ _ h => (nomatch h)⟩
    · rw [if_neg hs] at e6
      cases e6
      have s3 : SR Z F3 H3 σ δ2 own2 := by
        refine ⟨le3, fun b o e => ?_, s2.old.trans sH3, s2.len, fun i sw ei => ?_, s2.nod, fun i p hp => ?_, s2.sep⟩
        · rcases fro3 b o e with z | z
          · exact s2.fro b o z
          · exact .inr (s2.old.free z)
        · obtain ⟨w, h1, h2⟩ := s2.at' i sw ei
          exact ⟨w, h1, h2.mono sF3⟩
        · obtain ⟨a, b, c⟩ := s2.ok i p hp
          refine ⟨?_, b, sH3 _ _ c⟩
          cases z : F3 p.1 with
          | none => rfl
          | some u =>
            rcases fro3 _ u z with y | y
            · rw [a] at y; cases y
            · rw [c] at y; cases y
      exact k v H3 F3 own2 (sH.trans sH3) (sF.trans (sF2.trans sF3)) s3 ⟨ns, sh, nd, fun p hp => ⟨(ok p hp).1, (s2.old).free (ok p hp).2.1, (ok p hp).2.2⟩, fun i p q hp hq e => by
        have z := (s2.ok i q hq).2.2
        rw [← e, (ok p hp).2.1] at z; cases z⟩
  · rw [if_neg hn] at e4; cases e4
end
end DL

namespace DL
open PySem L2
variable {K : PySem.W.Frag}

section
variable {Z : Ent K} {H : Hp} {σ : St} {R : Bool → Hp → Prop} {Q : VK}
@[simp] noncomputable def testF (fe : FE) : FT := fun δ => (fe δ).bind fun p => match p.1 with
  | .tmp (.fz (.bl b)) => some (b, p.2)
  | _ => none
theorem l_test {fe : FE} (h : liftT Z (testF fe) σ H R) : tTest (liftE Z fe) σ H R := by
  obtain ⟨F, δ, own, b, δ', s, e, k⟩ := h
  obtain ⟨⟨rv, δ1⟩, e1, e2⟩ := Option.bind_eq_some_iff.mp e
  refine ⟨F, δ, own, rv, δ1, s, e1, fun v H1 F1 own1 sH sF s1 r1 => ?_⟩
  dsimp only at e2
  split at e2
  · cases e2
    obtain ⟨ns, t⟩ := r1
    cases shape_fz t.sh
    exact ⟨_, rfl, k H1 F1 own1 sH sF s1⟩
  · cases e2
theorem l_testB {fe : FE} (h : liftT Z (testF fe) σ H R) : tB (liftE Z fe) σ H R := l_test h
@[simp] noncomputable def andF (f g : FT) : FT := fun δ => (f δ).bind fun p => if p.1 = true then g p.2 else some (false, p.2)
@[simp] noncomputable def orF (f g : FT) : FT := fun δ => (f δ).bind fun p => if p.1 = true then some (true, p.2) else g p.2
@[simp] noncomputable def notF (f : FT) : FT := fun δ => (f δ).bind fun p => some (!p.1, p.2)
theorem l_and {f g : FT} (h : liftT Z (andF f g) σ H R) : tAnd (liftT Z f) (liftT Z g) σ H R := by
  obtain ⟨F, δ, own, b, δ', s, e, k⟩ := h
  obtain ⟨⟨c, δ1⟩, e1, e2⟩ := Option.bind_eq_some_iff.mp e
  refine ⟨F, δ, own, c, δ1, s, e1, fun H1 F1 own1 sH sF s1 => ?_⟩
  cases c with
  | true =>
    rw [if_pos rfl] at e2 ⊢
    exact ⟨F1, δ1, own1, b, δ', s1, e2, fun H2 F2 own2 a c d => k H2 F2 own2 (sH.trans a) (sF.trans c) d⟩
  | false =>
    rw [if_neg Bool.false_ne_true] at e2 ⊢
    cases e2
    exact k H1 F1 own1 sH sF s1
theorem l_or {f g : FT} (h : liftT Z (orF f g) σ H R) : tOr (liftT Z f) (liftT Z g) σ H R := by
  obtain ⟨F, δ, own, b, δ', s, e, k⟩ := h
  obtain ⟨⟨c, δ1⟩, e1, e2⟩ := Option.bind_eq_some_iff.mp e
  refine ⟨F, δ, own, c, δ1, s, e1, fun H1 F1 own1 sH sF s1 => ?_⟩
  cases c with
  | true =>
    rw [if_pos rfl] at e2 ⊢
    cases e2
    exact k H1 F1 own1 sH sF s1
  | false =>
    rw [if_neg Bool.false_ne_true] at e2 ⊢
    exact ⟨F1, δ1, own1, b, δ', s1, e2, fun H2 F2 own2 a c d => k H2 F2 own2 (sH.trans a) (sF.trans c) d⟩
theorem l_not {f : FT} (h : liftT Z (notF f) σ H R) : tNot (liftT Z f) σ H R := by
  obtain ⟨F, δ, own, b, δ', s, e, k⟩ := h
  obtain ⟨⟨c, δ1⟩, e1, e2⟩ := Option.bind_eq_some_iff.mp e
  cases e2
  exact ⟨F, δ, own, c, δ1, s, e1, k⟩
@[simp] noncomputable def andV (f g : FE) : FE := fun δ => (testF f δ).bind fun p => if p.1 = true then g p.2 else some (.tmp (.fz (.bl false)), p.2)
@[simp] noncomputable def orV (f g : FE) : FE := fun δ => (testF f δ).bind fun p => if p.1 = true then some (.tmp (.fz (.bl true)), p.2) else g p.2
@[simp] noncomputable def notV (f : FE) : FE := fun δ => (testF f δ).bind fun p => some (.tmp (.fz (.bl (!p.1))), p.2)
theorem fin_b {F : Hp} {own : Nat → Nodes} {b : Bool} : RVRep Z F H σ own (.tmp (.fz (.bl b))) (.bl b) := ⟨[], .fz (.bl b)⟩
theorem l_andV {f g : FE} (h : liftE Z (andV f g) σ H Q) : tAndV (liftE Z f) (liftE Z g) σ H Q := by
  obtain ⟨F, δ, own, rv, δ', s, e, k⟩ := h
  obtain ⟨⟨c, δ1⟩, e1, e2⟩ := Option.bind_eq_some_iff.mp e
  refine l_test ⟨F, δ, own, c, δ1, s, e1, fun H1 F1 own1 sH sF s1 => ?_⟩
  cases c with
  | true =>
    rw [if_pos rfl] at e2 ⊢
    exact ⟨F1, δ1, own1, rv, δ', s1, e2, fun v H2 F2 own2 a c d => k v H2 F2 own2 (sH.trans a) (sF.trans c) d⟩
  | false =>
    rw [if_neg Bool.false_ne_true] at e2 ⊢
    cases e2
    exact k _ H1 F1 own1 sH sF s1 fin_b
theorem l_notV {f : FE} (h : liftE Z (notV f) σ H Q) : tNotV (liftE Z f) σ H Q := by
  obtain ⟨F, δ, own, rv, δ', s, e, k⟩ := h
  obtain ⟨⟨c, δ1⟩, e1, e2⟩ := Option.bind_eq_some_iff.mp e
  cases e2
  exact l_test ⟨F, δ, own, c, δ1, s, e1, fun H1 F1 own1 sH sF s1 => k _ H1 F1 own1 sH sF s1 fin_b⟩
@[simp] noncomputable def ifF (t : FT) (f g : FE) : FE := fun δ => (t δ).bind fun p => if p.1 = true then f p.2 else g p.2
@[simp] noncomputable def chainF (g g' : D → D → Option SV) (fa fb fc : FE) : FE := fun δ => (fa δ).bind fun p => (fb p.2).bind fun q => (rdv p.1 q.2).bind fun x => (rdv q.1 q.2).bind fun y => (g x y).bind fun
  | .fz (.bl true) => (fc q.2).bind fun r => (rdv q.1 r.2).bind fun y' => (rdv r.1 r.2).bind fun z => (g' y' z).bind fun sv => some (.tmp sv, r.2)
  | .fz (.bl false) => some (.tmp (.fz (.bl false)), q.2)
  | _ => none
theorem l_chain {r r' : R2} {g g' : D → D → Option SV} {fa fb fc : FE} (hg : Prim2 Z r g) (hg' : Prim2 Z r' g') (h : liftE Z (chainF g g' fa fb fc) σ H Q) : tChain r r' (liftE Z fa) (liftE Z fb) (liftE Z fc) σ H Q := by
  obtain ⟨F, δ, own, rv, δ', s, e, k⟩ := h
  obtain ⟨⟨rv1, δ1⟩, e1, e⟩ := Option.bind_eq_some_iff.mp e
  obtain ⟨⟨rv2, δ2⟩, e2, e⟩ := Option.bind_eq_some_iff.mp e
  obtain ⟨x, e3, e⟩ := Option.bind_eq_some_iff.mp e
  obtain ⟨y, e4, e⟩ := Option.bind_eq_some_iff.mp e
  obtain ⟨sv, e5, e⟩ := Option.bind_eq_some_iff.mp e
  refine ⟨F, δ, own, rv1, δ1, s, e1, fun v H1 F1 own1 sH1 sF1 s1 r1 => ?_⟩
  obtain ⟨F1', sF1', s1', r1'⟩ := s1.settleR r1
  refine ⟨F1', δ1, own1, rv2, δ2, s1', e2, fun u H2 F2 own2 sH2 sF2 s2 r2 => ?_⟩
  obtain ⟨F3, sF3, s3, r3⟩ := s2.settleR r2
  refine hg F3 H2 σ δ2 own2 v u x y sv _ s3 (s3.rd (r1'.mono (sF2.trans sF3)) e3) (s3.rd r3 e4) e5 fun z H4 F4 ns sH4 sF4 s4 t4 => ?_
  dsimp only at e
  split at e
  · cases shape_fz t4.sh
    refine ⟨true, rfl, ?_⟩
    rw [if_pos rfl]
    obtain ⟨⟨rv5, δ5⟩, e6, e⟩ := Option.bind_eq_some_iff.mp e
    obtain ⟨y', e7, e⟩ := Option.bind_eq_some_iff.mp e
    obtain ⟨z', e8, e⟩ := Option.bind_eq_some_iff.mp e
    obtain ⟨sv', e9, e⟩ := Option.bind_eq_some_iff.mp e
    cases e
    refine ⟨F4, δ2, own2, rv5, δ5, s4, e6, fun w H5 F5 own5 sH5 sF5 s5 r5 => ?_⟩
    obtain ⟨F6, sF6, s6, r6⟩ := s5.settleR r5
    refine hg' F6 H5 σ δ5 own5 u w y' z' sv' _ s6 (s6.rd (r3.mono (sF4.trans (sF5.trans sF6))) e7) (s6.rd r6 e8) e9 fun q H7 F7 ns7 sH7 sF7 s7 t7 => ?_
    exact k q H7 F7 own5 (sH1.trans (sH2.trans (sH4.trans (sH5.trans sH7)))) (sF1.trans (sF1'.trans (sF2.trans (sF3.trans (sF4.trans (sF5.trans (sF6.trans sF7))))))) s7 ⟨ns7, t7⟩
  · cases shape_fz t4.sh
    cases e
    refine ⟨false, rfl, ?_⟩
    rw [if_neg Bool.false_ne_true]
    exact k _ H4 F4 own2 (sH1.trans (sH2.trans sH4)) (sF1.trans (sF1'.trans (sF2.trans (sF3.trans sF4)))) s4 fin_b
  · cases e
end

inductive Fl where
  | nx (δ : DSt) | bk (δ : DSt) | ct (δ : DSt) | rt (sv : SV) | ex (e : Exn) (δ : DSt)
noncomputable abbrev FS := DSt → Option Fl
noncomputable def EndsOk (Z : Ent K) (F : Hp) (D : Ends) : Fl → Prop
  | .nx δ => ∀ σ' H' F' own', Same F F' → SR Z F' H' σ' δ own' → D.nx σ' H'
  | .bk δ => ∀ σ' H' F' own', Same F F' → SR Z F' H' σ' δ own' → D.bk σ' H'
  | .ct δ => ∀ σ' H' F' own', Same F F' → SR Z F' H' σ' δ own' → D.ct σ' H'
  | .rt sv => ∀ v H' F' ns, Same F F' → Same F' H' → (∀ (b : Addr) (o : HO), F' b = some o → Z.f b = some o ∨ Z.h b = none) → Same Z.h H' → Shape K F' sv v ns → (adr ns).Nodup →
      (∀ p ∈ ns, F' p.1 = none ∧ Z.h p.1 = none ∧ H' p.1 = some p.2) → D.rt v H'
  | .ex x δ => ∀ σ' H' F' own' cls od, Same F F' → SR Z F' H' σ' δ own' → ExcRep K F' x cls od → Z.x cls od σ' H'
theorem EndsOk.mono {Z : Ent K} {F F' : Hp} {D : Ends} (s : Same F F') : ∀ {fl : Fl}, EndsOk Z F D fl → EndsOk Z F' D fl
  | .nx _, h => fun σ' H' F2 own' a b => h σ' H' F2 own' (s.trans a) b
  | .bk _, h => fun σ' H' F2 own' a b => h σ' H' F2 own' (s.trans a) b
  | .ct _, h => fun σ' H' F2 own' a b => h σ' H' F2 own' (s.trans a) b
  | .rt _, h => fun v H' F2 ns a => h v H' F2 ns (s.trans a)
  | .ex _ _, h => fun σ' H' F2 own' cls od a => h σ' H' F2 own' cls od (s.trans a)
noncomputable def liftS (Z : Ent K) (f : FS) : TS := fun D σ H => ∃ F δ own fl, SR Z F H σ δ own ∧ f δ = some fl ∧ EndsOk Z F D fl
section
variable {Z : Ent K} {H : Hp} {σ : St} {E : Ends}
@[simp] noncomputable def nextF : FS := fun δ => some (.nx δ)
@[simp] noncomputable def breakF : FS := fun δ => some (.bk δ)
@[simp] noncomputable def contF : FS := fun δ => some (.ct δ)
theorem l_next (h : liftS Z nextF E σ H) : tNext E σ H := by
  obtain ⟨F, δ, own, fl, s, e, k⟩ := h
  cases e
  exact k σ H F own (Same.refl F) s
@[simp] noncomputable def seqF (f g : FS) : FS := fun δ => (f δ).bind fun
  | .nx δ' => g δ'
  | fl => some fl
theorem l_seq {f g : FS} (h : liftS Z (seqF f g) E σ H) : tSeq (liftS Z f) (liftS Z g) E σ H := by
  obtain ⟨F, δ, own, fl, s, e, k⟩ := h
  obtain ⟨f1, e1, e2⟩ := Option.bind_eq_some_iff.mp e
  refine ⟨F, δ, own, f1, s, e1, ?_⟩
  cases f1 with
  | nx δ1 => exact fun σ' H' F' own' sF s' => ⟨F', δ1, own', fl, s', e2, k.mono sF⟩
  | bk δ1 => cases e2; exact k
  | ct δ1 => cases e2; exact k
  | rt sv => cases e2; exact k
  | ex x δ1 => cases e2; exact k
@[simp] noncomputable def ifS (t : FT) (f g : FS) : FS := fun δ => (t δ).bind fun p => if p.1 = true then f p.2 else g p.2
theorem l_ifS {t : FT} {f g : FS} (h : liftS Z (ifS t f g) E σ H) : tIfS (liftT Z t) (liftS Z f) (liftS Z g) E σ H := by
  obtain ⟨F, δ, own, fl, s, e, k⟩ := h
  obtain ⟨⟨c, δ1⟩, e1, e2⟩ := Option.bind_eq_some_iff.mp e
  refine ⟨F, δ, own, c, δ1, s, e1, fun H1 F1 own1 sH sF s1 => ?_⟩
  cases c with
  | true => rw [if_pos rfl] at e2 ⊢; exact ⟨F1, δ1, own1, fl, s1, e2, k.mono sF⟩
  | false => rw [if_neg Bool.false_ne_true] at e2 ⊢; exact ⟨F1, δ1, own1, fl, s1, e2, k.mono sF⟩
@[simp] noncomputable def dropF (fe : FE) : FS := fun δ => (fe δ).bind fun p => some (.nx p.2)
theorem l_drop {fe : FE} (h : liftS Z (dropF fe) E σ H) : tDrop (liftE Z fe) E σ H := by
  obtain ⟨F, δ, own, fl, s, e, k⟩ := h
  obtain ⟨⟨rv, δ1⟩, e1, e2⟩ := Option.bind_eq_some_iff.mp e
  cases e2
  exact ⟨F, δ, own, rv, δ1, s, e1, fun v H1 F1 own1 sH sF s1 _ => k σ H1 F1 own1 sF s1⟩
@[simp] noncomputable def outF : RV → DSt → Option SV
  | .tmp sv, _ => some sv
  | .bw i, δ => δ[i]?.join
@[simp] noncomputable def retF (fe : FE) : FS := fun δ => (fe δ).bind fun p => (outF p.1 p.2).bind fun sv => some (.rt sv)
theorem l_ret {fe : FE} (h : liftS Z (retF fe) E σ H) : tRet (liftE Z fe) E σ H := by
  obtain ⟨F, δ, own, fl, s, e, k⟩ := h
  obtain ⟨⟨rv, δ1⟩, e1, e2⟩ := Option.bind_eq_some_iff.mp e
  obtain ⟨sv, e3, e4⟩ := Option.bind_eq_some_iff.mp e2
  cases e4
  refine ⟨F, δ, own, rv, δ1, s, e1, fun v H1 F1 own1 sH sF s1 r1 => ?_⟩
  cases rv with
  | tmp sw =>
    cases e3
    obtain ⟨ns, t⟩ := r1
    exact k v H1 F1 ns sF s1.le s1.fro s1.old t.sh t.nd t.ok
  | bw i =>
    obtain ⟨w, h1, h2⟩ := s1.at' i sv (join_some e3)
    have r1' : σ[i]? = some (some v) := r1
    rw [r1'] at h1; cases h1
    exact k v H1 F1 (own1 i) sF s1.le s1.fro s1.old h2 (s1.nod i) (s1.ok i)
@[simp] noncomputable def retN : FS := fun δ => some (.rt (.fz .non))
@[simp] noncomputable def stow (i : Nat) : RV → DSt → Option DSt
  | .tmp sv, δ => if i < δ.length then some (δ.set i (some sv)) else none
  | .bw j, δ => (frz (.bw j) δ).bind fun p => if i < p.2.length then some (p.2.set i (some (.fz p.1))) else none
theorem SR.stow {F : Hp} {δ δ' : DSt} {own : Nat → Nodes} {i : Nat} {rv : RV} {v : V} (s : SR Z F H σ δ own) (r : RVRep Z F H σ own rv v) (e : DL.stow i rv δ = some δ') : ∃ F' own', Same F F' ∧ SR Z F' H (σ.set i (some v)) δ' own' := by
  cases rv with
  | tmp sv =>
    obtain ⟨ns, t⟩ := r
    have e : (if i < δ.length then some (δ.set i (some sv)) else none) = some δ' := e
    by_cases hi : i < δ.length
    · rw [if_pos hi] at e; cases e
      exact ⟨F, _, Same.refl F, s.store t (by rw [s.len]; exact hi)⟩
    · rw [if_neg hi] at e; cases e
  | bw j =>
    obtain ⟨⟨d, δ1⟩, e1, e2⟩ := Option.bind_eq_some_iff.mp e
    obtain ⟨F1, own1, sF, s1, r1⟩ := s.frzR (rv := .bw j) (v := v) r e1
    by_cases hi : i < δ1.length
    · rw [if_pos hi] at e2; cases e2
      exact ⟨F1, _, sF, s1.store (.fz r1) (by rw [s1.len]; exact hi)⟩
    · rw [if_neg hi] at e2; cases e2
@[simp] noncomputable def setF (i : Nat) (fe : FE) : FS := fun δ => (fe δ).bind fun p => (stow i p.1 p.2).bind fun δ' => some (.nx δ')
theorem l_set {i : Nat} {fe : FE} (h : liftS Z (setF i fe) E σ H) : tAsg (liftE Z fe) (gName i) E σ H := by
  obtain ⟨F, δ, own, fl, s, e, k⟩ := h
  obtain ⟨⟨rv, δ1⟩, e1, e2⟩ := Option.bind_eq_some_iff.mp e
  obtain ⟨δ2, e3, e4⟩ := Option.bind_eq_some_iff.mp e2
  cases e4
  refine ⟨F, δ, own, rv, δ1, s, e1, fun v H1 F1 own1 sH sF s1 r1 => ?_⟩
  obtain ⟨F2, own2, sF2, s2⟩ := s1.stow r1 e3
  exact k _ H1 F2 own2 (sF.trans sF2) s2
structure FG where
  run : D → DSt → Option DSt
  tch : List Nat
structure FGs where
  run : List D → DSt → Option DSt
  tch : List Nat
noncomputable def liftG (Z : Ent K) (g : FG) : TG := fun v σ H Q => ∃ F δ own d δ', SR Z F H σ δ own ∧ Rep K F d v ∧ g.run d δ = some δ' ∧ ∀ σ' own', SR Z F H σ' δ' own' → (∀ j : Nat, j ∉ g.tch → σ'[j]? = σ[j]?) → Q σ' H
noncomputable def liftGs (Z : Ent K) (g : FGs) : TGs := fun vs σ H Q => ∃ F δ own ds δ', SR Z F H σ δ own ∧ Reps K F ds vs ∧ g.run ds δ = some δ' ∧ ∀ σ' own', SR Z F H σ' δ' own' → (∀ j : Nat, j ∉ g.tch → σ'[j]? = σ[j]?) → Q σ' H
noncomputable def gNameF (i : Nat) : FG := ⟨fun d δ => if i < δ.length then some (δ.set i (some (.fz d))) else none, [i]⟩
theorem l_gName {i : Nat} {v : V} {Q : St → Hp → Prop} (h : liftG Z (gNameF i) v σ H Q) : gName i v σ H Q := by
  obtain ⟨F, δ, own, d, δ', s, r, e, k⟩ := h
  have e : (if i < δ.length then some (δ.set i (some (.fz d))) else none) = some δ' := e
  by_cases hi : i < δ.length
  · rw [if_pos hi] at e; cases e
    exact k _ _ (s.store (.fz r) (by rw [s.len]; exact hi)) fun j hj => List.getElem?_set_ne fun z => hj (by rw [z]; exact List.mem_cons_self)
  · rw [if_neg hi] at e; cases e
noncomputable def gNilF : FGs := ⟨fun ds δ => match ds with
  | [] => some δ
  | _ => none, []⟩
noncomputable def gConsF (g : FG) (r : FGs) : FGs := ⟨fun ds δ => match ds with
  | d :: t => (g.run d δ).bind fun δ1 => r.run t δ1
  | [] => none, g.tch ++ r.tch⟩
@[simp] theorem gName_run (i : Nat) (d : D) (δ : DSt) : (gNameF i).run d δ = if i < δ.length then some (δ.set i (some (.fz d))) else none := rfl
@[simp] theorem gNil_run (δ : DSt) : gNilF.run [] δ = some δ := rfl
@[simp] theorem gCons_run (g : FG) (r : FGs) (d : D) (t : List D) (δ : DSt) : (gConsF g r).run (d :: t) δ = (g.run d δ).bind fun δ1 => r.run t δ1 := rfl
theorem l_gNil {vs : List V} {Q : St → Hp → Prop} (h : liftGs Z gNilF vs σ H Q) : gNil vs σ H Q := by
  obtain ⟨F, δ, own, ds, δ', s, r, e, k⟩ := h
  cases r with
  | nil => cases e; exact ⟨rfl, k σ own s fun _ _ => rfl⟩
  | cons h t => cases e
theorem l_gCons {g : FG} {r : FGs} {vs : List V} {Q : St → Hp → Prop} (h : liftGs Z (gConsF g r) vs σ H Q) : gCons (liftG Z g) (liftGs Z r) vs σ H Q := by
  obtain ⟨F, δ, own, ds, δ', s, rr, e, k⟩ := h
  cases rr with
  | nil => cases e
  | cons h t =>
    obtain ⟨δ1, e1, e2⟩ := Option.bind_eq_some_iff.mp e
    exact ⟨_, _, rfl, F, δ, own, _, δ1, s, h, e1, fun σ1 own1 s1 t1 => ⟨F, δ1, own1, _, δ', s1, t, e2, fun σ2 own2 s2 t2 => k σ2 own2 s2 fun j hj => (t2 j fun z => hj (List.mem_append_right _ z)).trans (t1 j fun z => hj (List.mem_append_left _ z))⟩⟩
noncomputable def gTupF (n : Nat) (g : FGs) : FG := ⟨fun d δ => match d with
  | .tup xs => if xs.length = n then g.run xs δ else none
  | _ => none, g.tch⟩
@[simp] theorem gTup_run (n : Nat) (g : FGs) (xs : List D) (δ : DSt) : (gTupF n g).run (.tup xs) δ = if xs.length = n then g.run xs δ else none := rfl
theorem l_gTup {n : Nat} {g : FGs} {v : V} {Q : St → Hp → Prop} (h : liftG Z (gTupF n g) v σ H Q) : gTup K n (liftGs Z g) v σ H Q := by
  obtain ⟨F, δ, own, d, δ', s, r, e, k⟩ := h
  dsimp only [gTupF] at e
  split at e
  · rename_i xs
    by_cases hn : xs.length = n
    · rw [if_pos hn] at e
      cases r with
      | tup h r => exact ⟨_, _, rfl, sqT_mono s.le (tupSq h), by rw [← r.length]; exact hn, F, δ, own, _, δ', s, r, e, k⟩
    · rw [if_neg hn] at e; cases e
  · cases e
@[simp] noncomputable def unpackF (g : FG) (fe : FE) : FS := fun δ => (fe δ).bind fun p => (frz p.1 p.2).bind fun q => (g.run q.1 q.2).bind fun δ' => some (.nx δ')
theorem l_unpack {g : FG} {fe : FE} (h : liftS Z (unpackF g fe) E σ H) : tAsg (liftE Z fe) (liftG Z g) E σ H := by
  obtain ⟨F, δ, own, fl, s, e, k⟩ := h
  obtain ⟨⟨rv, δ1⟩, e1, e2⟩ := Option.bind_eq_some_iff.mp e
  obtain ⟨⟨d, δ2⟩, e3, e4⟩ := Option.bind_eq_some_iff.mp e2
  obtain ⟨δ3, e5, e6⟩ := Option.bind_eq_some_iff.mp e4
  cases e6
  refine ⟨F, δ, own, rv, δ1, s, e1, fun v H1 F1 own1 sH sF s1 r1 => ?_⟩
  obtain ⟨F2, sF2, s2, r2⟩ := s1.settleR r1
  obtain ⟨F3, own3, sF3, s3, r3⟩ := s2.frzR r2 e3
  exact ⟨F3, δ2, own3, d, δ3, s3, r3, e5, fun σ' own' s' _ => k σ' H1 F3 own' (sF.trans (sF2.trans sF3)) s'⟩

@[simp] noncomputable def forD (tg : FG) (body : FS) : List D → DSt → Option Fl
  | [], δ => some (.nx δ)
  | d :: ds, δ => (tg.run d δ).bind fun δ1 => (body δ1).bind fun
    | .nx δ2 => forD tg body ds δ2
    | .ct δ2 => forD tg body ds δ2
    | .bk δ2 => some (.nx δ2)
    | .rt sv => some (.rt sv)
    | .ex x δ2 => some (.ex x δ2)
noncomputable def Yields (K : PySem.W.Frag) (J : It) (F : Hp) (ds : List D) : Prop := ∀ F' H, Same F F' → Same F' H → ∀ i : Nat,
  (∀ d, ds[i]? = some d → J.go i H ∧ ∀ x H', J.yld i H x H' → Same H H' ∧ ∃ ns, (adr ns).Nodup ∧ (∀ p ∈ ns, H p.1 = none ∧ H' p.1 = some p.2) ∧ Rep K (addL F' ns) d x) ∧ (ds.length ≤ i → J.stop i H)
noncomputable def liftI (Z : Ent K) (f : FD) : TI := fun σ H R => ∃ F δ own ds δ', SR Z F H σ δ own ∧ f δ = some (ds, δ') ∧
  ∀ J H' F' own', Same H H' → Same F F' → SR Z F' H' σ δ' own' → Yields K J F' ds → R J H'
@[simp] noncomputable def forF (fi : FD) (tg : FG) (body : FS) : FS := fun δ => (fi δ).bind fun p => forD tg body p.1 p.2
theorem SR.fresh {F H' : Hp} {δ : DSt} {own : Nat → Nodes} {ns : Nodes} (s : SR Z F H σ δ own) (sm : Same H H') (nd : (adr ns).Nodup) (h : ∀ p ∈ ns, H p.1 = none ∧ H' p.1 = some p.2) : Same F (addL F ns) ∧ SR Z (addL F ns) H' σ δ own := by
  refine ⟨addL_same fun p hp => s.le.free (h p hp).1, (s.grow sm).addF nd (fun p hp => s.le.free (h p hp).1) (fun p hp => (h p hp).2) (fun p hp => s.old.free (h p hp).1) fun i p q hp hq e => ?_⟩
  have z := (s.ok i q hq).2.2
  rw [← e, (h p hp).1] at z; cases z
theorem l_for {fi : FD} {tg : FG} {body : FS} (h : liftS Z (forF fi tg body) E σ H) : tFor (liftI Z fi) (liftG Z tg) (liftS Z body) E σ H := by
  obtain ⟨F, δ, own, fl, s, e, k⟩ := h
  obtain ⟨⟨ds, δ1⟩, e1, e2⟩ := Option.bind_eq_some_iff.mp e
  refine ⟨F, δ, own, ds, δ1, s, e1, fun J H1 F1 own1 sH sF s1 yl => ?_⟩
  refine ⟨fun i m σ H => m = ds.length - i ∧ i ≤ ds.length ∧ ∃ F δ own, Same F1 F ∧ SR Z F H σ δ own ∧ forD tg body (ds.drop i) δ = some fl, ⟨ds.length, by simp, Nat.zero_le _, F1, δ1, own1, Same.refl F1, s1, e2⟩, ?_⟩
  rintro i m σ' H' ⟨rfl, hi, F2, δ2, own2, sF2, s2, ef⟩
  by_cases hlt : i < ds.length
  · have hd : ds[i]? = some ds[i] := by simp [hlt]
    obtain ⟨go, yy⟩ := (yl F2 H' sF2 s2.le i).1 _ hd
    rw [List.drop_eq_getElem_cons hlt] at ef
    obtain ⟨δ3, e3, e4⟩ := Option.bind_eq_some_iff.mp ef
    obtain ⟨f1, e5, e6⟩ := Option.bind_eq_some_iff.mp e4
    refine .inr ⟨go, fun σ4 H4 => ∃ F δ own, Same F1 F ∧ SR Z F H4 σ4 δ own ∧ forD tg body (ds.drop (i + 1)) δ = some fl, fun σ4 H4 ⟨F4, δ4, own4, a, b, c⟩ => ⟨ds.length - (i + 1), by omega, rfl, hlt, F4, δ4, own4, a, b, c⟩, fun x H3 hy => ?_⟩
    obtain ⟨sm, ns, nd, hn, rp⟩ := yy x H3 hy
    obtain ⟨sFn, sn⟩ := s2.fresh sm nd hn
    refine ⟨addL F2 ns, δ2, own2, _, δ3, sn, rp, e3, fun σ5 own5 s5 _ => ⟨addL F2 ns, δ3, own5, f1, s5, e5, ?_⟩⟩
    cases f1 with
    | nx δ6 => exact fun σ6 H6 F6 own6 a b => ⟨F6, δ6, own6, sF2.trans (sFn.trans a), b, e6⟩
    | ct δ6 => exact fun σ6 H6 F6 own6 a b => ⟨F6, δ6, own6, sF2.trans (sFn.trans a), b, e6⟩
    | bk δ6 =>
      cases e6
      exact fun σ6 H6 F6 own6 a b => k σ6 H6 F6 own6 (sF.trans (sF2.trans (sFn.trans a))) b
    | rt sv =>
      cases e6
      exact fun v H6 F6 ns6 a => k v H6 F6 ns6 (sF.trans (sF2.trans (sFn.trans a)))
    | ex x δ6 =>
      cases e6
      exact fun σ6 H6 F6 own6 cls od a => k σ6 H6 F6 own6 cls od (sF.trans (sF2.trans (sFn.trans a)))
  · have hz : i = ds.length := by omega
    subst hz
    rw [List.drop_length] at ef
    cases ef
    exact .inl ⟨(yl F2 H' sF2 s2.le _).2 (Nat.le_refl _), k σ' H' F2 own2 (sF.trans sF2) s2⟩
noncomputable def whileD (t : FT) (body : FS) : Nat → DSt → Option Fl
  | 0, _ => none
  | n + 1, δ => (t δ).bind fun p => if p.1 = true then (body p.2).bind (fun
    | .nx δ2 => whileD t body n δ2
    | .ct δ2 => whileD t body n δ2
    | .bk δ2 => some (.nx δ2)
    | .rt sv => some (.rt sv)
    | .ex x δ2 => some (.ex x δ2)) else some (.nx p.2)
theorem l_while {n : Nat} {t : FT} {body : FS} (h : liftS Z (whileD t body n) E σ H) : tWhile (liftT Z t) (liftS Z body) E σ H := by
  obtain ⟨F, δ, own, fl, s, e, k⟩ := h
  refine ⟨fun m σ H => ∃ F2 δ own, Same F F2 ∧ SR Z F2 H σ δ own ∧ whileD t body m δ = some fl, ⟨n, F, δ, own, Same.refl F, s, e⟩, ?_⟩
  rintro m σ1 H1 ⟨F1, δ1, own1, sF1, s1, e1⟩
  cases m with
  | zero => cases e1
  | succ m =>
    obtain ⟨⟨c, δ2⟩, e2, e3⟩ := Option.bind_eq_some_iff.mp e1
    refine ⟨F1, δ1, own1, c, δ2, s1, e2, fun H2 F2 own2 sH sF2 s2 => ?_⟩
    cases c with
    | false =>
      rw [if_neg Bool.false_ne_true] at e3 ⊢
      cases e3
      exact k σ1 H2 F2 own2 (sF1.trans sF2) s2
    | true =>
      rw [if_pos rfl] at e3 ⊢
      obtain ⟨f1, e4, e5⟩ := Option.bind_eq_some_iff.mp e3
      refine ⟨fun σ' H' => ∃ F2 δ own, Same F F2 ∧ SR Z F2 H' σ' δ own ∧ whileD t body m δ = some fl, fun σ' H' w => ⟨m, Nat.lt_succ_self m, w⟩, F2, δ2, own2, f1, s2, e4, ?_⟩
      cases f1 with
      | nx δ6 => exact fun σ6 H6 F6 own6 a b => ⟨F6, δ6, own6, sF1.trans (sF2.trans a), b, e5⟩
      | ct δ6 => exact fun σ6 H6 F6 own6 a b => ⟨F6, δ6, own6, sF1.trans (sF2.trans a), b, e5⟩
      | bk δ6 =>
        cases e5
        exact fun σ6 H6 F6 own6 a b => k σ6 H6 F6 own6 (sF1.trans (sF2.trans a)) b
      | rt sv =>
        cases e5
        exact fun v H6 F6 ns6 a => k v H6 F6 ns6 (sF1.trans (sF2.trans a))
      | ex x δ6 =>
        cases e5
        exact fun σ6 H6 F6 own6 cls od a => k σ6 H6 F6 own6 cls od (sF1.trans (sF2.trans a))
@[simp] noncomputable def seqI (fe : FE) : FD := fun δ => (fe δ).bind fun p => (frz p.1 p.2).bind fun q => match q.1 with
  | .lst xs => some (xs, q.2)
  | .tup xs => some (xs, q.2)
  | _ => none
noncomputable def iSeq (K : PySem.W.Frag) (tl : TE) : TI := fun σ H R => tl σ H fun x H1 => (∃ a, x = .ref a ∧ (∃ xs, SqL K H1 a xs) ∧ R (Itl K a) H1) ∨ (∃ a, x = .ref a ∧ (∃ xs, SqT K H1 a xs) ∧ R (Itt K a) H1)
theorem yields_list {F : Hp} {a : Addr} {xs : List D} {vs : List V} (h : SqL K F a vs) (r : Reps K F xs vs) : Yields K (Itl K a) F xs := fun F' H sF sH i => by
  have q : SqL K H a vs := sqL_mono (sF.trans sH) h
  refine ⟨fun d hd => ?_, fun hl => ⟨vs, q, by rw [← r.length]; exact hl⟩⟩
  obtain ⟨v, h1, h2⟩ := r.get hd
  refine ⟨⟨vs, v, q, h1⟩, fun x H' ⟨e1, e2⟩ => ?_⟩
  subst e1
  have e3 := e2 vs q
  rw [h1] at e3; cases e3
  exact ⟨Same.refl _, [], List.nodup_nil, fun _ h => (nomatch h), h2.mono sF⟩
theorem yields_tup {F : Hp} {a : Addr} {xs : List D} {vs : List V} (h : SqT K F a vs) (r : Reps K F xs vs) : Yields K (Itt K a) F xs := fun F' H sF sH i => by
  have q : SqT K H a vs := sqT_mono (sF.trans sH) h
  refine ⟨fun d hd => ?_, fun hl => ⟨vs, q, by rw [← r.length]; exact hl⟩⟩
  obtain ⟨v, h1, h2⟩ := r.get hd
  refine ⟨⟨vs, v, q, h1⟩, fun x H' ⟨e1, e2⟩ => ?_⟩
  subst e1
  have e3 := e2 vs q
  rw [h1] at e3; cases e3
  exact ⟨Same.refl _, [], List.nodup_nil, fun _ h => (nomatch h), h2.mono sF⟩
noncomputable def intsD (lo : Int) (n : Nat) : List D := (List.range n).map fun i => .int (lo + (i : Nat))
theorem yields_range {lo : Int} {n : Nat} {F : Hp} : Yields K (Itr lo n) F (intsD lo n) := fun F' H sF sH i => by
  have hl : (intsD lo n).length = n := by unfold intsD; rw [List.length_map, List.length_range]
  refine ⟨fun d hd => ?_, fun h => by rw [hl] at h; exact h⟩
  have hi : i < n := by
    have := (List.getElem?_eq_some_iff.mp hd).1
    rw [hl] at this; exact this
  refine ⟨hi, fun x H' ⟨e1, e2⟩ => ?_⟩
  subst e1 e2
  unfold intsD at hd
  rw [List.getElem?_map, List.getElem?_range hi] at hd
  cases hd
  exact ⟨Same.refl _, [], List.nodup_nil, fun _ h => (nomatch h), .int _⟩
noncomputable def rngP (j : Int) : Prop := -(2 ^ 62) ≤ j ∧ j < 2 ^ 62
theorem rngP_of {j : Int} (h0 : 0 ≤ j) (h : j ≤ 16777216) : rngP j := ⟨by omega, by omega⟩
theorem rngP_nat {n : Nat} (h : n ≤ 16777216) : rngP (n : Int) := rngP_of (by omega) (by omega)
open Classical in
@[simp] noncomputable def rngI (fa : FA) : FD := fun δ => (fa δ).bind fun p => match readAll p.1 p.2 with
  | some [.int j] => if rngP j then some (intsD 0 j.toNat, p.2) else none
  | _ => none
theorem l_rngI {fa : FA} {R : It → Hp → Prop} (h : liftI Z (rngI fa) σ H R) : iRng1 (liftA Z fa) σ H R := by
  obtain ⟨F, δ, own, ds, δ', s, e, k⟩ := h
  obtain ⟨⟨rvs, δ1⟩, e1, e2⟩ := Option.bind_eq_some_iff.mp e
  refine ⟨F, δ, own, rvs, δ1, s, e1, fun vs H1 F1 own1 sH sF s1 r1 => ?_⟩
  dsimp only at e2
  split at e2
  · rename_i j hj
    have rn := s1.rdAll r1 hj
    cases rn with
    | cons h t =>
      cases t
      by_cases hb : rngP j
      · rw [if_pos hb] at e2
        cases e2
        exact ⟨j, by rw [h.int], hb.1, hb.2, k _ H1 F1 own1 sH sF s1 yields_range⟩
      · rw [if_neg hb] at e2; cases e2
  · cases e2
@[simp] noncomputable def appF (i : Nat) (fe : FE) : FS := fun δ => match δ[i]? with
  | some (some (.ol _)) => (fe δ).bind fun p => (frz p.1 p.2).bind fun q => match q.2[i]? with
    | some (some (.ol xs)) => if xs.length < PySem.sizeLine then some (.nx (q.2.set i (some (.ol (xs ++ [q.1]))))) else none
    | _ => none
  | _ => none
theorem shape_ol {F : Hp} {xs : List D} {v : V} {ns : Nodes} (h : Shape K F (.ol xs) v ns) : ∃ a vs, v = .ref a ∧ ns = [(a, .lst vs)] ∧ Reps K F xs vs := by
  cases h with
  | ol r => exact ⟨_, _, rfl, rfl, r⟩
theorem l_app {i : Nat} {fe : FE} (h : liftS Z (appF i fe) E σ H) : tDrop (tBM K "list" rAppend (tVar i) (tCons (liftE Z fe) tNil)) E σ H := by
  obtain ⟨F, δ, own, fl, s, e, k⟩ := h
  unfold appF at e
  split at e
  · rename_i xs0 hx0
    obtain ⟨⟨rv, δ1⟩, e1, e2⟩ := Option.bind_eq_some_iff.mp e
    obtain ⟨⟨d, δ2⟩, e3, e4⟩ := Option.bind_eq_some_iff.mp e2
    obtain ⟨v, hv, sh⟩ := s.at' i _ hx0
    obtain ⟨a, vs0, ev, en, r0⟩ := shape_ol sh
    refine ⟨v, hv, ?_, F, δ, own, rv, δ1, s, e1, fun y H1 F1 own1 sH sF s1 r1 => ?_⟩
    · subst ev
      exact .inl ⟨rfl, vs0, .inl (.inl (s.ok i (a, .lst vs0) (by rw [en]; exact List.mem_cons_self)).2.2)⟩
    obtain ⟨F2, sF2, s2, r2⟩ := s1.settleR r1
    obtain ⟨F3, own3, sF3, s3, r3⟩ := s2.frzR r2 e3
    dsimp only at e4
    split at e4
    · rename_i xs hx
      by_cases hz : xs.length < PySem.sizeLine
      · rw [if_pos hz] at e4
        cases e4
        obtain ⟨v', hv', sh'⟩ := s3.at' i _ hx
        rw [hv] at hv'; cases hv'
        obtain ⟨b, vs, eb, en', r'⟩ := shape_ol sh'
        have mb : (b, HO.lst vs) ∈ own3 i := by rw [en']; exact List.mem_cons_self
        subst eb
        refine ⟨b, vs, y, rfl, rfl, (s3.ok i _ mb).2.2, by rw [← r'.length]; exact hz, ?_⟩
        exact k σ _ F3 _ (sF.trans (sF2.trans sF3)) (s3.change (sv' := .ol (xs ++ [d])) (o' := .lst (vs ++ [y])) (ns' := [(b, .lst (vs ++ [y]))]) hx hv mb (.ol (r'.snoc r3)) (fun p hp => .inl (List.mem_singleton.mp hp)) nd1)
      · rw [if_neg hz] at e4; cases e4
    · cases e4
  · cases e
end
@[simp] noncomputable def startD (n : Nat) (ds : List D) : DSt := ds.map (fun d => some (.fz d)) ++ List.replicate (n - ds.length) none
theorem sr_start {N : List Str} {F H : Hp} {ds : List D} {vs : List V} (le : Same F H) (r : Reps K F ds vs) : SR (ent H F : Ent K) F H (L2.start N vs) (startD N.length ds) fun _ => [] := by
  have hl := r.length
  refine ⟨le, fun b o e => .inl e, Same.refl H, ?_, fun i sv e => ?_, fun _ => List.nodup_nil, fun _ _ h => (nomatch h), fun _ _ _ _ _ h => (nomatch h)⟩
  · unfold L2.start startD
    rw [List.length_append, List.length_append, List.length_map, List.length_map, List.length_replicate, List.length_replicate, hl]
  · unfold startD at e
    by_cases hi : i < ds.length
    · rw [List.getElem?_append_left (by simpa using hi), List.getElem?_map] at e
      cases hd : ds[i]? with
      | none => rw [hd] at e; cases e
      | some d =>
        rw [hd] at e; cases e
        obtain ⟨v, h1, h2⟩ := r.get hd
        refine ⟨v, ?_, .fz h2⟩
        unfold L2.start
        rw [List.getElem?_append_left (by rw [List.length_map]; omega), List.getElem?_map, h1]
        rfl
    · rw [List.getElem?_append_right (by simpa using hi), List.getElem?_replicate] at e
      split at e <;> cases e
theorem spOf_len {n : Nat} {g : List D → Option SV} {vs : List V} {H : Hp} {Q : VK} {E : XK} (h : spOf K n g vs H Q E) : vs.length = n := by
  obtain ⟨F, ds, sv, le, r, hn, e, k⟩ := h
  rw [← r.length]; exact hn
end DL

namespace DL
open PySem L2
variable {K : PySem.W.Frag}
noncomputable def xG (K : PySem.W.Frag) (g : FG) : TG := fun v σ H Q => ∃ Z : Ent K, liftG Z g v σ H Q
noncomputable def xT (K : PySem.W.Frag) (f : FT) : TT := fun σ H Q => ∃ Z : Ent K, liftT Z f σ H Q
noncomputable def xE (K : PySem.W.Frag) (f : FE) : TE := fun σ H Q => ∃ Z : Ent K, liftE Z f σ H Q
noncomputable def trueT : FT := fun δ => some (true, δ)
@[simp] theorem trueT_ap (δ : DSt) : trueT δ = some (true, δ) := rfl
@[simp] noncomputable def caps (src : List BSrc) : List RV := src.filterMap fun
  | .cap j => some (.bw j)
  | _ => none
@[simp] noncomputable def bDSlot (δ : DSt) : BSrc → Option SV
  | .own => none
  | .cap j => match δ[j]?.join with
    | some (.fz d) => some (.fz d)
    | _ => none
  | .acc => some (.ol [])
@[simp] noncomputable def bD (src : List BSrc) (δ : DSt) : DSt := src.map (bDSlot δ)
@[simp] noncomputable def resetSlot : BSrc → Option SV → Option SV
  | .own, _ => none
  | _, o => o
@[simp] noncomputable def reset : List BSrc → DSt → DSt
  | b :: r, o :: t => resetSlot b o :: reset r t
  | _, t => t
@[simp] noncomputable def compD (src : List BSrc) (k : Nat) (g : FG) (tt : FT) (te : FE) : List D → DSt → Option DSt
  | [], δ => some δ
  | d :: ds, δ => (g.run d δ).bind fun δ1 => (tt δ1).bind fun p => if p.1 = true then (te p.2).bind fun q => (frz q.1 q.2).bind fun r => match r.2[k]? with
      | some (some (.ol zs)) => if zs.length < PySem.sizeLine then compD src k g tt te ds (reset src (r.2.set k (some (.ol (zs ++ [r.1]))))) else none
      | _ => none
    else compD src k g tt te ds (reset src p.2)
@[simp] noncomputable def compF (src : List BSrc) (k : Nat) (fi : FD) (g : FG) (tt : FT) (te : FE) : FE := fun δ => (fi δ).bind fun p => (frzAll (caps src) p.2).bind fun c => (compD src k g tt te p.1 (bD src c.2)).bind fun δb => match δb[k]? with
  | some (some (.ol ys)) => some (.tmp (.ol ys), c.2)
  | _ => none
theorem reset_len : ∀ (src : List BSrc) (δ : DSt), (reset src δ).length = δ.length
  | [], t => by unfold reset; rfl
  | _ :: _, [] => by unfold reset; rfl
  | b :: r, o :: t => by show (resetSlot b o :: reset r t).length = _; rw [List.length_cons, List.length_cons, reset_len r t]
theorem reset_get : ∀ {src : List BSrc} {δ : DSt} {i : Nat} {sv : SV}, (reset src δ)[i]? = some (some sv) → δ[i]? = some (some sv)
  | [], _, _, _, h => h
  | _ :: _, [], _, _, h => h
  | b :: r, o :: t, 0, sv, h => by
    have h : some (resetSlot b o) = some (some sv) := h
    cases b with
    | own => cases h
    | cap j => exact h
    | acc => exact h
  | b :: r, o :: t, i + 1, sv, h => by
    have h : (reset r t)[i]? = some (some sv) := h
    show t[i]? = _
    exact reset_get h
section
variable {Z : Ent K} {F H : Hp} {σ : St} {δ δ' : DSt} {own : Nat → Nodes}
theorem SR.forget (s : SR Z F H σ δ own) (hl : δ'.length = δ.length) (h : ∀ (i : Nat) (sv : SV), δ'[i]? = some (some sv) → δ[i]? = some (some sv)) : SR Z F H σ δ' own :=
  ⟨s.le, s.fro, s.old, s.len.trans hl.symm, fun i sv e => s.at' i sv (h i sv e), s.nod, s.ok, s.sep⟩
theorem SR.caps : ∀ {rvs : List RV} {ds : List D} {δ δ' : DSt} {F : Hp} {own : Nat → Nodes}, (∀ rv ∈ rvs, ∃ j, rv = .bw j) → SR Z F H σ δ own → DL.frzAll rvs δ = some (ds, δ') → ∃ F1 own1, Same F F1 ∧ SR Z F1 H σ δ' own1
  | [], _, _, _, F, own, _, s, e => by cases e; exact ⟨F, own, Same.refl F, s⟩
  | rv :: r, _, _, _, F, own, hb, s, e => by
    obtain ⟨⟨d, δ1⟩, e1, e2⟩ := Option.bind_eq_some_iff.mp e
    obtain ⟨⟨ds, δ2⟩, e3, e4⟩ := Option.bind_eq_some_iff.mp e2
    cases e4
    obtain ⟨j, rfl⟩ := hb rv List.mem_cons_self
    obtain ⟨sv, e5, e6⟩ := Option.bind_eq_some_iff.mp e1
    cases e6
    obtain ⟨F1, v, sF, _, _, s1⟩ := s.freeze (join_some e5)
    obtain ⟨F2, own2, sF2, s2⟩ := SR.caps (fun rv h => hb rv (List.mem_cons_of_mem _ h)) s1 e3
    exact ⟨F2, own2, sF.trans sF2, s2⟩
theorem SR.after {F3 H3 : Hp} (s2 : SR Z F H σ δ own) (sH3 : Same H H3) (sF3 : Same F F3) (le3 : Same F3 H3) (fro3 : ∀ (b : Addr) (o : HO), F3 b = some o → F b = some o ∨ H b = none) : SR Z F3 H3 σ δ own := by
  refine ⟨le3, fun b o e => ?_, s2.old.trans sH3, s2.len, fun i sw ei => ?_, s2.nod, fun i p hp => ?_, s2.sep⟩
  · rcases fro3 b o e with z | z
    · exact s2.fro b o z
    · exact .inr (s2.old.free z)
  · obtain ⟨w, h1, h2⟩ := s2.at' i sw ei
    exact ⟨w, h1, h2.mono sF3⟩
  · obtain ⟨a, b, c⟩ := s2.ok i p hp
    refine ⟨?_, b, sH3 _ _ c⟩
    cases z : F3 p.1 with
    | none => rfl
    | some u =>
      rcases fro3 _ u z with y | y
      · rw [a] at y; cases y
      · rw [c] at y; cases y
end
structure SrcOk (src : List BSrc) (k : Nat) : Prop where
  acc : src[k]? = some .acc
  uni : ∀ i : Nat, src[i]? = some .acc → i = k
theorem block_sr {Z : Ent K} {F H : Hp} {σ : St} {δ : DSt} {own : Nat → Nodes} {src : List BSrc} {k : Nat} {acc : Addr} (S : SrcOk src k) (s : SR Z F H σ δ own) (ha : H acc = none) :
    SR (ent H F : Ent K) F (upd H acc (.lst [])) (bSt src σ acc) (bD src δ) (fun i => if i = k then [(acc, .lst [])] else []) := by
  have mem : ∀ {i : Nat} {p : Addr × HO}, p ∈ (if i = k then [(acc, HO.lst [])] else []) → i = k ∧ p = (acc, .lst []) := fun {i p} h => by
    by_cases hi : i = k
    · rw [if_pos hi] at h; exact ⟨hi, List.mem_singleton.mp h⟩
    · rw [if_neg hi] at h; exact nomatch h
  refine ⟨s.le.trans (same_new ha), fun b o e => .inl e, same_new ha, by unfold bSt bD; rw [List.length_map, List.length_map], fun i sv e => ?_, fun i => ?_, fun i p hp => ?_, fun i j p q hij hp hq => ?_⟩
  · unfold bD at e
    rw [List.getElem?_map] at e
    cases hq : src[i]? with
    | none => rw [hq] at e; cases e
    | some q =>
      rw [hq] at e
      have e : bDSlot δ q = some sv := Option.some.inj e
      cases q with
      | own => cases e
      | acc =>
        cases e
        have hi := S.uni i hq
        refine ⟨.ref acc, by unfold bSt; rw [List.getElem?_map, hq]; rfl, ?_⟩
        show Shape K F (.ol []) (.ref acc) (if i = k then [(acc, .lst [])] else [])
        rw [if_pos hi]
        exact .ol .nil
      | cap j =>
        have hi : i ≠ k := fun z => by rw [z, S.acc] at hq; cases hq
        unfold bDSlot at e
        dsimp only at e
        split at e
        · rename_i d hd
          cases e
          obtain ⟨v, h1, h2⟩ := s.at' j _ (join_some hd)
          refine ⟨v, by unfold bSt; rw [List.getElem?_map, hq]; show some (σ[j]?).join = _; rw [h1]; rfl, ?_⟩
          show Shape K F (.fz d) v (if i = k then [(acc, .lst [])] else [])
          rw [if_neg hi]
          exact .fz (shape_fz h2)
        · cases e
  · show (adr (if i = k then [(acc, HO.lst [])] else [])).Nodup
    by_cases hi : i = k
    · rw [if_pos hi]; exact nd1
    · rw [if_neg hi]; exact List.nodup_nil
  · obtain ⟨_, rfl⟩ := mem hp
    exact ⟨s.le.free ha, ha, upd_same⟩
  · obtain ⟨z, _⟩ := mem hp
    obtain ⟨y, _⟩ := mem hq
    exact absurd (z.trans y.symm) hij
theorem l_comp {Z : Ent K} {H : Hp} {σ : St} {Q : VK} {src : List BSrc} {k : Nat} {fi : FD} {g : FG} {tt : FT} {te : FE} (S : SrcOk src k) (hk : k ∉ g.tch) (h : liftE Z (compF src k fi g tt te) σ H Q) :
    tComp src (liftI Z fi) (xG K g) (xT K tt) (xE K te) σ H Q := by
  obtain ⟨F, δ, own, rv, δ', s, e, k0⟩ := h
  obtain ⟨⟨ds, δ1⟩, e1, e2⟩ := Option.bind_eq_some_iff.mp e
  obtain ⟨⟨cs, δ2⟩, e3, e4⟩ := Option.bind_eq_some_iff.mp e2
  obtain ⟨δf, e5, e6⟩ := Option.bind_eq_some_iff.mp e4
  refine ⟨F, δ, own, ds, δ1, s, e1, fun J H1 F1 own1 sH sF s1 yl acc ha => ?_⟩
  obtain ⟨F2, own2, sF2, s2⟩ := s1.caps (fun rv hr => by
    unfold DL.caps at hr
    obtain ⟨b, _, hb⟩ := List.mem_filterMap.mp hr
    cases b with
    | own => cases hb
    | acc => cases hb
    | cap j => cases hb; exact ⟨j, rfl⟩) e3
  have s3 := block_sr S s2 ha
  have hacc0 : (bSt src σ acc)[k]? = some (some (.ref acc)) := by unfold bSt; rw [List.getElem?_map, S.acc]; rfl
  refine ⟨fun i m σ' H => m = ds.length - i ∧ i ≤ ds.length ∧ σ'[k]? = some (some (.ref acc)) ∧ ∃ F δ own, Same F2 F ∧ SR (ent H1 F2 : Ent K) F H σ' δ own ∧ compD src k g tt te (ds.drop i) δ = some δf,
    ⟨ds.length, by simp, Nat.zero_le _, hacc0, F2, _, _, Same.refl F2, s3, e5⟩, ?_⟩
  rintro i m σ4 H4 ⟨rfl, hi, hacc, F4, δ4, own4, sF4, s4, ef⟩
  by_cases hlt : i < ds.length
  · have hd : ds[i]? = some ds[i] := by simp [hlt]
    obtain ⟨go, yy⟩ := (yl F4 H4 (sF2.trans sF4) s4.le i).1 _ hd
    rw [List.drop_eq_getElem_cons hlt] at ef
    obtain ⟨δ5, e7, e8⟩ := Option.bind_eq_some_iff.mp ef
    obtain ⟨⟨b, δ6⟩, e9, e10⟩ := Option.bind_eq_some_iff.mp e8
    refine .inr ⟨go, fun x H5 hy => ?_⟩
    obtain ⟨sm, ns, nd, hn, rp⟩ := yy x H5 hy
    obtain ⟨sFn, sn⟩ := s4.fresh sm nd hn
    refine ⟨(ent H1 F2 : Ent K), addL F4 ns, δ4, own4, _, δ5, sn, rp, e7, fun σ6 own6 s6 t6 => ⟨(ent H1 F2 : Ent K), addL F4 ns, δ5, own6, b, δ6, s6, e9, fun H7 F7 own7 sH7 sF7 s7 => ?_⟩⟩
    have hacc6 : σ6[k]? = some (some (.ref acc)) := (t6 k hk).trans hacc
    cases b with
    | false =>
      dsimp only
      rw [if_neg Bool.false_ne_true] at e10 ⊢
      exact ⟨ds.length - (i + 1), by omega, rfl, hlt, hacc6, F7, _, own7, sF4.trans (sFn.trans sF7), s7.forget (reset_len src δ6) (fun j sv hj => reset_get hj), e10⟩
    | true =>
      dsimp only
      rw [if_pos rfl] at e10 ⊢
      obtain ⟨⟨rv8, δ8⟩, e11, e12⟩ := Option.bind_eq_some_iff.mp e10
      obtain ⟨⟨d9, δ9⟩, e13, e14⟩ := Option.bind_eq_some_iff.mp e12
      refine ⟨(ent H1 F2 : Ent K), F7, δ6, own7, rv8, δ8, s7, e11, fun y H8 F8 own8 sH8 sF8 s8 r8 => ?_⟩
      obtain ⟨F9, sF9, s9, r9⟩ := s8.settleR r8
      obtain ⟨F10, own10, sF10, s10, r10⟩ := s9.frzR r9 e13
      dsimp only at e14
      split at e14
      · rename_i zs hz
        by_cases hzl : zs.length < PySem.sizeLine
        · rw [if_pos hzl] at e14
          obtain ⟨v', hv', sh'⟩ := s10.at' k _ hz
          rw [hacc6] at hv'; cases hv'
          obtain ⟨b, vs, eb, en', r'⟩ := shape_ol sh'
          cases eb
          have mb : (acc, HO.lst vs) ∈ own10 k := by rw [en']; exact List.mem_cons_self
          refine ⟨acc, vs, y, rfl, rfl, (s10.ok k _ mb).2.2, by rw [← r'.length]; exact hzl, ?_⟩
          have s11 := s10.change (sv' := .ol (zs ++ [d9])) (o' := .lst (vs ++ [y])) (ns' := [(acc, .lst (vs ++ [y]))]) hz hacc6 mb (.ol (r'.snoc r10)) (fun p hp => .inl (List.mem_singleton.mp hp)) nd1
          exact ⟨ds.length - (i + 1), by omega, rfl, hlt, hacc6, F10, _, _, sF4.trans (sFn.trans (sF7.trans (sF8.trans (sF9.trans sF10)))), s11.forget (reset_len src _) (fun j sv hj => reset_get hj), e14⟩
        · rw [if_neg hzl] at e14; cases e14
      · cases e14
  · have hz : i = ds.length := by omega
    subst hz
    rw [List.drop_length] at ef
    cases ef
    refine .inl ⟨(yl F4 H4 (sF2.trans sF4) s4.le _).2 (Nat.le_refl _), ?_⟩
    dsimp only at e6
    split at e6
    · rename_i ys hys
      cases e6
      obtain ⟨v', hv', sh'⟩ := s4.at' k _ hys
      rw [hacc] at hv'; cases hv'
      obtain ⟨b, vs, eb, en', r'⟩ := shape_ol sh'
      cases eb
      have mb : (acc, HO.lst vs) ∈ own4 k := by rw [en']; exact List.mem_cons_self
      obtain ⟨o1, o2, o3⟩ := s4.ok k _ mb
      refine k0 (.ref acc) H4 F4 own2 (sH.trans s4.old) (sF.trans (sF2.trans sF4)) (s2.after s4.old sF4 s4.le fun b o e => s4.fro b o e) ⟨[(acc, .lst vs)], .ol r', nd1, fun p hp => ?_, fun j p q hp hq e => ?_⟩
      · obtain rfl := List.mem_singleton.mp hp
        exact ⟨o1, s2.old.free ha, o3⟩
      · obtain rfl := List.mem_singleton.mp hp
        have z := (s2.ok j q hq).2.2
        have e' : acc = q.1 := e
        rw [← e', ha] at z; cases z
    · cases e6
end DL

namespace DL
open PySem PySem.Spec PyProof.Rows L2
variable {K : PySem.W.Frag}
variable {Z : Ent K}

@[simp] noncomputable def intI (f : Int → Int → D) : D → D → Option SV
  | .int i, .int j => some (.fz (f i j))
  | _, _ => none
@[simp] noncomputable def intC (C : Int → Int → Bool) (f : Int → Int → D) : D → D → Option SV
  | .int i, .int j => if C i j = true then some (.fz (f i j)) else none
  | _, _ => none
theorem p_rI0 {g : Int → Int → V} {f : Int → Int → D} (hr : ∀ F i j, Rep K F (f i j) (g i j)) : Prim2 Z (rI0 g) (intI f) := by
  intro F H σ δ own x y d1 d2 sv Q s r1 r2 e k
  unfold intI at e
  split at e
  · cases e
    exact ⟨_, _, r1.int, r2.int, k.fz s (hr _ _ _)⟩
  · cases e
theorem p_rI {C : Int → Int → Prop} {c : Int → Int → Bool} {g : Int → Int → V} {f : Int → Int → D} (hc : ∀ i j, c i j = true → C i j) (hr : ∀ F i j, Rep K F (f i j) (g i j)) : Prim2 Z (rI C g) (intC c f) := by
  intro F H σ δ own x y d1 d2 sv Q s r1 r2 e k
  unfold intC at e
  split at e
  · split at e
    · rename_i hcc
      cases e
      exact ⟨_, _, r1.int, r2.int, hc _ _ hcc, k.fz s (hr _ _ _)⟩
    · cases e
  · cases e
@[simp] noncomputable def subD : D → D → Option SV := intI fun i j => .int (i - j)
noncomputable def cMul (i j : Int) : Bool := (decide (-(2 ^ 64) < i) && decide (i < 2 ^ 64)) || (decide (-(2 ^ 64) < j) && decide (j < 2 ^ 64))
@[simp] noncomputable def mulD : D → D → Option SV := intC cMul fun i j => .int (i * j)
@[simp] noncomputable def cDiv (i j : Int) : Bool := decide (0 < j) && decide (j < 1073741824)
@[simp] noncomputable def fdivD : D → D → Option SV := intC cDiv fun i j => .int (i / j)
@[simp] noncomputable def cMod (i j : Int) : Bool := decide (0 < j)
@[simp] noncomputable def modD : D → D → Option SV := intC cMod fun i j => .int (i % j)
@[simp] noncomputable def cPow (i j : Int) : Bool := decide (0 ≤ j) && decide (j ≤ 1000000) && decide (i.natAbs < 2 ^ 64)
@[simp] noncomputable def powD : D → D → Option SV := intC cPow fun i j => .int (i ^ j.toNat)
theorem p_sub : Prim2 Z (rI0 fun i j => V.int (i - j)) subD := p_rI0 fun _ _ _ => .int _
theorem p_mul : Prim2 Z (rI CMul fun i j => V.int (i * j)) mulD := p_rI (fun i j h => by
  unfold cMul at h
  simp only [Bool.or_eq_true, Bool.and_eq_true, decide_eq_true_eq] at h
  exact h) fun _ _ _ => .int _
theorem p_fdiv : Prim2 Z (rI CDiv fun i j => V.int (i / j)) fdivD := p_rI (fun i j h => by
  unfold cDiv at h
  simp only [Bool.and_eq_true, decide_eq_true_eq] at h
  exact h) fun _ _ _ => .int _
theorem p_mod : Prim2 Z (rI (fun _ j => 0 < j) fun i j => V.int (i % j)) modD := p_rI (fun i j h => by
  unfold cMod at h
  simp only [decide_eq_true_eq] at h
  exact h) fun _ _ _ => .int _
@[simp] noncomputable def ltD : D → D → Option SV := intI fun i j => .bl (decide (i < j))
@[simp] noncomputable def leD : D → D → Option SV := intI fun i j => .bl (decide (i ≤ j))
@[simp] noncomputable def gtD : D → D → Option SV := intI fun i j => .bl (decide (j < i))
@[simp] noncomputable def geD : D → D → Option SV := intI fun i j => .bl (decide (j ≤ i))
theorem p_lt : Prim2 Z (rI0 fun i j => V.bl (decide (i < j))) ltD := p_rI0 fun _ _ _ => .bl _
theorem p_le : Prim2 Z (rI0 fun i j => V.bl (decide (i ≤ j))) leD := p_rI0 fun _ _ _ => .bl _
theorem p_gt : Prim2 Z (rI0 fun i j => V.bl (decide (j < i))) gtD := p_rI0 fun _ _ _ => .bl _

noncomputable def rStr : R2 := fun x y H Q => ∃ i j, x = .str i ∧ y = .str j ∧ i.length + j.length ≤ PySem.sizeLine ∧ Q (.str (i ++ j)) H
noncomputable def rCatR (K : PySem.W.Frag) : R2 := fun x y H Q => ∃ l b xs zs, x = .ref l ∧ y = .ref b ∧ SqL K H l xs ∧ SqL K H b zs ∧ xs.length + zs.length ≤ PySem.sizeLine ∧ ∀ p, H p = none → Q (.ref p) (upd H p (.lst (xs ++ zs)))
theorem op_catR {X : Cx} : OpR X (binaryOp .Add) (rCatR X.K) := by
  intro pins s σ H x y v u Q I rx ry h
  obtain ⟨l, b, xs, zs, rfl, rfl, hH, hB, hz, q⟩ := h
  cases rx
  cases ry
  obtain ⟨its, r, pl, z⟩ := I.list hH
  obtain ⟨its2, r2, pl2, z2⟩ := I.list hB
  have hl := r.length
  have hl2 := r2.length
  obtain ⟨⟨cls, dd, data, sl⟩, ho, hc, n, hd⟩ := pl.isList
  obtain ⟨⟨cls2, dd2, data2, sl2⟩, ho2, hc2, n2, hd2⟩ := pl2.isList
  simp only at hc hd hc2 hd2
  subst hc hd hc2 hd2
  have ea : its.toArray ++ its2.toArray = (its ++ its2).toArray := by simp
  refine concat_meets ⟨_, ho, rfl⟩ ⟨_, ho2, rfl⟩ noFill_list_add seq_list_add PySem.F.slot_list_add PySem.F.entry_list_add (PySem.F.args_list_add_2 _ _) (list_addW l b its.toArray its2.toArray n n2 dd dd2 sl sl2 (by rw [List.size_toArray, List.size_toArray]; omega)) ⟨ho, ho2, ?_⟩
  rw [ea]
  exact ⟨.ref _, _, I.lnew (t' := s.toks) (r.append r2) (by rw [List.length_append]; omega), rfl, q _ I.fresh⟩
noncomputable def rAdd3 (K : PySem.W.Frag) : R2 := fun x y H Q => rI0 (fun i j => V.int (i + j)) x y H Q ∨ (rStr x y H Q ∨ rCatR K x y H Q)
theorem op_add3 {X : Cx} : OpR X (binaryOp .Add) (rAdd3 X.K) := op_add.or (op_add_str.or op_catR)
@[simp] noncomputable def addD : D → D → Option SV
  | .int i, .int j => some (.fz (.int (i + j)))
  | .str x, .str y => if x.length + y.length ≤ PySem.sizeLine then some (.fz (.str (x ++ y))) else none
  | .lst xs, .lst ys => if xs.length + ys.length ≤ PySem.sizeLine then some (.ol (xs ++ ys)) else none
  | _, _ => none
theorem p_add : Prim2 Z (rAdd3 K) addD := by
  intro F H σ δ own x y d1 d2 sv Q s r1 r2 e k
  unfold addD at e
  split at e
  · cases e
    exact .inl ⟨_, _, r1.int, r2.int, k.fz s (.int _)⟩
  · split at e
    · rename_i hz
      cases e
      exact .inr (.inl ⟨_, _, r1.str, r2.str, hz, k.fz s (.str _)⟩)
    · cases e
  · split at e
    · rename_i hz
      cases e
      obtain ⟨a, vs, ex, ha, ra⟩ := r1.lst s.le
      obtain ⟨b, us, ey, hb, rb⟩ := r2.lst s.le
      exact .inr (.inr ⟨a, b, vs, us, ex, ey, ha, hb, by rw [← ra.length, ← rb.length]; exact hz, fun p hp => k.lst s (ra.append rb) hp⟩)
    · cases e
  · cases e

@[simp] noncomputable def eqS : D → D → Option Bool
  | .non, .non => some true
  | .non, .int _ => some false
  | .int _, .non => some false
  | .non, .bl _ => some false
  | .bl _, .non => some false
  | .non, .str _ => some false
  | .str _, .non => some false
  | .int i, .int j => some (decide (i = j))
  | .bl i, .bl j => some (decide (i = j))
  | .str i, .str j => some (decide (i = j))
  | .int _, .str _ => some false
  | .str _, .int _ => some false
  | .bl _, .str _ => some false
  | .str _, .bl _ => some false
  | _, _ => none
theorem eqS_ok {F H : Hp} {d1 d2 : D} {x y : V} {b : Bool} (e : eqS d1 d2 = some b) (r1 : RepN K F H d1 x) (r2 : RepN K F H d2 y) : scal x y = true ∧ b = decide (x = y) := by
  unfold eqS at e
  split at e <;> cases e
  · rw [r1.non, r2.non]; exact ⟨rfl, by simp⟩
  · rw [r1.non, r2.int]; exact ⟨rfl, by simp⟩
  · rw [r1.int, r2.non]; exact ⟨rfl, by simp⟩
  · rw [r1.non, r2.bl]; exact ⟨rfl, by simp⟩
  · rw [r1.bl, r2.non]; exact ⟨rfl, by simp⟩
  · rw [r1.non, r2.str]; exact ⟨rfl, by simp⟩
  · rw [r1.str, r2.non]; exact ⟨rfl, by simp⟩
  · rw [r1.int, r2.int]; exact ⟨rfl, by simp⟩
  · rw [r1.bl, r2.bl]; exact ⟨rfl, by simp⟩
  · rw [r1.str, r2.str]; exact ⟨rfl, by simp⟩
  · rw [r1.int, r2.str]; exact ⟨rfl, by simp⟩
  · rw [r1.str, r2.int]; exact ⟨rfl, by simp⟩
  · rw [r1.bl, r2.str]; exact ⟨rfl, by simp⟩
  · rw [r1.str, r2.bl]; exact ⟨rfl, by simp⟩
@[simp] noncomputable def eqD (d1 d2 : D) : Option SV := (eqS d1 d2).bind fun b => some (.fz (.bl b))
@[simp] noncomputable def neD (d1 d2 : D) : Option SV := (eqS d1 d2).bind fun b => some (.fz (.bl (!b)))
theorem p_eq : Prim2 Z rEq eqD := by
  intro F H σ δ own x y d1 d2 sv Q s r1 r2 e k
  obtain ⟨b, e1, e2⟩ := Option.bind_eq_some_iff.mp e
  cases e2
  obtain ⟨h1, h2⟩ := eqS_ok e1 r1 r2
  subst h2
  exact ⟨h1, k.fz s (.bl _)⟩
theorem p_ne : Prim2 Z rNe neD := by
  intro F H σ δ own x y d1 d2 sv Q s r1 r2 e k
  obtain ⟨b, e1, e2⟩ := Option.bind_eq_some_iff.mp e
  cases e2
  obtain ⟨h1, h2⟩ := eqS_ok e1 r1 r2
  subst h2
  exact ⟨h1, k.fz s (.bl _)⟩
@[simp] noncomputable def D.isNon : D → Bool
  | .non => true
  | _ => false
@[simp] noncomputable def isND (d1 d2 : D) : Option SV := if d2.isNon = true then some (.fz (.bl d1.isNon)) else none
@[simp] noncomputable def notND (d1 d2 : D) : Option SV := if d2.isNon = true then some (.fz (.bl (!d1.isNon))) else none

theorem Reps.atI {F : Hp} {xs : List D} {vs : List V} {i : Int} {d : D} (r : Reps K F xs vs) (e : L2.atI xs i = some d) : ∃ v, L2.atI vs i = some v ∧ Rep K F d v := by
  unfold L2.atI at e ⊢
  obtain ⟨j, e1, e2⟩ := Option.bind_eq_some_iff.mp e
  obtain ⟨v, h1, h2⟩ := r.get e2
  exact ⟨v, Option.bind_eq_some_iff.mpr ⟨j, by rw [← r.length]; exact e1, h1⟩, h2⟩
@[simp] noncomputable def ixD : D → D → Option SV
  | .lst xs, .int i => (L2.atI xs i).bind fun d => some (.fz d)
  | .tup xs, .int i => (L2.atI xs i).bind fun d => some (.fz d)
  | .str z, .int i => if z.length ≤ PySem.sizeLine then (L2.atI z.cps.toList i).bind fun c => some (.fz (.str ⟨#[c]⟩)) else none
  | _, _ => none
theorem p_ix : Prim2 Z (rIx K) ixD := by
  intro F H σ δ own x y d1 d2 sv Q s r1 r2 e k
  unfold ixD at e
  split at e
  · obtain ⟨d, e1, e2⟩ := Option.bind_eq_some_iff.mp e
    cases e2
    obtain ⟨a, vs, ex, ha, ra⟩ := r1.lst s.le
    obtain ⟨v, h1, h2⟩ := ra.atI e1
    exact .inl ⟨a, vs, _, v, ex, r2.int, ha, h1, k.fz s h2⟩
  · obtain ⟨d, e1, e2⟩ := Option.bind_eq_some_iff.mp e
    cases e2
    obtain ⟨a, vs, ex, ha, ra⟩ := r1.tup s.le
    obtain ⟨v, h1, h2⟩ := ra.atI e1
    exact .inr (.inl ⟨a, vs, _, v, ex, r2.int, ha, h1, k.fz s h2⟩)
  · split at e
    · rename_i hz
      obtain ⟨c, e1, e2⟩ := Option.bind_eq_some_iff.mp e
      cases e2
      exact .inr (.inr ⟨_, _, c, r1.str, r2.int, hz, e1, k.fz s (.str _)⟩)
    · cases e
  · cases e
noncomputable abbrev FO := DSt → Option (Option Int × DSt)
noncomputable def liftO (Z : Ent K) (f : FO) : TO := fun σ H Q => ∃ F δ own o δ', SR Z F H σ δ own ∧ f δ = some (o, δ') ∧ ∀ H' F' own', Same H H' → Same F F' → SR Z F' H' σ δ' own' → Q o H'
@[simp] noncomputable def noPart : FO := fun δ => some (none, δ)
@[simp] noncomputable def partF (fe : FE) : FO := fun δ => (fe δ).bind fun p => match p.1 with
  | .tmp (.fz (.int i)) => some (some i, p.2)
  | _ => none
section
variable {H : Hp} {σ : L2.St} {Q : VK} {R : Option Int → Hp → Prop}
theorem l_noPart (h : liftO Z noPart σ H R) : tNoPart σ H R := by
  obtain ⟨F, δ, own, o, δ', s, e, k⟩ := h
  cases e
  exact k H F own (Same.refl H) (Same.refl F) s
theorem l_part {fe : FE} (h : liftO Z (partF fe) σ H R) : tPart (liftE Z fe) σ H R := by
  obtain ⟨F, δ, own, b, δ', s, e, k⟩ := h
  obtain ⟨⟨rv, δ1⟩, e1, e2⟩ := Option.bind_eq_some_iff.mp e
  refine ⟨F, δ, own, rv, δ1, s, e1, fun v H1 F1 own1 sH sF s1 r1 => ?_⟩
  dsimp only at e2
  split at e2
  · cases e2
    obtain ⟨ns, t⟩ := r1
    cases shape_fz t.sh
    exact ⟨_, rfl, k H1 F1 own1 sH sF s1⟩
  · cases e2
@[simp] noncomputable def slF (g : D → Option Int → Option Int → Option SV) (fe : FE) (fl fh : FO) : FE := fun δ => (fe δ).bind fun p => (fl p.2).bind fun l => (fh l.2).bind fun h => (rdv p.1 h.2).bind fun d => (g d l.1 h.1).bind fun sv => some (.tmp sv, h.2)
noncomputable def PrimS (Z : Ent K) (r : V → Option Int → Option Int → Hp → VK → Prop) (g : D → Option Int → Option Int → Option SV) : Prop :=
  ∀ (F H : Hp) (σ : L2.St) (δ : DSt) (own : Nat → Nodes) (x : V) (d : D) (lo hi : Option Int) (sv : SV) (Q : VK), SR Z F H σ δ own → RepN K F H d x → g d lo hi = some sv → Fin Z F H σ δ own sv Q → r x lo hi H Q
theorem l_sl {r : V → Option Int → Option Int → Hp → VK → Prop} {g : D → Option Int → Option Int → Option SV} {fe : FE} {fl fh : FO} (hg : PrimS Z r g) (h : liftE Z (slF g fe fl fh) σ H Q) : tSl r (liftE Z fe) (liftO Z fl) (liftO Z fh) σ H Q := by
  obtain ⟨F, δ, own, rv, δ', s, e, k⟩ := h
  obtain ⟨⟨rv1, δ1⟩, e1, e⟩ := Option.bind_eq_some_iff.mp e
  obtain ⟨⟨lo, δ2⟩, e2, e⟩ := Option.bind_eq_some_iff.mp e
  obtain ⟨⟨hi, δ3⟩, e3, e⟩ := Option.bind_eq_some_iff.mp e
  obtain ⟨d, e4, e⟩ := Option.bind_eq_some_iff.mp e
  obtain ⟨sv, e5, e⟩ := Option.bind_eq_some_iff.mp e
  cases e
  refine ⟨F, δ, own, rv1, δ1, s, e1, fun v H1 F1 own1 sH1 sF1 s1 r1 => ?_⟩
  obtain ⟨F1', sF1', s1', r1'⟩ := s1.settleR r1
  refine ⟨F1', δ1, own1, lo, δ2, s1', e2, fun H2 F2 own2 sH2 sF2 s2 => ⟨F2, δ2, own2, hi, δ3, s2, e3, fun H3 F3 own3 sH3 sF3 s3 => ?_⟩⟩
  exact hg F3 H3 σ δ3 own3 v d lo hi sv Q s3 (s3.rd (r1'.mono (sF2.trans sF3)) e4) e5 fun q H4 F4 ns sH4 sF4 s4 t4 =>
    k q H4 F4 own3 (sH1.trans (sH2.trans (sH3.trans sH4))) (sF1.trans (sF1'.trans (sF2.trans (sF3.trans sF4)))) s4 ⟨ns, t4⟩
end
noncomputable def cutD (xs : List D) (lo hi : Option Int) : List D := (xs.drop (HT.sIx xs.length 0 lo)).take (HT.sIx xs.length xs.length hi - HT.sIx xs.length 0 lo)
theorem Reps.cut {F : Hp} {xs : List D} {vs : List V} (r : Reps K F xs vs) (lo hi : Option Int) : Reps K F (cutD xs lo hi) (cutV vs lo hi) := by
  unfold cutD cutV
  rw [r.length]
  exact (r.drop _).take _
noncomputable def rSlS : V → Option Int → Option Int → Hp → VK → Prop := fun x lo hi H Q => ∃ z, x = .str z ∧ z.length ≤ PySem.sizeLine ∧ Q (.str (Txt.slice z lo hi)) H
theorem sl_str {X : Cx} : SlR X rSlS := by
  intro pins s σ H x v vl vu lo hi sl Q I rx hs pl pu h
  obtain ⟨z, rfl, hz, q⟩ := h
  obtain ⟨t, rfl⟩ := rx
  refine ⟨"str", _, F.slot_str_getitem.lookup, typeIs_str _ _ _, ?_⟩
  have fin : ∀ (t' : Tok) (k : Nat), EP X pins σ Q (.str (Txt.slice z lo hi) t') { s with toks := k } := fun t' k => ⟨.str (Txt.slice z lo hi), H, I.tok _, ⟨_, rfl⟩, q⟩
  cases pl with
  | none => cases pu with
    | none => exact wpAny_getItem_str_slice (l := none) (u := none) (st := none) hs rfl (post_val_or_str ⟨Nat.le_trans (Txt.slice_le z _ _) hz, fin⟩)
    | int j tj => exact wpAny_getItem_str_slice (l := none) (u := some (j, tj)) (st := none) hs rfl (post_val_or_str ⟨Nat.le_trans (Txt.slice_le z _ _) hz, fin⟩)
  | int i ti => cases pu with
    | none => exact wpAny_getItem_str_slice (l := some (i, ti)) (u := none) (st := none) hs rfl (post_val_or_str ⟨Nat.le_trans (Txt.slice_le z _ _) hz, fin⟩)
    | int j tj => exact wpAny_getItem_str_slice (l := some (i, ti)) (u := some (j, tj)) (st := none) hs rfl (post_val_or_str ⟨Nat.le_trans (Txt.slice_le z _ _) hz, fin⟩)
@[simp] noncomputable def slD : D → Option Int → Option Int → Option SV
  | .lst xs, lo, hi => some (.ol (cutD xs lo hi))
  | .str z, lo, hi => if z.length ≤ PySem.sizeLine then some (.fz (.str (Txt.slice z lo hi))) else none
  | _, _, _ => none
theorem p_sl : PrimS Z (fun x lo hi H Q => rSlL K x lo hi H Q ∨ rSlS x lo hi H Q) slD := by
  intro F H σ δ own x d lo hi sv Q s r1 e k
  unfold slD at e
  split at e
  · cases e
    obtain ⟨a, vs, ex, ha, ra⟩ := r1.lst s.le
    exact .inl ⟨a, vs, ex, ha, fun p hp => k.lst s (ra.cut _ _) hp⟩
  · split at e
    · rename_i hz
      cases e
      exact .inr ⟨_, r1.str, hz, k.fz s (.str _)⟩
    · cases e
  · cases e
end DL

namespace L2
open PySem PySem.Spec PyProof.Rows
section
variable {X : Cx} {tg : Expr}

noncomputable def Ite (K : PySem.W.Frag) (a : Addr) : It :=
  ⟨fun i H => ∃ xs x, SqL K H a xs ∧ xs[i]? = some x, fun i H x H' => ∃ p v, x = .ref p ∧ H p = none ∧ H' = upd H p (.tup [.int (i : Nat), v]) ∧ ∀ xs, SqL K H a xs → xs[i]? = some v, fun i H => ∃ xs, SqL K H a xs ∧ xs.length ≤ i⟩
noncomputable def iEnum (K : PySem.W.Frag) (ta : TA) : TI := fun σ H R => ta σ H fun vs H1 => ∃ a xs, vs = [.ref a] ∧ SqL K H1 a xs ∧ R (Ite K a) H1

theorem strs_of : ∀ {xs : List Str} {us : List Value}, Vals (xs.map V.str) us → ∃ l : List (Str × Tok), us = strValues l ∧ l.map (·.1) = xs
  | [], _, r => by rw [List.map_nil] at r; cases r; exact ⟨[], rfl, rfl⟩
  | x :: xs, _, r => by
    rw [List.map_cons] at r
    cases r with
    | cons h t =>
      obtain ⟨tk, rfl⟩ := h
      obtain ⟨l, e1, e2⟩ := strs_of t
      exact ⟨(x, tk) :: l, by rw [e1]; rfl, by rw [List.map_cons, e2]⟩
noncomputable def rJoin (K : PySem.W.Frag) : V → List V → Hp → VK → Prop := fun x xs H Q => ∃ sep p ys, x = .str sep ∧ xs = [.ref p] ∧ SqL K H p (ys.map V.str) ∧ JoinOk sep ys = true ∧ Q (.str (Txt.join sep ys)) H
theorem mt_join : MtR X "str.join" (rJoin X.K) := by
  intro pins s σ H x xs v us Q I rx rs h
  obtain ⟨sep, p, ys, rfl, rfl, hq, hok, q⟩ := h
  obtain ⟨t, rfl⟩ := rx
  obtain ⟨u, rfl, ru⟩ := vals1 rs
  cases ru
  obtain ⟨its, rv, pl, hz⟩ := I.list hq
  obtain ⟨l, e1, e2⟩ := strs_of rv
  subst e1
  exact SC.join pl.isList e2 hok fun t' k => ⟨.str (Txt.join sep ys), H, I.tok _, ⟨_, rfl⟩, q⟩
inductive TyX (K : PySem.W.Frag) (H : Hp) : V → String → Prop where
  | non : TyX K H .non "NoneType"
  | bl (x : Bool) : TyX K H (.bl x) "bool"
  | int (i : Int) : TyX K H (.int i) "int"
  | str (x : Str) : TyX K H (.str x) "str"
  | lst {a : Addr} {xs : List V} (e : SqL K H a xs) : TyX K H (.ref a) "list"
  | tup {a : Addr} {xs : List V} (e : SqT K H a xs) : TyX K H (.ref a) "tuple"
  | dK {a : Addr} {kvs : List (Key × V)} {ep : Nat} (e : H a = some (.dK kvs ep)) : TyX K H (.ref a) "dict"
  | dT {a : Addr} {kvs : List (List Key × V)} {ep : Nat} {bs : List Addr} (e : H a = some (.dT kvs ep bs)) : TyX K H (.ref a) "dict"
theorem isinst_X {pins : List (Addr × Obj)} {σ : L2.St} {H : Hp} {s : Shared} {A : Around} {E : Value → Shared → Prop} {Q : Value → Shared → Prop} {c : Value} {b : Bool} {x : V} {u : Value} {T : String} (I : Inv X pins σ H s) (rx : RelV x u) (ty : TyX X.K H x T) (e : PySem.W.kitOne X.K (.type T) c = some b) (h : ∀ tk, Q (.bool b) { s with toks := tk }) :
    wpAny (model X.prog X.w) A (call (.builtin "isinstance") [u, c]) Q E s := by
  cases ty with
  | non => cases (show u = Value.none from rx); exact PySem.W.kia_one PySem.W.kitx_none I.kIn True.intro e (fun z => nomatch z) h
  | bl y => cases (show u = Value.bool y from rx); exact PySem.W.kia_one PySem.W.kitx_bool I.kIn True.intro e (fun z => nomatch z) h
  | int i => obtain ⟨t, q⟩ := (show ∃ t, u = Value.int i t from rx); cases q; exact PySem.W.kia_one PySem.W.kitx_int I.kIn True.intro e (fun z => nomatch z) h
  | str y => obtain ⟨t, q⟩ := (show ∃ t, u = Value.str y t from rx); cases q; exact PySem.W.kia_one PySem.W.kitx_str I.kIn True.intro e (fun z => nomatch z) h
  | @lst a xs ea =>
    cases (show u = Value.ref a from rx)
    obtain ⟨its, _, pl, _⟩ := I.list ea
    obtain ⟨o, h1, h2, _⟩ := pl.isList
    exact PySem.W.kia_one PySem.W.kitx_list I.kIn ⟨o, h1, h2⟩ e (fun z => nomatch z) h
  | @tup a xs ea =>
    cases (show u = Value.ref a from rx)
    obtain ⟨its, _, pl, _⟩ := I.tuple ea
    obtain ⟨o, h1, h2, _⟩ := pl
    exact PySem.W.kia_one PySem.W.kitx_tuple I.kIn ⟨o, h1, h2⟩ e (fun z => nomatch z) h
  | @dK a kvs ep ea =>
    cases (show u = Value.ref a from rx)
    obtain ⟨_, _, vs, _, p⟩ := (show ObjOk X.prog X.w H s.heap a (.dK kvs ep) from I.hok a _ ea)
    obtain ⟨o, es, h1, h2, _⟩ := p
    exact PySem.W.kia_one PySem.W.kitx_dict I.kIn ⟨o, h1, h2.1⟩ e (fun z => nomatch z) h
  | @dT a kvs ep bs ea =>
    cases (show u = Value.ref a from rx)
    obtain ⟨_, _, xs, _, o, es, h1, h2, _⟩ := (show ObjOk X.prog X.w H s.heap a (.dT kvs ep bs) from I.hok a _ ea)
    exact PySem.W.kia_one PySem.W.kitx_dict I.kIn ⟨o, h1, h2.1⟩ e (fun z => nomatch z) h
noncomputable def rIsI (K : PySem.W.Frag) (c : String) : List V → Hp → VK → Prop := fun xs H Q => ∃ x t b, xs = [x, .ty c] ∧ TyX K H x t ∧ PySem.W.kitOne K (.type t) (.type c) = some b ∧ Q (.bl b) H
theorem call_isi {c : String} : CallR X (.builtin "isinstance") (rIsI X.K c) := by
  intro pins s σ H xs us Q I r h
  obtain ⟨x, t, b, rfl, ty, e, q⟩ := h
  obtain ⟨u, w', rfl, r1, r2⟩ := vals2 r
  cases r2
  exact isinst_X I r1 ty e fun tk => ⟨.bl b, H, I.tok _, rfl, q⟩
end
end L2

namespace DL
open PySem PySem.Spec PyProof.Rows L2
variable {K : PySem.W.Frag}

noncomputable def enumL (xs : List D) : List D := xs.zipIdx.map fun p => .tup [.int (p.2 : Nat), p.1]
section
variable {Z : Ent K} {H : Hp} {σ : L2.St} {Q : VK}
@[simp] noncomputable def enumI (fd : FD) : FD := fun δ => (fd δ).bind fun p => match p.1 with
  | [.lst xs] => some (enumL xs, p.2)
  | _ => none
@[simp] noncomputable def D.ty : D → String
  | .str _ => "str"
  | .int _ => "int"
  | .lst _ => "list"
  | .dK _ _ => "dict"
  | .dT _ _ => "dict"
  | _ => "?"
@[simp] noncomputable def tyOk (T : String) (d : D) : Bool := T == d.ty && (T == "str" || T == "list" || T == "dict")
theorem ty_ok {F H : Hp} {d : D} {x : V} {T : String} (le : Same F H) (r : RepN K F H d x) (h : tyOk T d = true) : tyV K T x H := by
  unfold tyOk at h
  simp only [Bool.and_eq_true, beq_iff_eq] at h
  obtain ⟨h1, h2⟩ := h
  subst h1
  cases d with
  | str y => rw [r.str]; rfl
  | lst xs =>
    obtain ⟨a, vs, e, ha, _⟩ := r.lst le
    subst e
    exact .inl ⟨rfl, vs, ha⟩
  | dK ks vs =>
    obtain ⟨a, kvs, e, ⟨ep, ha⟩, _⟩ := r.dK le
    subst e
    exact .inr (.inr (.inl ⟨rfl, .inl ⟨kvs, ep, ha⟩⟩))
  | dT ks vs =>
    obtain ⟨a, kvs, e, ⟨ep, bs, ha⟩, _⟩ := r.dT le
    subst e
    exact .inr (.inr (.inl ⟨rfl, .inr ⟨kvs, ep, bs, ha⟩⟩))
  | non => exact absurd (show ("?" == "str" || "?" == "list" || "?" == "dict") = true from h2) (by decide)
  | bl b => exact absurd (show ("?" == "str" || "?" == "list" || "?" == "dict") = true from h2) (by decide)
  | int i => exact absurd (show ("int" == "str" || "int" == "list" || "int" == "dict") = true from h2) (by decide)
  | tup xs => exact absurd (show ("?" == "str" || "?" == "list" || "?" == "dict") = true from h2) (by decide)
  | exc C ks vs => exact absurd (show ("?" == "str" || "?" == "list" || "?" == "dict") = true from h2) (by decide)
@[simp] noncomputable def bmF (T : String) (g : List D → Option SV) (fo : FE) (fa : FA) : FE := fun δ => (fo δ).bind fun p => (rdv p.1 p.2).bind fun d0 => if tyOk T d0 = true then (fa p.2).bind fun q => (readAll (p.1 :: q.1) q.2).bind fun ds => (g ds).bind fun sv => some (.tmp sv, q.2) else none
noncomputable def PrimM (Z : Ent K) (r : V → List V → Hp → VK → Prop) (g : List D → Option SV) : Prop := PrimN Z (fun vs H Q => ∃ x xs, vs = x :: xs ∧ r x xs H Q) g
theorem l_bm {T : String} {r : V → List V → Hp → VK → Prop} {g : List D → Option SV} {fo : FE} {fa : FA} (hg : PrimM Z r g) (h : liftE Z (bmF T g fo fa) σ H Q) : tBM K T r (liftE Z fo) (liftA Z fa) σ H Q := by
  obtain ⟨F, δ, own, rv, δ', s, e, k⟩ := h
  obtain ⟨⟨rv1, δ1⟩, e1, e⟩ := Option.bind_eq_some_iff.mp e
  obtain ⟨d0, e2, e⟩ := Option.bind_eq_some_iff.mp e
  dsimp only at e
  split at e
  · rename_i ht
    obtain ⟨⟨rvs, δ2⟩, e3, e⟩ := Option.bind_eq_some_iff.mp e
    obtain ⟨ds, e4, e⟩ := Option.bind_eq_some_iff.mp e
    obtain ⟨sv, e5, e⟩ := Option.bind_eq_some_iff.mp e
    cases e
    refine ⟨F, δ, own, rv1, δ1, s, e1, fun v H1 F1 own1 sH1 sF1 s1 r1 => ?_⟩
    obtain ⟨F1', sF1', s1', r1'⟩ := s1.settleR r1
    refine ⟨ty_ok s1'.le (s1'.rd r1' e2) ht, F1', δ1, own1, rvs, δ2, s1', e3, fun vs H2 F2 own2 sH2 sF2 s2 r2 => ?_⟩
    obtain ⟨x, xs, ex, q⟩ := hg F2 H2 σ δ2 own2 (v :: vs) ds sv Q s2 (s2.rdAll (.cons (r1'.mono sF2) r2) e4) e5 fun q H4 F4 ns sH4 sF4 s4 t4 =>
      k q H4 F4 own2 (sH1.trans (sH2.trans sH4)) (sF1.trans (sF1'.trans (sF2.trans sF4))) s4 ⟨ns, t4⟩
    injection ex with ex1 ex2
    subst ex1 ex2
    exact q
  · cases e
end
@[simp] noncomputable def strs? : List D → Option (List Str)
  | [] => some []
  | .str x :: r => (strs? r).bind fun t => some (x :: t)
  | _ => none
theorem strs_ok {F : Hp} : ∀ {ds : List D} {xs : List Str} {vs : List V}, strs? ds = some xs → Reps K F ds vs → vs = xs.map V.str
  | [], _, _, e, r => by cases e; cases r; rfl
  | d :: r, xs, vs, e, q => by
    cases q with
    | cons h t =>
      unfold strs? at e
      split at e
      · rename_i e0; cases e0
      · rename_i x r' e0
        cases e0
        obtain ⟨ys, e1, e2⟩ := Option.bind_eq_some_iff.mp e
        cases e2
        cases h
        rw [strs_ok e1 t]; rfl
      · cases e
@[simp] noncomputable def joinD : List D → Option SV
  | [.str sep, .lst xs] => (strs? xs).bind fun ys => if JoinOk sep ys = true then some (.fz (.str (Txt.join sep ys))) else none
  | _ => none
variable {Z : Ent K}
@[simp] noncomputable def D.pyTy : D → String
  | .non => "NoneType"
  | .bl _ => "bool"
  | .int _ => "int"
  | .str _ => "str"
  | .tup _ => "tuple"
  | .lst _ => "list"
  | .dK _ _ => "dict"
  | .dT _ _ => "dict"
  | .exc _ _ _ => "?"
@[simp] noncomputable def D.isExc : D → Bool
  | .exc _ _ _ => true
  | _ => false
theorem tyOf_ok {F H : Hp} {d : D} {x : V} (le : Same F H) (r : RepN K F H d x) (hx : d.isExc = false) : TyX K H x d.pyTy := by
  cases d with
  | exc C ks vs => cases hx
  | non => rw [r.non]; exact .non
  | bl b => rw [r.bl]; exact .bl b
  | int i => rw [r.int]; exact .int i
  | str y => rw [r.str]; exact .str y
  | tup xs => obtain ⟨a, vs, e, ha, _⟩ := r.tup le; subst e; exact .tup ha
  | lst xs =>
    obtain ⟨a, vs, e, ha, _⟩ := r.lst le
    subst e
    exact .lst ha
  | dK ks vs => obtain ⟨a, kvs, e, ⟨ep, ha⟩, _⟩ := r.dK le; subst e; exact .dK ha
  | dT ks vs => obtain ⟨a, kvs, e, ⟨ep, bs, ha⟩, _⟩ := r.dT le; subst e; exact .dT ha
@[simp] noncomputable def isiD (c : String) (d : D) : Option SV := if d.isExc = true then none else some (.fz (.bl (d.pyTy == c || (c == "int" && d.pyTy == "bool"))))
theorem p_isi {c : String} (hk : ∀ d : D, d.isExc = false → PySem.W.kitOne K (.type d.pyTy) (.type c) = some (d.pyTy == c || (c == "int" && d.pyTy == "bool"))) : Prim1 Z (fun x H Q => rIsI K c [x, .ty c] H Q) (isiD c) := by
  intro F H σ δ own x d sv Q s r e k
  unfold isiD at e
  split at e
  · cases e
  · rename_i hx
    cases e
    have hx' : d.isExc = false := by cases z : d.isExc with
      | true => exact absurd z hx
      | false => rfl
    exact ⟨x, _, _, rfl, tyOf_ok s.le r hx', hk d hx', k.fz s (.bl _)⟩
@[simp] noncomputable def lenD : List D → Option SV
  | [.lst xs] => some (.fz (.int (xs.length : Nat)))
  | [.tup xs] => some (.fz (.int (xs.length : Nat)))
  | [.str x] => if x.length ≤ PySem.sizeLine then some (.fz (.int (x.length : Nat))) else none
  | _ => none
theorem p_len : PrimN Z (fun xs H Q => (∃ p ys, xs = [V.ref p] ∧ (SqL K H p ys ∨ SqT K H p ys) ∧ Q (.int ys.length) H) ∨ (∃ z, xs = [V.str z] ∧ z.length ≤ PySem.sizeLine ∧ Q (.int z.length) H)) lenD := by
  intro F H σ δ own vs ds sv Q s r e k
  unfold lenD at e
  split at e
  · cases e
    cases r with
    | cons h t =>
      cases t
      obtain ⟨a, us, ex, ha, ra⟩ := h.lst s.le
      subst ex
      exact .inl ⟨a, us, rfl, .inl ha, by rw [← ra.length]; exact k.fz s (.int _)⟩
  · cases e
    cases r with
    | cons h t =>
      cases t
      obtain ⟨a, us, ex, ha, ra⟩ := h.tup s.le
      subst ex
      exact .inl ⟨a, us, rfl, .inr ha, by rw [← ra.length]; exact k.fz s (.int _)⟩
  · split at e
    · rename_i hz
      cases e
      cases r with
      | cons h t =>
        cases t
        exact .inr ⟨_, by rw [h.str], hz, k.fz s (.int _)⟩
    · cases e
  · cases e
@[simp] noncomputable def listD : List D → Option SV
  | [.lst xs] => some (.ol xs)
  | [.tup xs] => some (.ol xs)
  | _ => none
@[simp] noncomputable def tupleD : List D → Option SV
  | [.lst xs] => some (.fz (.tup xs))
  | _ => none
theorem p_tuple : PrimN Z (fun xs H Q => ∃ p ys, xs = [V.ref p] ∧ ((SqL K H p ys ∧ ∀ l, H l = none → Q (.ref l) (upd H l (.tup ys))) ∨ (SqT K H p ys ∧ Q (.ref p) H))) tupleD := by
  intro F H σ δ own vs ds sv Q s r e k
  unfold tupleD at e
  split at e
  · cases e
    cases r with
    | cons h t =>
      cases t
      obtain ⟨a, us, ex, ha, ra⟩ := h.lst s.le
      subst ex
      exact ⟨a, us, rfl, .inl ⟨ha, fun l hl => k.tup s ra hl⟩⟩
  · cases e
@[simp] noncomputable def intD : List D → Option SV
  | [.int i] => some (.fz (.int i))
  | [.bl b] => some (.fz (.int (if b then 1 else 0)))
  | _ => none

section
variable {X : Cx} {Z : Ent X.K} {a b c : Expr} {fa fb fc : FE} {pos : Pos}
theorem e_var (i : Nat) {x : Str} {pos : Pos} (hN : X.N[i]? = some x := by rfl) (hv : Vis X.env.scope x := by first | exact Or.inl rfl | exact Or.inr (Or.inl rfl) | exact Or.inr (Or.inr rfl)) (hd : (x == ("__debug__" : Str)) = false := by decide)
    (hcd : (x == ("__classdict__" : Str)) = false := by decide) : PE X (.Name x pos) (liftE Z (nameF i)) := (pe_var hN hv hd hcd).imp fun _ _ _ h => l_var h
theorem e_int {i : Int} {j : Nat} : PE X (.Constant (.int i) j pos) (liftE Z (constF (.int i))) := pe_int.imp fun _ _ _ h => l_const (fun _ => .int _) h
theorem e_bl {i : Bool} {j : Nat} : PE X (.Constant (.bool i) j pos) (liftE Z (constF (.bl i))) := pe_bl.imp fun _ _ _ h => l_const (fun _ => .bl _) h
theorem e_str {i : Str} {j : Nat} : PE X (.Constant (.str i) j pos) (liftE Z (constF (.str i))) := pe_str.imp fun _ _ _ h => l_const (fun _ => .str _) h
theorem e_globS {x : Str} {y : Str} {t : Tok} (hm : X.mg x = some (.str y t)) (hg : Gl X x := by rfl) (hd : (x == ("__debug__" : Str)) = false := by decide) : PE X (.Name x pos) (liftE Z (constF (.str y))) :=
  (pe_glob (v := .str y) hg hm ⟨t, rfl⟩ hd).imp fun _ _ _ h => l_const (fun _ => .str _) h
theorem e_globI {x : Str} {y : Int} {t : Tok} (hm : X.mg x = some (.int y t)) (hg : Gl X x := by rfl) (hd : (x == ("__debug__" : Str)) = false := by decide) : PE X (.Name x pos) (liftE Z (constF (.int y))) :=
  (pe_glob (v := .int y) hg hm ⟨t, rfl⟩ hd).imp fun _ _ _ h => l_const (fun _ => .int _) h
theorem e_bin {op : Operator} {r : R2} {g : D → D → Option SV} (ho : OpR X (binaryOp op) r) (hp : Prim2 Z r g) (ha : PE X a (liftE Z fa)) (hb : PE X b (liftE Z fb)) : PE X (.BinOp a op b pos) (liftE Z (binF g fa fb)) := (pe_op ho ha hb).imp fun _ _ _ h => l_bin hp h
theorem e_add (ha : PE X a (liftE Z fa)) (hb : PE X b (liftE Z fb)) : PE X (.BinOp a .Add b pos) (liftE Z (binF addD fa fb)) := e_bin op_add3 p_add ha hb
theorem e_sub (ha : PE X a (liftE Z fa)) (hb : PE X b (liftE Z fb)) : PE X (.BinOp a .Sub b pos) (liftE Z (binF subD fa fb)) := e_bin op_sub p_sub ha hb
theorem e_fdiv (ha : PE X a (liftE Z fa)) (hb : PE X b (liftE Z fb)) : PE X (.BinOp a .FloorDiv b pos) (liftE Z (binF fdivD fa fb)) := e_bin op_fdiv p_fdiv ha hb
theorem e_mod (ha : PE X a (liftE Z fa)) (hb : PE X b (liftE Z fb)) : PE X (.BinOp a .Mod b pos) (liftE Z (binF modD fa fb)) := e_bin op_mod p_mod ha hb
theorem e_cmp {op : CmpOp} {r : R2} {g : D → D → Option SV} (ho : OpR X (compareOp op) r) (hp : Prim2 Z r g) (ha : PE X a (liftE Z fa)) (hb : PE X b (liftE Z fb)) (hm : behindInMarks op b = false) : PE X (.Compare a [op] [b] pos) (liftE Z (binF g fa fb)) := (pe_cmpR ho ha hb hm).imp fun _ _ _ h => l_bin hp h
theorem t_cmp {op : CmpOp} {r : R2} {g : D → D → Option SV} (ho : OpR X (compareOp op) r) (hp : Prim2 Z r g) (ha : PE X a (liftE Z fa)) (hb : PE X b (liftE Z fb)) (hm : behindInMarks op b = false) : PT X (.Compare a [op] [b] pos) (liftT Z (testF (binF g fa fb))) :=
  (pt_cmpR ho ha hb hm).imp fun σ H Q h => by
    obtain ⟨F, δ, own, rv, δ', s, e, k⟩ := l_test h
    exact l_bin hp ⟨F, δ, own, rv, δ', s, e, k⟩
theorem t_lt (ha : PE X a (liftE Z fa)) (hb : PE X b (liftE Z fb)) : PT X (.Compare a [.Lt] [b] pos) (liftT Z (testF (binF ltD fa fb))) := t_cmp op_lt p_lt ha hb (nomark _)
theorem t_le (ha : PE X a (liftE Z fa)) (hb : PE X b (liftE Z fb)) : PT X (.Compare a [.LtE] [b] pos) (liftT Z (testF (binF leD fa fb))) := t_cmp op_le p_le ha hb (nomark _)
theorem t_gt (ha : PE X a (liftE Z fa)) (hb : PE X b (liftE Z fb)) : PT X (.Compare a [.Gt] [b] pos) (liftT Z (testF (binF gtD fa fb))) := t_cmp op_gt p_gt ha hb (nomark _)
theorem w_and1 {f : FT} (ha : PT X a (liftT Z f)) : PW X (.BoolOp .And [a] pos) (liftT Z f) := pw_and1 ha
theorem w_or1 {f : FT} (ha : PT X a (liftT Z f)) : PW X (.BoolOp .Or [a] pos) (liftT Z f) := pw_or1 ha
theorem w_and {f g : FT} {rest : List Expr} (ha : PT X a (liftT Z f)) (hb : PW X (.BoolOp .And (b :: rest) pos) (liftT Z g)) : PW X (.BoolOp .And (a :: b :: rest) pos) (liftT Z (andF f g)) := (pw_and ha hb).imp fun _ _ _ h => l_and h
theorem w_or {f g : FT} {rest : List Expr} (ha : PT X a (liftT Z f)) (hb : PW X (.BoolOp .Or (b :: rest) pos) (liftT Z g)) : PW X (.BoolOp .Or (a :: b :: rest) pos) (liftT Z (orF f g)) := (pw_or ha hb).imp fun _ _ _ h => l_or h
theorem t_not {f : FT} (ha : PT X a (liftT Z f)) : PT X (.UnaryOp .Not a pos) (liftT Z (notF f)) := (pt_not ha).imp fun _ _ _ h => l_not h
theorem t_val (h : PE X a (liftE Z fa)) (he : ∀ whole, isTrue a X.env whole = (do let v ← whole; standAt a.pos; holding [v] (truthy v)) := by intro _; rfl) : PT X a (liftT Z (testF fa)) := (pt_val h he).imp fun _ _ _ h => l_testB h
theorem e_one {op : BoolOp} (h : PE X a (liftE Z fa)) : PE X (.BoolOp op [a] pos) (liftE Z fa) := pe_one h
theorem e_and {rest : List Expr} (ha : PE X a (liftE Z fa)) (hb : PE X (.BoolOp .And (b :: rest) pos) (liftE Z fb)) : PE X (.BoolOp .And (a :: b :: rest) pos) (liftE Z (andV fa fb)) := (pe_and ha hb).imp fun _ _ _ h => l_andV h
theorem e_not (ha : PE X a (liftE Z fa)) : PE X (.UnaryOp .Not a pos) (liftE Z (notV fa)) := (pe_not ha).imp fun _ _ _ h => l_notV h
theorem a_nil : PA X [] (liftA Z argNil) := pa_nil.imp fun _ _ _ h => l_argNil h
theorem a_cons {es : List Expr} {fr : FA} (ha : PE X a (liftE Z fa)) (hr : PA X es (liftA Z fr)) (hs : starEach (a :: es) X.env = (false, eval a X.env) :: starEach es X.env := by rfl) : PA X (a :: es) (liftA Z (argCons fa fr)) := (pa_cons ha hr hs).imp fun _ _ _ h => l_argCons h
theorem d_nil : PA X [] (liftD Z dispNil) := pa_nil.imp fun _ _ _ h => l_dispNil h
theorem d_cons {es : List Expr} {fr : FD} (ha : PE X a (liftE Z fa)) (hr : PA X es (liftD Z fr)) (hs : starEach (a :: es) X.env = (false, eval a X.env) :: starEach es X.env := by rfl) : PA X (a :: es) (liftD Z (dispCons fa fr)) := (pa_cons ha hr hs).imp fun _ _ _ h => l_dispCons h
theorem e_tup {es : List Expr} {fd : FD} {k : Nat} (h : PA X es (liftD Z fd)) : PE X (.Tuple es k pos) (liftE Z (tupF fd)) := (pe_tup h).imp fun _ _ _ h => l_tup h
theorem e_lst {es : List Expr} {fd : FD} (h : PA X es (liftD Z fd)) : PE X (.List es pos) (liftE Z (lstF fd)) := (pe_lst h).imp fun _ _ _ h => l_lst h
theorem e_ix (hu : X.A.units + 1 < cLine) (ha : PE X a (liftE Z fa)) (hb : PE X b (liftE Z fb)) (hs : PlainIx b := by intro _ _; rfl) : PE X (.Subscript a b pos) (liftE Z (binF ixD fa fb)) := (pe_ix ix_seq ha hb hs).imp fun _ _ _ h => l_bin p_ix h
theorem o_none : PO X none (liftO Z noPart) := fun pins s σ H Q I h => po_none pins s σ H Q I (l_noPart h)
theorem o_some (ha : PE X a (liftE Z fa)) : PO X (some a) (liftO Z (partF fa)) := fun pins s σ H Q I h => po_some ha pins s σ H Q I (l_part h)
theorem e_sl {lo hi : Option Expr} {fl fh : FO} {p2 : Pos} (ha : PE X a (liftE Z fa)) (hl : PO X lo (liftO Z fl)) (hh : PO X hi (liftO Z fh)) : PE X (.Subscript a (.Slice lo hi none p2) pos) (liftE Z (slF slD fa fl fh)) :=
  (pe_slice (sl_list.or sl_str) ha hl hh).imp fun _ _ _ h => l_sl p_sl h
theorem e_call {k n : Nat} {f : Addr} {fd : FuncData} {ps : List Str} {g : List D → Option SV} {x : Str} {p : Pos} {es : List Expr} {fr : FA} (F : FnOk X.prog X.w X.K X.mg X.base CX0 k f fd ps (spOf X.K n g)) (hr : Room k X.A) (hm : X.mg x = some (.ref f)) (hk : PySem.W.keepIn X.K (.ref f) = true) (hb : Binds X.K fd ps [])
    (ha : PA X (a :: es) (liftA Z fr)) (hg : Gl X x := by rfl) (hdb : (x == ("__debug__" : Str)) = false := by decide) (he : starEach (a :: es) X.env = (false, eval a X.env) :: starEach es X.env := by rfl) (hpl : (backTo pos (starEach es X.env)).any (·.1) = false := by rfl) :
    PE X (.Call (.Name x p) (a :: es) [] pos) (liftE Z (callF n g fr)) := (pe_call F hr hg hm hk hb .nil pass0 ha hdb he hpl).imp fun _ _ _ h => l_call h
theorem e_callB {id : String} {r : List V → Hp → VK → Prop} {g : List D → Option SV} {x : Str} {p : Pos} {es : List Expr} {fr : FA} (hc : CallR X (.builtin id) r) (hp : PrimN Z r g) (hm : X.mg x = none) (hv : bootBuiltins x = some (.builtin id)) (ha : PA X (a :: es) (liftA Z fr)) (hg : Gl X x := by rfl) (hn : x ≠ "__name__" := by decide) (hdb : (x == ("__debug__" : Str)) = false := by decide)
    (he : starEach (a :: es) X.env = (false, eval a X.env) :: starEach es X.env := by rfl) (hpl : (backTo pos (starEach es X.env)).any (·.1) = false := by rfl) : PE X (.Call (.Name x p) (a :: es) [] pos) (liftE Z (primF g fr)) := (pe_callB hc hg hm hv ha hn hdb he hpl).imp fun _ _ _ h => l_prim hp h
theorem e_callT {T : String} {r : List V → Hp → VK → Prop} {g : List D → Option SV} {x : Str} {p : Pos} {es : List Expr} {fr : FA} (hc : CallR X (.type T) r) (hp : PrimN Z r g) (hm : X.mg x = none) (hv : bootBuiltins x = some (.type T)) (ha : PA X (a :: es) (liftA Z fr)) (hg : Gl X x := by rfl) (hn : x ≠ "__name__" := by decide) (hdb : (x == ("__debug__" : Str)) = false := by decide)
    (he : starEach (a :: es) X.env = (false, eval a X.env) :: starEach es X.env := by rfl) (hpl : (backTo pos (starEach es X.env)).any (·.1) = false := by rfl) : PE X (.Call (.Name x p) (a :: es) [] pos) (liftE Z (primF g fr)) := (pe_callTy hc hg hm hv ha hn hdb he hpl).imp fun _ _ _ h => l_prim hp h
theorem e_len {p : Pos} (hm : X.mg "len" = none) (ha : PE X a (liftE Z fa)) (hg : Gl X "len" := by rfl) (he : starEach [a] X.env = (false, eval a X.env) :: starEach [] X.env := by rfl) (hpl : (backTo pos (starEach [] X.env)).any (·.1) = false := by rfl) : PE X (.Call (.Name "len" p) [a] [] pos) (liftE Z (primF lenD (argCons fa argNil))) :=
  e_callB (call_len_seq.or call_len_str) p_len hm PySem.boot_len (a_cons ha a_nil he) hg (by decide) (by decide) he hpl
theorem e_tuple {p : Pos} (hm : X.mg "tuple" = none) (ha : PE X a (liftE Z fa)) (hg : Gl X "tuple" := by rfl) (he : starEach [a] X.env = (false, eval a X.env) :: starEach [] X.env := by rfl) (hpl : (backTo pos (starEach [] X.env)).any (·.1) = false := by rfl) : PE X (.Call (.Name "tuple" p) [a] [] pos) (liftE Z (primF tupleD (argCons fa argNil))) :=
  e_callT call_tuple_of p_tuple hm boot_tuple (a_cons ha a_nil he) hg (by decide) (by decide) he hpl
theorem e_isi {x : Str} {c : String} {p p2 : Pos} (hm : X.mg "isinstance" = none) (hmc : X.mg x = none) (hv : bootBuiltins x = some (.type c)) (hk : ∀ d : D, d.isExc = false → PySem.W.kitOne X.K (.type d.pyTy) (.type c) = some (d.pyTy == c || (c == "int" && d.pyTy == "bool"))) (ha : PE X a (liftE Z fa)) (hg : Gl X "isinstance" := by rfl) (hgc : Gl X x := by rfl)
    (hn : x ≠ "__name__" := by decide) (hdb : (x == ("__debug__" : Str)) = false := by decide)
    (he : starEach [a, .Name x p2] X.env = (false, eval a X.env) :: starEach [.Name x p2] X.env := by rfl) (he2 : starEach [.Name x p2] X.env = (false, eval (.Name x p2) X.env) :: starEach [] X.env := by rfl) (hpl : (backTo pos (starEach [.Name x p2] X.env)).any (·.1) = false := by rfl) :
    PE X (.Call (.Name "isinstance" p) [a, .Name x p2] [] pos) (liftE Z (unF (isiD c) fa)) :=
  (pe_callB call_isi hg hm boot_isinstance (pa_cons ha (pa_cons (pe_bltn (v := .ty c) hgc hmc hv rfl hn hdb) pa_nil he2) he) (by decide) (by decide) he hpl).imp fun σ H Q h => by
    have h2 := l_un (p_isi hk) h
    exact h2

theorem e_chain {op op' : CmpOp} {r r' : R2} {g g' : D → D → Option SV} (ho : OpR X (compareOp op) r) (hp : Prim2 Z r g) (ho' : OpR X (compareOp op') r') (hp' : Prim2 Z r' g') (ha : PE X a (liftE Z fa)) (hb : PE X b (liftE Z fb)) (hc : PE X c (liftE Z fc)) (hm : lastMarks [op, op'] [b, c] = false := by with_unfolding_all rfl) :
    PE X (.Compare a [op, op'] [b, c] pos) (liftE Z (chainF g g' fa fb fc)) := (pe_chain ho ho' ha hb hc hm).imp fun _ _ _ h => l_chain hp hp' h
theorem g_name (i : Nat) {x : Str} (hN : X.N.Nodup) (hi : X.N[i]? = some x := by rfl) (hx : Loc X.env.scope x := by first | exact Or.inl rfl | exact Or.inr rfl) (hf : X.fn x = true ∨ X.env.scope.names.lookup x = some .local := by first | exact .inl rfl | exact .inr rfl) : PG X (.Name x pos) (liftG Z (gNameF i)) := (pg_name hN hi hx hf).imp fun _ _ _ _ h => l_gName h
theorem gs_nil : PGs X [] (liftGs Z gNilF) := pgs_nil.imp fun _ _ _ _ h => l_gNil h
theorem gs_cons {es : List Expr} {g : FG} {r : FGs} (h1 : PG X a (liftG Z g)) (h2 : PGs X es (liftGs Z r)) (hs : (assignEach (a :: es) X.env).map (·.2) = assign a X.env :: (assignEach es X.env).map (·.2) := by rfl) : PGs X (a :: es) (liftGs Z (gConsF g r)) := (pgs_cons h1 h2 hs).imp fun _ _ _ _ h => l_gCons h
theorem g_tup {es : List Expr} {k n : Nat} {g : FGs} (hc : X.calm = true) (h : PGs X es (liftGs Z g)) (hn : (assignEach es X.env).length = n := by rfl) (hst : (assignEach es X.env).findIdx? (·.1) = none := by rfl) : PG X (.Tuple es k pos) (liftG Z (gTupF n g)) := (pg_tup hc h hn hst).imp fun _ _ _ _ h => l_gTup h
theorem i_rng {tg : Expr} {p : Pos} (hm : X.mg "range" = none) (ha : PE X a (liftE Z fa)) (hg : Gl X "range" := by rfl) (hs : starEach [a] X.env = [(false, eval a X.env)] := by rfl) : PI X tg (.Call (.Name "range" p) [a] [] pos) (liftI Z (rngI (argCons fa argNil))) := (pi_range1 hg hm (a_cons ha a_nil hs) hs).imp fun _ _ _ h => l_rngI h

theorem compScope {N' : List Str} {scope : Scope} {src : List BSrc} (kind : scope.kind = .function) (nocell : (scope.names.all fun y => !(y.2 == .cell)) = true) (names : (scope.names.all fun y => !(y.2 == .local) || (scope.names.lookup y.1 == some .local)) = true)
    (free : (scope.names.all fun y => !(y.2 == .free) || (X.env.kindOf y.1 == some .cell) || (X.env.kindOf y.1 == some .free)) = true) (len : src.length = N'.length)
    (cap : ((List.range src.length).all fun k => match src[k]?, N'[k]? with
      | some (.cap j), some x => (X.N[j]? == some x) && ((X.env.kindOf x == some .cell) || (X.env.kindOf x == some .free)) && (scope.names.lookup x == some .free)
      | some .acc, some x => scope.names.lookup x == none
      | _, _ => true) = true) : CompScope X N' scope src := by
  have capk : ∀ (k : Nat) (q : BSrc) (x : Str), src[k]? = some q → N'[k]? = some x → (match some q, some x with
      | some (.cap j), some x => (X.N[j]? == some x) && ((X.env.kindOf x == some .cell) || (X.env.kindOf x == some .free)) && (scope.names.lookup x == some .free)
      | some .acc, some x => scope.names.lookup x == none
      | _, _ => true) = true := fun k q x h1 h2 => by
    have hk : k < src.length := (List.getElem?_eq_some_iff.mp h1).1
    have := List.all_eq_true.mp cap k (List.mem_range.mpr hk)
    rw [h1, h2] at this
    exact this
  refine ⟨kind, fun y hy e => ?_, fun y hy e => ?_, fun y hy e => ?_, len, fun k j x h1 h2 => ?_, fun k x h1 h2 => ?_⟩
  · have := List.all_eq_true.mp nocell y hy
    rw [e] at this; cases this
  · have := List.all_eq_true.mp names y hy
    rw [e] at this
    simpa using this
  · have := List.all_eq_true.mp free y hy
    rw [e] at this
    simpa using this
  · have := capk k (.cap j) x h1 h2
    simp only [Bool.and_eq_true, Bool.or_eq_true, beq_iff_eq] at this
    exact ⟨this.1.1, this.1.2, this.2⟩
  · have := capk k .acc x h1 h2
    simpa using this
theorem srcOk {src : List BSrc} (k : Nat) (acc : src[k]? = some .acc) (uni : ((List.range src.length).all fun i => match src[i]? with
      | some .acc => i == k
      | _ => true) = true) : SrcOk src k := ⟨acc, fun i h => by
    have hi : i < src.length := (List.getElem?_eq_some_iff.mp h).1
    have := List.all_eq_true.mp uni i (List.mem_range.mpr hi)
    rw [h] at this
    simpa using this⟩
theorem kit_str (K : PySem.W.Frag) : ∀ d : D, d.isExc = false → PySem.W.kitOne K (.type d.pyTy) (.type "str") = some (d.pyTy == "str" || ("str" == "int" && d.pyTy == "bool")) := by intro d h; cases d <;> first | (cases h; done) | with_unfolding_all rfl
theorem kit_tuple (K : PySem.W.Frag) : ∀ d : D, d.isExc = false → PySem.W.kitOne K (.type d.pyTy) (.type "tuple") = some (d.pyTy == "tuple" || ("tuple" == "int" && d.pyTy == "bool")) := by intro d h; cases d <;> first | (cases h; done) | with_unfolding_all rfl
theorem kit_int (K : PySem.W.Frag) : ∀ d : D, d.isExc = false → PySem.W.kitOne K (.type d.pyTy) (.type "int") = some (d.pyTy == "int" || ("int" == "int" && d.pyTy == "bool")) := by intro d h; cases d <;> first | (cases h; done) | with_unfolding_all rfl
theorem xg {tg : Expr} {g : FG} (h : ∀ Z : Ent X.K, PG X tg (liftG Z g)) : PG X tg (xG X.K g) := fun pins s σ H v u Q I r ⟨Z, q⟩ => h Z pins s σ H v u Q I r q
theorem xe {e : Expr} {f : FE} (h : ∀ Z : Ent X.K, PE X e (liftE Z f)) : PE X e (xE X.K f) := fun pins s σ H Q I ⟨Z, q⟩ => h Z pins s σ H Q I q
theorem xt0 : PTs X [] (xT X.K trueT) := fun pins s σ H Q I ⟨Z, q⟩ => by
  obtain ⟨F, δ, own, b, δ', sr, e, k⟩ := q
  cases e
  exact pts_nil pins s σ H Q I (k H F own (Same.refl H) (Same.refl F) sr)
theorem e_comp {N' : List Str} {scope : Scope} {src : List BSrc} {k : Nat} {tg elt iter : Expr} {ifs : List Expr} {fi : FD} {g : FG} {tt : FT} {te : FE} (hc : X.calm = true) (S : CompScope X N' scope src) (So : SrcOk src k) (hk : k ∉ g.tch) (hi : PI X tg iter (liftI Z fi))
    (hg : ∀ (C : Addr) (s₀ : Shared) (H₀ : Hp) (ex : List Addr), PG (X.block N' scope C s₀ H₀ ex) tg (xG X.K g)) (ht : ∀ (C : Addr) (s₀ : Shared) (H₀ : Hp) (ex : List Addr), PTs (X.block N' scope C s₀ H₀ ex) ifs (xT X.K tt)) (he : ∀ (C : Addr) (s₀ : Shared) (H₀ : Hp) (ex : List Addr), PE (X.block N' scope C s₀ H₀ ex) elt (xE X.K te))
    (hs : ∀ x, foldedSetIterable iter X.env x = pure x := by intro _; rfl) : PE X (.ListComp elt [⟨tg, iter, ifs, 0⟩] scope pos) (liftE Z (compF src k fi g tt te)) := (pe_comp hc S hi hg ht he hs).imp fun _ _ _ h => l_comp So hk h

theorem ss_nil : PSs X [] (liftS Z nextF) := pss_nil.imp fun _ _ _ h => l_next h
theorem ss_cons {st : Stmt} {rest : List Stmt} {f g : FS} (h1 : PS X st (liftS Z f)) (h2 : PSs X rest (liftS Z g)) : PSs X (st :: rest) (liftS Z (seqF f g)) := (pss_cons h1 h2).imp fun _ _ _ h => l_seq h
theorem ss_one {st : Stmt} {f : FS} (h : PS X st (liftS Z f)) : PSs X [st] (liftS Z f) := pss_one h
noncomputable def stuckF : FS := fun _ => none
theorem s_never {st : Stmt} : PS X st (liftS Z stuckF) := ps_never.imp fun _ _ _ h => by obtain ⟨F, δ, own, fl, s, e, k⟩ := h; cases e
theorem s_expr (h : PE X a (liftE Z fa)) (hs : swapsWith a none pos.line X.env = pure false := by rfl) : PS X (.Expr a pos) (liftS Z (dropF fa)) := (ps_expr h hs).imp fun _ _ _ h => l_drop h
theorem s_ret (h : PE X a (liftE Z fa)) : PS X (.Return (some a) pos) (liftS Z (retF fa)) := (ps_ret h).imp fun _ _ _ h => l_ret h
theorem s_if {t : FT} {f g : FS} {bt be : List Stmt} (hc : PT X c (liftT Z t)) (ha : PSs X bt (liftS Z f)) (hb : PSs X be (liftS Z g)) : PS X (.If c bt be pos) (liftS Z (ifS t f g)) := (ps_if hc ha hb).imp fun _ _ _ h => l_ifS h
theorem s_set (i : Nat) {x : Str} {pos' : Pos} (hN : X.N.Nodup) (he : PE X a (liftE Z fa)) (hi : X.N[i]? = some x := by rfl) (hx : Loc X.env.scope x := by first | exact Or.inl rfl | exact Or.inr rfl) (hs : swapsWith a (some (.Name x pos')) pos.line X.env = pure false := by rfl) (hf : X.fn x = true ∨ X.env.scope.names.lookup x = some .local := by first | exact .inl rfl | exact .inr rfl) :
    PS X (.Assign [.Name x pos'] a pos) (liftS Z (setF i fa)) := (ps_set hN hi hx he hs hf).imp fun _ _ _ h => l_set h
theorem s_setComp (i : Nat) {N' : List Str} {scope : Scope} {src : List BSrc} {k : Nat} {tg elt iter : Expr} {ifs : List Expr} {fi : FD} {g : FG} {tt : FT} {te : FE} {y : Str} {py spos : Pos} (hc : X.calm = true) (S : CompScope X N' scope src) (So : SrcOk src k) (hk : k ∉ g.tch) (hi : PI X tg iter (liftI Z fi))
    (hg : ∀ (C : Addr) (s₀ : Shared) (H₀ : Hp) (ex : List Addr), PG (X.block N' scope C s₀ H₀ ex) tg (xG X.K g)) (ht : ∀ (C : Addr) (s₀ : Shared) (H₀ : Hp) (ex : List Addr), PTs (X.block N' scope C s₀ H₀ ex) ifs (xT X.K tt)) (he : ∀ (C : Addr) (s₀ : Shared) (H₀ : Hp) (ex : List Addr), PE (X.block N' scope C s₀ H₀ ex) elt (xE X.K te))
    (hN : X.N.Nodup) (hiy : X.N[i]? = some y := by rfl) (hx : X.env.scope.names.lookup y = some .local := by rfl) (hsw : swapsWith (.ListComp elt [⟨tg, iter, ifs, 0⟩] scope pos) (some (.Name y py)) spos.line X.env = pure true := by rfl)
    (hs : ∀ x, foldedSetIterable iter X.env x = pure x := by intro _; rfl) : PS X (.Assign [.Name y py] (.ListComp elt [⟨tg, iter, ifs, 0⟩] scope pos) spos) (liftS Z (setF i (compF src k fi g tt te))) :=
  (ps_setComp hc S hi hg ht he hN hiy hx hsw hs).imp fun D σ H h => by
    obtain ⟨F, δ, own, rv, δ', s, e, q⟩ := l_set h
    exact l_comp So hk ⟨F, δ, own, rv, δ', s, e, q⟩
theorem s_unpack {tg : Expr} {g : FG} (he : PE X a (liftE Z fa)) (hg : PG X tg (liftG Z g)) (hs : swapsWithSole [tg] a pos.line X.env = pure false := by rfl) (hw : swappedStores [tg] a X.env = pure none := by rfl) (h1 : (assignEach [tg] X.env).map (·.2) = [assign tg X.env] := by rfl) :
    PS X (.Assign [tg] a pos) (liftS Z (unpackF g fa)) := (ps_asg he hg hs hw h1).imp fun _ _ _ h => l_unpack h
theorem s_for {tg iter : Expr} {body : List Stmt} {fi : FD} {g : FG} {f : FS} (hp : PassesOwn (model X.prog X.w) X.A X.env X.xe) (hc : X.calm = true) (hi : PI X tg iter (liftI Z fi)) (hg : PG X tg (liftG Z g)) (hb : PSs X body (liftS Z f)) (hs : ∀ x, foldedSetIterable iter X.env x = pure x := by intro _; rfl) :
    PS X (.For tg iter body [] pos) (liftS Z (forF fi g f)) := (ps_for hp hc hi hg hb hs).imp fun _ _ _ h => l_for h
theorem s_while (n : Nat) {t : FT} {body : List Stmt} {f : FS} (hp : PassesOwn (model X.prog X.w) X.A X.env X.xe) (hc : PT X c (liftT Z t)) (hb : PSs X body (liftS Z f)) : PS X (.While c body [] pos) (liftS Z (whileD t f n)) := (ps_while hp hc hb).imp fun _ _ _ h => l_while h
theorem s_app (i : Nat) {x : Str} {px apos cpos : Pos} (hb : PE X b (liftE Z fb)) (hN : X.N[i]? = some x := by rfl) (hv : Vis X.env.scope x := by first | exact Or.inl rfl | exact Or.inr (Or.inl rfl) | exact Or.inr (Or.inr rfl)) (hd : (x == ("__debug__" : Str)) = false := by decide)
    (hcd : (x == ("__classdict__" : Str)) = false := by decide) (hbase : attributeBase (.Name x px) "append" X.env (eval (.Name x px) X.env) = eval (.Name x px) X.env := by rfl)
    (hfew : ((backTo cpos (starEach [b] X.env)).all (fun x => !x.1) && (backToKw cpos (keywordEach [] X.env)).all (fun x => x.1.isSome) && decide ([b].length + ([] : List Keyword).length + (if ([] : List Keyword).isEmpty then 0 else 1) < 30)) = true := by rfl)
    (hline : (apos.endLine == cpos.line) = true := by rfl) (hs : starEach [b] X.env = (false, eval b X.env) :: starEach [] X.env := by rfl) (hpl : (backTo cpos (starEach [] X.env)).any (·.1) = false := by rfl) (hsw : swapsWith (.Call (.Attribute (.Name x px) "append" apos) [b] [] cpos) none pos.line X.env = pure false := by rfl) :
    PS X (.Expr (.Call (.Attribute (.Name x px) "append" apos) [b] [] cpos) pos) (liftS Z (appF i fb)) :=
  (ps_expr (pe_bm PySem.F.plainAttrs_list PySem.F.slot_list_append PySem.F.type_list_append mt_append (pe_var (i := i) hN hv hd hcd) (pa_cons hb pa_nil hs) hbase hfew hline hs hpl) hsw).imp fun _ _ _ h => l_app h
end

@[simp] noncomputable def outOf (f : FS) (n : Nat) (ds : List D) : Option SV := match f (startD n ds) with
  | some (.rt sv) => some sv
  | some (.nx _) => some (.fz .non)
  | _ => none
theorem body_out {N : List Str} {n : Nat} {f : FS} {vs : List V} {H : Hp} {Q : VK} {E : XK} (h : spOf K n (outOf f N.length) vs H Q E) : ∃ F, liftS (ent H F : Ent K) f { nx := fun _ H' => Q .non H', rt := Q } (L2.start N vs) H := by
  obtain ⟨F, ds, sv, le, r, hn, e, k⟩ := h
  unfold outOf at e
  split at e
  · rename_i sw hf
    cases e
    exact ⟨F, F, _, _, .rt sv, sr_start (N := N) le r, hf, fun v H' F' ns a b c d e' nd ok => k v H' F' ns d a b c e' nd ok⟩
  · rename_i δ hf
    cases e
    exact ⟨F, F, _, _, .nx δ, sr_start (N := N) le r, hf, fun σ' H' F' own' a s' => k .non H' F' [] s'.old a s'.le s'.fro (.fz .non) List.nodup_nil fun _ h => (nomatch h)⟩
  · cases e
noncomputable def spLaw (K : PySem.W.Frag) : Sp := fun vs H Q _ => ∃ (a : Addr) (ns : List Int), vs = [.ref a] ∧ SqL K H a (ns.map V.int) ∧ ns.length ≤ 63 ∧ ∀ H', Q (.bl true) H'
theorem ints_rep {F : Hp} : ∀ ns : List Int, Reps K F (ns.map D.int) (ns.map V.int)
  | [] => .nil
  | n :: r => .cons (.int n) (ints_rep r)
end DL

namespace DL
open PySem PySem.Spec PyProof.Rows L2
variable {K : PySem.W.Frag}
@[simp] noncomputable def eqAll (f : D → D → Option Bool) : List D → List D → Option Bool
  | x :: xs, y :: ys => (f x y).bind fun b => (eqAll f xs ys).bind fun c => some (b && c)
  | _, _ => some true
@[simp] noncomputable def eqStep (f : D → D → Option Bool) : D → D → Option Bool
  | .lst xs, .lst ys => if xs.length = ys.length then eqAll f xs ys else some false
  | .tup xs, .tup ys => (eqAll f xs ys).bind fun b => some (b && decide (xs.length = ys.length))
  | .lst _, .tup _ => some false
  | .tup _, .lst _ => some false
  | d1, d2 => eqS d1 d2
@[simp] noncomputable def eqN : Nat → D → D → Option Bool
  | 0 => fun _ _ => none
  | n + 1 => eqStep (eqN n)
theorem eqS_flat {F H : Hp} {d1 d2 : D} {x y : V} {b : Bool} (e : eqS d1 d2 = some b) (r1 : RepN K F H d1 x) (r2 : RepN K F H d2 y) : flatV x = true ∧ flatV y = true ∧ b = eqV x y := by
  unfold eqS at e
  split at e <;> cases e <;> (first | obtain rfl := r1.non | obtain rfl := r1.int | obtain rfl := r1.bl | obtain rfl := r1.str) <;> (first | obtain rfl := r2.non | obtain rfl := r2.int | obtain rfl := r2.bl | obtain rfl := r2.str) <;> refine ⟨rfl, rfl, ?_⟩ <;> first | rfl | simp [eqV]
section
variable {X : Cx} {pins : List (Addr × Obj)} {σ : L2.St} {F H : Hp} {s : Shared}
theorem eqV_same {x y : V} {v : Value} (rx : RelV x v) (ry : RelV y v) (fx : flatV x = true) (fy : flatV y = true) : eqV x y = true := by
  cases x with
  | non => cases rx; cases y with
    | non => rfl
    | bl b => cases ry
    | int b => obtain ⟨t, e⟩ := ry; cases e
    | str b => obtain ⟨t, e⟩ := ry; cases e
    | _ => cases fy
  | bl a => cases rx; cases y with
    | non => cases ry
    | bl b => cases ry; simp [eqV]
    | int b => obtain ⟨t, e⟩ := ry; cases e
    | str b => obtain ⟨t, e⟩ := ry; cases e
    | _ => cases fy
  | int a => obtain ⟨t, rfl⟩ := rx; cases y with
    | non => cases ry
    | bl b => cases ry
    | int b => obtain ⟨t, e⟩ := ry; cases e; simp [eqV]
    | str b => obtain ⟨t, e⟩ := ry; cases e
    | _ => cases fy
  | str a => obtain ⟨t, rfl⟩ := rx; cases y with
    | non => cases ry
    | bl b => cases ry
    | int b => obtain ⟨t, e⟩ := ry; cases e
    | str b => obtain ⟨t, e⟩ := ry; cases e; simp [eqV]
    | _ => cases fy
  | _ => cases fx
theorem isList_fun {h : Heap} {a : Addr} {i1 i2 : Array Value} (h1 : h.IsList a i1) (h2 : h.IsList a i2) : i1 = i2 := by
  obtain ⟨o, e1, c1, n1, d1⟩ := h1
  obtain ⟨o2, e2, c2, n2, d2⟩ := h2
  rw [e1] at e2; cases e2
  rw [d1] at d2; cases d2; rfl
theorem isTuple_fun {h : Heap} {a : Addr} {i1 i2 : Array Value} (h1 : h.IsTuple a i1) (h2 : h.IsTuple a i2) : i1 = i2 := by
  obtain ⟨o, e1, c1, n1, d1⟩ := h1
  obtain ⟨o2, e2, c2, n2, d2⟩ := h2
  rw [e1] at e2; cases e2
  rw [d1] at d2; cases d2; rfl
theorem sameAll {f : D → D → Option Bool} (hf : ∀ d1 d2 b x y v, Rep X.K F d1 x → RelV x v → Rep X.K F d2 y → RelV y v → f d1 d2 = some b → b = true) : ∀ {xs ys : List D} {vs ws : List V} {us : List Value} {b : Bool}, Reps X.K F xs vs → Vals vs us → Reps X.K F ys ws → Vals ws us → eqAll f xs ys = some b → b = true
  | _, _, _, _, _, _, .nil, .nil, .nil, .nil, e => by cases e; rfl
  | _, _, _, _, _, _, .cons r1 t1, .cons v1 w1, .cons r2 t2, .cons v2 w2, e => by
    obtain ⟨b, e1, e2⟩ := Option.bind_eq_some_iff.mp e
    obtain ⟨c, e3, e4⟩ := Option.bind_eq_some_iff.mp e2
    cases e4
    rw [hf _ _ _ _ _ _ r1 v1 r2 v2 e1, sameAll hf t1 w1 t2 w2 e3]; rfl
theorem same_step (I : Inv X pins σ H s) (le : Same F H) {f : D → D → Option Bool} (ih : ∀ (d1 d2 : D) (b : Bool) (x y : V) (v : Value), Rep X.K F d1 x → RelV x v → Rep X.K F d2 y → RelV y v → f d1 d2 = some b → b = true) (d1 d2 : D) (b : Bool) (x y : V) (v : Value) (r1 : Rep X.K F d1 x) (v1 : RelV x v) (r2 : Rep X.K F d2 y) (v2 : RelV y v) (e : eqStep f d1 d2 = some b) : b = true := by
    unfold eqStep at e
    split at e
    · rename_i xs ys
      cases r1 with
      | lst q1 p1 =>
      cases r2 with
      | lst q2 p2 =>
      cases v1; cases v2
      obtain ⟨i1, w1, l1, _⟩ := I.list (sqL_mono le q1)
      obtain ⟨i2, w2, l2, _⟩ := I.list (sqL_mono le q2)
      have z := isList_fun l1.isList l2.isList
      have z : i1 = i2 := by simpa using z
      subst z
      split at e
      · exact sameAll (ih) p1 w1 p2 w2 e
      · rename_i hl
        have h1 := w1.length
        have h2 := w2.length
        have h3 := p1.length
        have h4 := p2.length
        exact absurd (by omega) hl
    · rename_i xs ys
      cases r1 with
      | tup q1 p1 =>
      cases r2 with
      | tup q2 p2 =>
      cases v1; cases v2
      obtain ⟨i1, w1, l1, _⟩ := I.tuple (sqT_mono le (tupSq q1))
      obtain ⟨i2, w2, l2, _⟩ := I.tuple (sqT_mono le (tupSq q2))
      have z := isTuple_fun l1 l2
      have z : i1 = i2 := by simpa using z
      subst z
      obtain ⟨c, e1, e2⟩ := Option.bind_eq_some_iff.mp e
      cases e2
      have h1 := w1.length
      have h2 := w2.length
      have h3 := p1.length
      have h4 := p2.length
      rw [sameAll (ih) p1 w1 p2 w2 e1, decide_eq_true (by omega)]; rfl
    · cases r1 with
      | lst q1 p1 =>
      cases r2 with
      | tup q2 p2 =>
      cases v1; cases v2
      obtain ⟨i1, w1, l1, _⟩ := I.list (sqL_mono le q1)
      obtain ⟨i2, w2, l2, _⟩ := I.tuple (sqT_mono le (tupSq q2))
      exact absurd rfl (SeqAt.ne_of_list_tuple (s := s) l1.isList l2)
    · cases r1 with
      | tup q1 p1 =>
      cases r2 with
      | lst q2 p2 =>
      cases v1; cases v2
      obtain ⟨i1, w1, l1, _⟩ := I.tuple (sqT_mono le (tupSq q1))
      obtain ⟨i2, w2, l2, _⟩ := I.list (sqL_mono le q2)
      exact absurd rfl (SeqAt.ne_of_list_tuple (s := s) l2.isList l1)
    · obtain ⟨f1, f2, rfl⟩ := eqS_flat (H := H) e (RepN.of r1) (RepN.of r2)
      exact eqV_same v1 v2 f1 f2
theorem eqN_same (I : Inv X pins σ H s) (le : Same F H) : ∀ (n : Nat) (d1 d2 : D) (b : Bool) (x y : V) (v : Value), Rep X.K F d1 x → RelV x v → Rep X.K F d2 y → RelV y v → eqN n d1 d2 = some b → b = true
  | 0, _, _, _, _, _, _, _, _, _, _, e => by cases e
  | n + 1, d1, d2, b, x, y, v, r1, v1, r2, v2, e => same_step I le (eqN_same I le n) d1 d2 b x y v r1 v1 r2 v2 e
theorem eqAll_at {A : Around} {f : D → D → Option Bool} (hf : ∀ d1 d2 b x y v u, Rep X.K F d1 x → RelV x v → Rep X.K F d2 y → RelV y u → f d1 d2 = some b → SeqAt.EqAt A s v u b) : ∀ {xs ys : List D} {vs ws : List V} {us zs : List Value} {b : Bool}, Reps X.K F xs vs → Vals vs us → Reps X.K F ys ws → Vals ws zs → eqAll f xs ys = some b →
    ∃ e : Nat → Bool, (∀ j (h1 : j < us.length) (h2 : j < zs.length), SeqAt.EqAt A s us[j] zs[j] (e j)) ∧ (List.range (min us.length zs.length)).all e = b
  | _, _, _, _, _, _, _, .nil, .nil, _, _, e => by cases e; exact ⟨fun _ => true, fun j h1 => absurd h1 (Nat.not_lt_zero _), by simp⟩
  | _, _, _, _, _, _, _, .cons r1 t1, .cons v1 w1, .nil, .nil, e => by cases e; exact ⟨fun _ => true, fun j _ h2 => absurd h2 (Nat.not_lt_zero _), by simp⟩
  | _, _, _, _, _, _, _, .cons r1 t1, .cons v1 w1, .cons r2 t2, .cons v2 w2, e => by
    obtain ⟨b, e1, e2⟩ := Option.bind_eq_some_iff.mp e
    obtain ⟨c, e3, e4⟩ := Option.bind_eq_some_iff.mp e2
    cases e4
    obtain ⟨g, g1, g2⟩ := eqAll_at hf t1 w1 t2 w2 e3
    refine ⟨fun | 0 => b | j + 1 => g j, fun j h1 h2 => ?_, ?_⟩
    · cases j with
      | zero => exact hf _ _ _ _ _ _ _ r1 v1 r2 v2 e1
      | succ j => exact g1 j (Nat.lt_of_succ_lt_succ h1) (Nat.lt_of_succ_lt_succ h2)
    · rw [List.length_cons, List.length_cons, Nat.succ_min_succ, List.range_succ_eq_map, List.all_cons, List.all_map, ← g2]
      rfl
theorem rcN (I : Inv X pins σ H s) (le : Same F H) {A : Around} {f : D → D → Option Bool} {d1 d2 : D} {b : Bool} {x y : V} {v u : Value}
    (ih : ∀ d1 d2 b x y v u, Rep X.K F d1 x → RelV x v → Rep X.K F d2 y → RelV y u → f d1 d2 = some b → SeqAt.EqAt A.in1 s v u b) (r1 : RepN X.K F H d1 x) (v1 : RelV x v) (r2 : RepN X.K F H d2 y) (v2 : RelV y u)
    (e : eqStep f d1 d2 = some b) (hu : A.units < cLine) (hr : flatV x = false ∨ flatV y = false) : (∃ a c, v = .ref a ∧ u = .ref c) ∧ SeqAt.RcAt A s v u b ∧ SeqAt.RcNeAt A s v u (!b) := by
  unfold eqStep at e
  split at e
  · obtain ⟨a1, vs1, rfl, q1, p1⟩ := r1.lst le
    obtain ⟨a2, vs2, rfl, q2, p2⟩ := r2.lst le
    cases v1; cases v2
    obtain ⟨i1, w1, l1, _⟩ := I.list q1
    obtain ⟨i2, w2, l2, _⟩ := I.list q2
    have h1 := w1.length
    have h2 := w2.length
    have h3 := p1.length
    have h4 := p2.length
    refine ⟨⟨_, _, rfl, rfl⟩, ?_⟩
    split at e
    · rename_i hl
      obtain ⟨g, g1, g2⟩ := eqAll_at ih p1 w1 p2 w2 e
      have hm : min i1.length i2.length = i1.toArray.size := by simp; omega
      rw [hm] at g2
      subst g2
      have hz : i1.toArray.size = i2.toArray.size := by simp; omega
      exact ⟨SeqAt.RcAt.lists l1.isList l2.isList hz hu (fun j j1 j2 => by simpa using g1 j (by simpa using j1) (by simpa using j2)), SeqAt.RcNeAt.lists l1.isList l2.isList hz hu (fun j j1 j2 => by simpa using g1 j (by simpa using j1) (by simpa using j2))⟩
    · rename_i hl
      cases e
      have hz : (i1.toArray.size != i2.toArray.size) = true := by simp; omega
      exact ⟨SeqAt.RcAt.lists_lengths l1.isList l2.isList hz hu, SeqAt.RcNeAt.lists_lengths l1.isList l2.isList hz hu⟩
  · rename_i xs ys
    obtain ⟨a1, vs1, rfl, q1, p1⟩ := r1.tup le
    obtain ⟨a2, vs2, rfl, q2, p2⟩ := r2.tup le
    cases v1; cases v2
    obtain ⟨i1, w1, l1, _⟩ := I.tuple q1
    obtain ⟨i2, w2, l2, _⟩ := I.tuple q2
    have h1 := w1.length
    have h2 := w2.length
    have h3 := p1.length
    have h4 := p2.length
    obtain ⟨c, e1, e2⟩ := Option.bind_eq_some_iff.mp e
    cases e2
    refine ⟨⟨_, _, rfl, rfl⟩, ?_⟩
    obtain ⟨g, g1, g2⟩ := eqAll_at ih p1 w1 p2 w2 e1
    subst g2
    have e3 : ((List.range (min i1.length i2.length)).all g && decide (xs.length = ys.length)) = ((List.range (min i1.toArray.size i2.toArray.size)).all g && i1.toArray.size == i2.toArray.size) := by
      have : (i1.toArray.size == i2.toArray.size) = decide (xs.length = ys.length) := by
        rw [List.size_toArray, List.size_toArray, ← h1, ← h2, ← h3, ← h4]; rfl
      rw [this]; simp
    rw [e3]
    exact ⟨SeqAt.RcAt.tuples l1 l2 hu (fun j j1 j2 => by simpa using g1 j (by simpa using j1) (by simpa using j2)), SeqAt.RcNeAt.tuples l1 l2 hu (fun j j1 j2 => by simpa using g1 j (by simpa using j1) (by simpa using j2))⟩
  · obtain ⟨a1, vs1, rfl, q1, p1⟩ := r1.lst le
    obtain ⟨a2, vs2, rfl, q2, p2⟩ := r2.tup le
    cases v1; cases v2
    cases e
    obtain ⟨i1, w1, l1, _⟩ := I.list q1
    obtain ⟨i2, w2, l2, _⟩ := I.tuple q2
    exact ⟨⟨_, _, rfl, rfl⟩, SeqAt.RcAt.list_tuple l1.isList l2 hu, SeqAt.RcNeAt.list_tuple l1.isList l2 hu⟩
  · obtain ⟨a1, vs1, rfl, q1, p1⟩ := r1.tup le
    obtain ⟨a2, vs2, rfl, q2, p2⟩ := r2.lst le
    cases v1; cases v2
    cases e
    obtain ⟨i1, w1, l1, _⟩ := I.tuple q1
    obtain ⟨i2, w2, l2, _⟩ := I.list q2
    exact ⟨⟨_, _, rfl, rfl⟩, SeqAt.RcAt.tuple_list l1 l2.isList hu, SeqAt.RcNeAt.tuple_list l1 l2.isList hu⟩
  · obtain ⟨f1, f2, _⟩ := eqS_flat e r1 r2
    rcases hr with hr | hr
    · rw [f1] at hr; cases hr
    · rw [f2] at hr; cases hr
theorem eqN_at (I : Inv X pins σ H s) (le : Same F H) : ∀ (n : Nat) (A : Around) (d1 d2 : D) (b : Bool) (x y : V) (v u : Value), A.units + n < cLine → Rep X.K F d1 x → RelV x v → Rep X.K F d2 y → RelV y u → eqN n d1 d2 = some b → SeqAt.EqAt A s v u b
  | 0, _, _, _, _, _, _, _, _, _, _, _, _, _, e => by cases e
  | n + 1, A, d1, d2, b, x, y, v, u, hu, r1, v1, r2, v2, e => by
    by_cases hf : flatV x = true ∧ flatV y = true
    · have e' : eqS d1 d2 = some b := by
        unfold eqN eqStep at e
        split at e
        · cases r1; cases hf.1
        · cases r1; cases hf.1
        · cases r1; cases hf.1
        · cases r1; cases hf.1
        · exact e
      obtain ⟨f1, f2, rfl⟩ := eqS_flat (H := H) e' (RepN.of r1) (RepN.of r2)
      exact eqAt_V v1 v2 f1 f2
    · have hf' : flatV x = false ∨ flatV y = false := by
        cases h1 : flatV x with
        | false => exact .inl rfl
        | true => cases h2 : flatV y with
          | false => exact .inr rfl
          | true => exact absurd ⟨h1, h2⟩ hf
      obtain ⟨⟨a, c, rfl, rfl⟩, h1, _⟩ := rcN I le (A := A) (f := eqN n) (fun d1 d2 b x y v u q1 w1 q2 w2 e => eqN_at I le n A.in1 d1 d2 b x y v u (by have : A.in1.units = A.units + 1 := rfl; omega) q1 w1 q2 w2 e) (RepN.of r1) v1 (RepN.of r2) v2 e (by omega) hf'
      by_cases hac : a = c
      · subst hac
        rw [eqN_same I le (n + 1) d1 d2 b x y _ r1 v1 r2 v2 e]
        exact SeqAt.EqAt.same _
      · exact SeqAt.EqAt.of_refs hac h1
noncomputable def rEqN (K : PySem.W.Frag) (neg : Bool) : R2 := fun x y H Q => ∃ F d1 d2 b, Same F H ∧ RepN K F H d1 x ∧ RepN K F H d2 y ∧ eqN 48 d1 d2 = some b ∧ (flatV x = false ∨ flatV y = false) ∧ Q (.bl (if neg then !b else b)) H
theorem op_eqN (hu : X.A.units + 64 < cLine) : OpR X (compareOp .Eq) (rEqN X.K false) := by
  intro pins s σ H x y v u Q I rx ry h
  obtain ⟨F, d1, d2, b, le, r1, r2, e, hf, q⟩ := h
  obtain ⟨_, h1, _⟩ := rcN I le (A := X.A) (f := eqN 47) (fun d1 d2 b x y v u q1 w1 q2 w2 e => eqN_at I le 47 X.A.in1 d1 d2 b x y v u (by have : X.A.in1.units = X.A.units + 1 := rfl; omega) q1 w1 q2 w2 e) r1 rx r2 ry e (by omega) hf
  exact h1 X.prog X.w X.xe _ ⟨.bl b, H, I, rfl, q⟩
theorem op_neN (hu : X.A.units + 64 < cLine) : OpR X (compareOp .NotEq) (rEqN X.K true) := by
  intro pins s σ H x y v u Q I rx ry h
  obtain ⟨F, d1, d2, b, le, r1, r2, e, hf, q⟩ := h
  obtain ⟨_, _, h1⟩ := rcN I le (A := X.A) (f := eqN 47) (fun d1 d2 b x y v u q1 w1 q2 w2 e => eqN_at I le 47 X.A.in1 d1 d2 b x y v u (by have : X.A.in1.units = X.A.units + 1 := rfl; omega) q1 w1 q2 w2 e) r1 rx r2 ry e (by omega) hf
  exact h1 X.prog X.w X.xe _ ⟨.bl !b, H, I, rfl, q⟩
end

@[simp] noncomputable def D.isFlat : D → Bool
  | .non => true | .bl _ => true | .int _ => true | .str _ => true | _ => false
@[simp] noncomputable def eqX (d1 d2 : D) : Option SV := if d1.isFlat = true ∧ d2.isFlat = true then eqD d1 d2 else (eqN 48 d1 d2).bind fun b => some (.fz (.bl b))
@[simp] noncomputable def neX (d1 d2 : D) : Option SV := if d1.isFlat = true ∧ d2.isFlat = true then neD d1 d2 else (eqN 48 d1 d2).bind fun b => some (.fz (.bl !b))
theorem notFlat_ok {F H : Hp} {d : D} {x : V} (r : RepN K F H d x) (h : d.isFlat = false) : flatV x = false := by
  obtain ⟨sv, ns, e, n, sh, hp⟩ := r
  cases sh with
  | fz r => cases e; cases r <;> first | rfl | cases h
  | ol r => rfl
  | oK e' r => rfl
  | oT kb e' r => rfl
  | oN e' r => rfl
  | oL _ r => rfl
section
variable {Z : Ent K}
theorem p_eqX : Prim2 Z (fun x y H Q => rEq x y H Q ∨ rEqN K false x y H Q) eqX := by
  intro F H σ δ own x y d1 d2 sv Q s r1 r2 e k
  unfold eqX at e
  split at e
  · exact .inl (p_eq F H σ δ own x y d1 d2 sv Q s r1 r2 e k)
  · rename_i hf
    obtain ⟨b, e1, e2⟩ := Option.bind_eq_some_iff.mp e
    cases e2
    refine .inr ⟨F, d1, d2, b, s.le, r1, r2, e1, ?_, k.fz s (.bl _)⟩
    cases h1 : d1.isFlat with
    | false => exact .inl (notFlat_ok r1 h1)
    | true => cases h2 : d2.isFlat with
      | false => exact .inr (notFlat_ok r2 h2)
      | true => exact absurd ⟨h1, h2⟩ hf
theorem p_neX : Prim2 Z (fun x y H Q => rNe x y H Q ∨ rEqN K true x y H Q) neX := by
  intro F H σ δ own x y d1 d2 sv Q s r1 r2 e k
  unfold neX at e
  split at e
  · exact .inl (p_ne F H σ δ own x y d1 d2 sv Q s r1 r2 e k)
  · rename_i hf
    obtain ⟨b, e1, e2⟩ := Option.bind_eq_some_iff.mp e
    cases e2
    refine .inr ⟨F, d1, d2, b, s.le, r1, r2, e1, ?_, k.fz s (.bl _)⟩
    cases h1 : d1.isFlat with
    | false => exact .inl (notFlat_ok r1 h1)
    | true => cases h2 : d2.isFlat with
      | false => exact .inr (notFlat_ok r2 h2)
      | true => exact absurd ⟨h1, h2⟩ hf
@[simp] noncomputable def negD : D → Option SV
  | .int i => some (.fz (.int (-i)))
  | _ => none
theorem p_neg : Prim1 Z (rU fun i => .int (-i)) negD := by
  intro F H σ δ own x d sv Q s r e k
  unfold negD at e
  split at e
  · cases e; exact ⟨_, r.int, k.fz s (.int _)⟩
  · cases e
end
section
variable {X : Cx} {Z : Ent X.K} {a b c : Expr} {fa fb fc : FE} {pos : Pos}
theorem e_neg (ha : PE X a (liftE Z fa)) : PE X (.UnaryOp .USub a pos) (liftE Z (unF negD fa)) := (pe_un un_neg ha).imp fun _ _ _ h => l_un p_neg h
theorem e_eqX (hv : X.A.units + 64 < cLine) (ha : PE X a (liftE Z fa)) (hb : PE X b (liftE Z fb)) : PE X (.Compare a [.Eq] [b] pos) (liftE Z (binF eqX fa fb)) := e_cmp (op_eq.or (op_eqN hv)) p_eqX ha hb (nomark _)
theorem t_eqX (hv : X.A.units + 64 < cLine) (ha : PE X a (liftE Z fa)) (hb : PE X b (liftE Z fb)) : PT X (.Compare a [.Eq] [b] pos) (liftT Z (testF (binF eqX fa fb))) := t_cmp (op_eq.or (op_eqN hv)) p_eqX ha hb (nomark _)
theorem t_neX (hv : X.A.units + 64 < cLine) (ha : PE X a (liftE Z fa)) (hb : PE X b (liftE Z fb)) : PT X (.Compare a [.NotEq] [b] pos) (liftT Z (testF (binF neX fa fb))) := t_cmp (op_ne.or (op_neN hv)) p_neX ha hb (nomark _)
end
end DL

namespace L2
open PySem PySem.Spec PyProof.Rows
section
variable {X : Cx} {tg : Expr}
noncomputable def Its (z : Str) : It := ⟨fun i _ => i < z.length, fun i H x H' => H' = H ∧ ∃ c, z.cps[i]? = some c ∧ x = .str ⟨#[c]⟩, fun i _ => z.length ≤ i⟩
theorem turn_text {P : Program} {w : World} {K : PySem.W.Frag} {tg : Expr} (z : Str) (t : Tok) (it : Addr) : Turn P w K tg (Its z) [it] it (fun i h => h.IsStrIter it (strIterType z) z t i) where
  mem := by simp
  obj := fun i h st b hb => by
    have e : b = it := by simpa using hb
    subst e
    obtain ⟨o, e, c, d⟩ := st
    exact ⟨o, e, fun v q => by rw [d] at q; cases q⟩
  keep := fun i h h' st k => by
    obtain ⟨o, e, c, d⟩ := st
    exact ⟨o, k it (by simp) o e, c, d⟩
  item := by
    intro X hP hw hK hc i pins s σ H E I hf st hg
    subst hP hw hK
    obtain ⟨f0, f1, f2, f3, f4, f5⟩ := hf it (by simp)
    have hlt : i < z.cps.size := hg
    have hx : z.cps[i]? = some z.cps[i] := by simp [hlt]
    have fin : ∀ h', h'.IsStrIter it (strIterType z) z t (i + 1) → Heap.SameBut it s.heap h' → ∃ u, some (Value.str ⟨#[z.cps[i]]⟩ s.toks) = some u ∧ wpAny (model X.prog X.w) X.A (letOwnedTupleGo tg (.ref it) u) (fun _ s2 => ∃ x H', Inv X pins σ H' s2 ∧ RelV x u ∧ (Its z).yld i H x H' ∧ s2.heap.IsStrIter it (strIterType z) z t (i + 1) ∧ ∀ b ∈ [it], H' b = none) E { s with heap := h', toks := s.toks + 1 } := fun h' st' sb => by
      have I1 : Inv X pins σ H { s with heap := h', toks := s.toks + 1 } := I.turned (t' := s.toks + 1) (fun b o hb q => (sb.2 b hb).trans q) f0 f1 f3 f4 f5
      obtain ⟨o, e, c, d⟩ := id st'
      have hn : ["enumerate", "zip", "dict_itemiterator", "dict_reverseitemiterator", "odict_iterator", "itertools.zip_longest", "itertools.pairwise"].contains (strIterType z) = false := by
        unfold strIterType
        split <;> decide
      exact ⟨_, rfl, go_of (s := { s with heap := h', toks := s.toks + 1 }) e c d hn ⟨.str ⟨#[z.cps[i]]⟩, H, I1, ⟨_, rfl⟩, ⟨rfl, _, hx, rfl⟩, st', fun b hb => (hf b hb).1⟩⟩
    cases ha : z.cps.all (· < 128) with
    | false =>
      have et : strIterType z = "str_iterator" := by unfold strIterType; rw [ha]; rfl
      rw [et] at st fin
      rw [et]
      exact wpAny_pyNext_wide_item st hx fin
    | true =>
      have et : strIterType z = "str_ascii_iterator" := by unfold strIterType; rw [ha]; rfl
      rw [et] at st fin
      rw [et]
      exact wpAny_pyNext_ascii_item st hx fin
  done := by
    intro X hP hw hK hc i pins s σ H E I hf st hg
    subst hP hw hK
    obtain ⟨f0, f1, f2, f3, f4, f5⟩ := hf it (by simp)
    have hge : z.cps.size ≤ i := hg
    have hx : z.cps[i]? = none := by simp [hge]
    cases ha : z.cps.all (· < 128) with
    | false =>
      have et : strIterType z = "str_iterator" := by unfold strIterType; rw [ha]; rfl
      rw [et] at st
      exact wpAny_pyNext_wide_end (I.ok.hd hc) st hx fun h' eb => ⟨rfl, I.turned (t' := s.toks) (fun b o hb q => eb b o hb q) f0 f1 f3 f4 f5⟩
    | true =>
      have et : strIterType z = "str_ascii_iterator" := by unfold strIterType; rw [ha]; rfl
      rw [et] at st
      exact wpAny_pyNext_ascii_end (I.ok.hd hc) st hx fun h' eb => ⟨rfl, I.turned (t' := s.toks) (fun b o hb q => eb b o hb q) f0 f1 f3 f4 f5⟩
  self := fun _ _ _ _ _ st h => by
    cases ha : z.cps.all (· < 128) with
    | false =>
      have et : strIterType z = "str_iterator" := by unfold strIterType; rw [ha]; rfl
      rw [et] at st
      exact wpAny_pyIter_striter_wide st h
    | true =>
      have et : strIterType z = "str_ascii_iterator" := by unfold strIterType; rw [ha]; rfl
      rw [et] at st
      exact wpAny_pyIter_striter_ascii st h
noncomputable def iAny (K : PySem.W.Frag) (tl : TE) : TI := fun σ H R => tl σ H fun x H1 => (∃ a, x = .ref a ∧ (∃ xs, SqL K H1 a xs) ∧ R (Itl K a) H1) ∨ (∃ a, x = .ref a ∧ (∃ xs, SqT K H1 a xs) ∧ R (Itt K a) H1) ∨ (∃ z, x = .str z ∧ R (Its z) H1)
theorem pi_any {l : Expr} {tl : TE} (hl : PE X l tl) : PI X tg l (iAny X.K tl) := by
  intro pins s σ H R I h
  refine thn (hl pins s σ H _ I h) fun v s1 ⟨x, H1, I1, r1, q1⟩ => ?_
  rcases q1 with ⟨a, e, ⟨xs, hq⟩, q⟩ | ⟨a, e, ⟨xs, hq⟩, q⟩ | ⟨z, e, q⟩
  · subst e
    cases r1
    obtain ⟨its, rv, p, hz⟩ := I1.list hq
    refine wpAny_pyIter_list p.isList ?_
    refine ⟨s1.heap.objs.size, [s1.heap.objs.size], _, _, H1, rfl, I1.kept (t' := s1.toks) fun b o e => Heap.get?_push_of_some _ e, turn_list a _, ⟨_, Heap.get?_push_size _ rfl, rfl, rfl⟩, fun b hb => ?_, q⟩
    have e : b = s1.heap.objs.size := by simpa using hb
    subst e
    exact I1.fpOk (Nat.le_refl _) (I1.hok.fresh (Nat.le_refl _))
  · subst e
    cases r1
    obtain ⟨its, rv, p, hz⟩ := I1.tuple hq
    refine wpAny_pyIter_tuple (show s1.heap.IsTuple a its.toArray from p) ?_
    refine ⟨s1.heap.objs.size, [s1.heap.objs.size], _, _, H1, rfl, I1.kept (t' := s1.toks) fun b o e => Heap.get?_push_of_some _ e, turn_tuple a _, ⟨_, Heap.get?_push_size _ rfl, rfl, rfl⟩, fun b hb => ?_, q⟩
    have e : b = s1.heap.objs.size := by simpa using hb
    subst e
    exact I1.fpOk (Nat.le_refl _) (I1.hok.fresh (Nat.le_refl _))
  · subst e
    obtain ⟨t, rfl⟩ := r1
    refine wpAny_pyIter_strU ?_
    refine ⟨s1.heap.objs.size, [s1.heap.objs.size], _, _, H1, rfl, I1.kept (t' := s1.toks) fun b o e => Heap.get?_push_of_some _ e, turn_text z t _, ⟨_, Heap.get?_push_size _ rfl, rfl, rfl⟩, fun b hb => ?_, q⟩
    have e : b = s1.heap.objs.size := by simpa using hb
    subst e
    exact I1.fpOk (Nat.le_refl _) (I1.hok.fresh (Nat.le_refl _))
theorem vals_strs : ∀ l : List (Str × Tok), Vals ((l.map (·.1)).map V.str) (strValues l)
  | [] => .nil
  | (x, t) :: r => .cons ⟨t, rfl⟩ (vals_strs r)
noncomputable def rSplit : V → List V → Hp → VK → Prop := fun x xs H Q => ∃ a b, x = .str a ∧ xs = [.str b] ∧ (b.length == 0) = false ∧ a.length ≤ sizeLine ∧ (Txt.split a b).length ≤ sizeLine ∧ ∀ p, H p = none → Q (.ref p) (upd H p (.lst ((Txt.split a b).map V.str)))
theorem mt_split : MtR X "str.split" rSplit := by
  intro pins s σ H x xs v us Q I rx rs h
  obtain ⟨a, b, rfl, rfl, hb, ha, hz, q⟩ := h
  obtain ⟨t, rfl⟩ := rx
  obtain ⟨u, rfl, ru⟩ := vals1 rs
  obtain ⟨t', rfl⟩ := ru
  have one : Txt.split a b = [a] → ∀ tk, EP X pins σ Q (.ref s.heap.objs.size) { s with toks := tk, heap := s.heap.push { cls := .type "list", data := .seq #[.str a t] } } := fun e tk => by
    rw [e] at q
    exact ⟨.ref _, _, I.lnew (t' := tk) (ys := [.str a]) (its := [.str a t]) (.cons ⟨t, rfl⟩ .nil) (by show 1 ≤ sizeLine; decide), rfl, q _ I.fresh⟩
  cases h1 : (decide (a.length < b.length) || decide (Builtin.Str.strKind a < Builtin.Str.strKind b))
  · cases hf : (Builtin.Str.occurrences a b 0 a.length (a.length + 1)).isEmpty
    · have e : Txt.split a b = Builtin.Str.partsBetween a (Builtin.Str.occurrences a b 0 a.length (a.length + 1)) b.length := (if_neg (ne_true_of_eq_false h1)).trans (if_neg (ne_true_of_eq_false hf))
      rw [e] at hz q
      refine call_meets F.slot_str_split (typeIs_str _ _ _) F.entry_str_split (F.args_str_split_2 _ _) (meets_str_split_sep a b t t' h1 hb hf ha hz) ?_
      rw [strsFrom_eq]
      have hv := vals_strs (numbered s.toks (Builtin.Str.partsBetween a (Builtin.Str.occurrences a b 0 a.length (a.length + 1)) b.length))
      rw [numbered_texts] at hv
      exact ⟨.ref _, _, I.lnew (t' := _) hv (by rw [List.length_map]; exact hz), rfl, q _ I.fresh⟩
    · exact call_meets F.slot_str_split (typeIs_str _ _ _) F.entry_str_split (F.args_str_split_2 _ _) (meets_str_split_not_found a b t t' h1 hb hf) (one ((if_neg (ne_true_of_eq_false h1)).trans (if_pos hf)) s.toks)
  · exact call_meets F.slot_str_split (typeIs_str _ _ _) F.entry_str_split (F.args_str_split_2 _ _) (meets_str_split_cannot_occur a b t t' h1) (one (if_pos h1) s.toks)
noncomputable def rPart : V → List V → Hp → VK → Prop := fun x xs H Q => ∃ a b, x = .str a ∧ xs = [.str b] ∧ (b.length == 0) = false ∧ a.length ≤ sizeLine ∧ ∀ p, H p = none → Q (.ref p) (upd H p (.tup [.str (Txt.partition a b).1, .str (Txt.partition a b).2.1, .str (Txt.partition a b).2.2]))
noncomputable def rAll (K : PySem.W.Frag) : List V → Hp → VK → Prop := fun xs H Q => ∃ (p : Addr) (bs : List Bool), xs = [.ref p] ∧ SqL K H p (bs.map V.bl) ∧ Q (.bl (bs.all id)) H
theorem bools_of : ∀ {bs : List Bool} {us : List Value}, Vals (bs.map V.bl) us → us = bs.map Value.bool
  | [], _, r => by rw [List.map_nil] at r; cases r; rfl
  | b :: bs, _, r => by
    rw [List.map_cons] at r
    cases r with
    | cons h t =>
      cases (show _ = Value.bool b from h)
      rw [bools_of t]; rfl
theorem range_all : ∀ bs : List Bool, (List.range bs.length).all (fun i => (bs[i]?).getD true) = bs.all id
  | [] => rfl
  | b :: bs => by
    rw [List.length_cons, List.range_succ_eq_map, List.all_cons, List.all_map, List.all_cons, ← range_all bs]
    rfl
theorem call_all (hc : X.calm = true) : CallR X (.builtin "all") (rAll X.K) := by
  intro pins s σ H xs us Q I rs h
  obtain ⟨p, bs, rfl, hq, q⟩ := h
  obtain ⟨u, rfl, ru⟩ := vals1 rs
  cases ru
  obtain ⟨its, rv, pl, hz⟩ := I.list hq
  have e := bools_of rv
  subst e
  refine call_all_walk (wpAny_pyIter_list pl.isList ?_)
  have hne : p ≠ s.heap.objs.size := fun z => by
    obtain ⟨o, ho, _⟩ := pl.isList
    have := Heap.lt_size ho
    rw [z] at this; exact Nat.lt_irrefl _ this
  refine ⟨s.heap.objs.size, _, _, _, _, _, fun i => (bs[i]?).getD true, rfl, Walks.list (by first | exact I.ok.hd hc | (rw [show X.A.in1.handled = X.A.handled from rfl]; exact I.ok.hd hc)) _ p hne (bs.map Value.bool).toArray, ⟨⟨_, Heap.get?_push_size _ rfl, rfl, rfl⟩, pl.isList.at fun o e => Heap.get?_push_of_some _ e⟩, ?_, fun h' tk hk => ?_⟩
  · intro i v s' Q' E' hP hQ
    have hP' : (bs.map Value.bool)[i]? = some v := by simpa using hP
    rw [List.getElem?_map] at hP'
    cases hb : bs[i]? with
    | none => rw [hb] at hP'; cases hP'
    | some b =>
      rw [hb] at hP'
      cases hP'
      dsimp only at hQ
      rw [hb] at hQ
      exact wpAny_truthy_bool hQ
  · have e : (List.range (bs.map Value.bool).toArray.size).all (fun i => (bs[i]?).getD true) = bs.all id := by
      rw [List.size_toArray, List.length_map]; exact range_all bs
    rw [e]
    refine ⟨.bl _, H, I.kept (t' := tk) fun b o hb => hk b o (fun z => ?_) (Heap.get?_push_of_some _ hb), rfl, q⟩
    have z' : b = s.heap.objs.size := by simpa using z
    have := Heap.lt_size hb
    rw [z'] at this; exact Nat.lt_irrefl _ this
end
end L2

namespace DL
open PySem PySem.Spec PyProof.Rows L2
variable {K : PySem.W.Frag}
noncomputable def signs (z : Str) : List D := z.cps.toList.map fun c => .str ⟨#[c]⟩
theorem yields_text {z : Str} {F : Hp} : Yields K (Its z) F (signs z) := fun F' H sF sH i => by
  have hl : (signs z).length = z.length := by unfold signs; rw [List.length_map]; rfl
  refine ⟨fun d hd => ?_, fun h => by rw [hl] at h; exact h⟩
  have hi : i < z.length := by
    have := (List.getElem?_eq_some_iff.mp hd).1
    rw [hl] at this; exact this
  refine ⟨hi, fun x H' ⟨e1, c, e2, e3⟩ => ?_⟩
  subst e1 e3
  unfold signs at hd
  rw [List.getElem?_map] at hd
  have e4 : z.cps.toList[i]? = some c := by simpa using e2
  rw [e4] at hd
  cases hd
  exact ⟨Same.refl _, [], List.nodup_nil, fun _ h => (nomatch h), .str _⟩
section
variable {Z : Ent K} {H : Hp} {σ : L2.St} {Q : VK} {E : Ends}
@[simp] noncomputable def anyI (fe : FE) : FD := fun δ => (fe δ).bind fun p => (frz p.1 p.2).bind fun q => match q.1 with
  | .lst xs => some (xs, q.2)
  | .tup xs => some (xs, q.2)
  | .str z => some (signs z, q.2)
  | _ => none
theorem l_anyI {fe : FE} {R : It → Hp → Prop} (h : liftI Z (anyI fe) σ H R) : iAny K (liftE Z fe) σ H R := by
  obtain ⟨F, δ, own, ds, δ', s, e, k⟩ := h
  obtain ⟨⟨rv, δ1⟩, e1, e2⟩ := Option.bind_eq_some_iff.mp e
  obtain ⟨⟨d, δ2⟩, e3, e4⟩ := Option.bind_eq_some_iff.mp e2
  refine ⟨F, δ, own, rv, δ1, s, e1, fun v H1 F1 own1 sH sF s1 r1 => ?_⟩
  obtain ⟨F2, sF2, s2, r2⟩ := s1.settleR r1
  obtain ⟨F3, own3, sF3, s3, r3⟩ := s2.frzR r2 e3
  dsimp only at e4
  split at e4
  · cases e4
    cases r3 with
    | lst h r => exact .inl ⟨_, rfl, ⟨_, sqL_mono s3.le h⟩, k _ H1 F3 own3 sH (sF.trans (sF2.trans sF3)) s3 (yields_list h r)⟩
  · cases e4
    cases r3 with
    | tup h r => exact .inr (.inl ⟨_, rfl, ⟨_, sqT_mono s3.le (tupSq h)⟩, k _ H1 F3 own3 sH (sF.trans (sF2.trans sF3)) s3 (yields_tup (tupSq h) r)⟩)
  · cases e4
    cases r3 with
    | str x => exact .inr (.inr ⟨_, rfl, k _ H1 F3 own3 sH (sF.trans (sF2.trans sF3)) s3 yields_text⟩)
  · cases e4
@[simp] noncomputable def inS (i j : Str) : Bool := !(Builtin.Str.occurrences j i 0 j.length 1).isEmpty
@[simp] noncomputable def inD : D → D → Option SV
  | .str i, .str j => some (.fz (.bl (inS i j)))
  | _, _ => none
@[simp] noncomputable def notinD : D → D → Option SV
  | .str i, .str j => some (.fz (.bl (!inS i j)))
  | _, _ => none
theorem p_in : Prim2 Z (fun x y H Q => ∃ i j, x = .str i ∧ y = .str j ∧ Q (.bl (!(Builtin.Str.occurrences j i 0 j.length 1).isEmpty)) H) inD := by
  intro F H σ δ own x y d1 d2 sv Q s r1 r2 e k
  unfold inD at e
  split at e
  · cases e; exact ⟨_, _, r1.str, r2.str, k.fz s (.bl _)⟩
  · cases e
theorem p_notin : Prim2 Z (fun x y H Q => ∃ i j, x = .str i ∧ y = .str j ∧ Q (.bl (!(!(Builtin.Str.occurrences j i 0 j.length 1).isEmpty))) H) notinD := by
  intro F H σ δ own x y d1 d2 sv Q s r1 r2 e k
  unfold notinD at e
  split at e
  · cases e; exact ⟨_, _, r1.str, r2.str, k.fz s (.bl _)⟩
  · cases e
@[simp] noncomputable def splitD : List D → Option SV
  | [.str a, .str b] => if (b.length == 0) = false ∧ a.length ≤ PySem.sizeLine ∧ (Txt.split a b).length ≤ PySem.sizeLine then some (.ol ((Txt.split a b).map D.str)) else none
  | _ => none
theorem strs_reps {F : Hp} : ∀ xs : List Str, Reps K F (xs.map D.str) (xs.map V.str)
  | [] => .nil
  | x :: r => .cons (.str x) (strs_reps r)
theorem p_split : PrimM Z rSplit splitD := by
  intro F H σ δ own vs ds sv Q s r e k
  unfold splitD at e
  split at e
  · rename_i a b
    split at e
    · rename_i h
      cases e
      cases r with
      | cons h1 t => cases t with
        | cons h2 t => cases t; exact ⟨_, _, rfl, a, b, h1.str, by rw [h2.str], h.1, h.2.1, h.2.2, fun p hp => k.lst s (strs_reps _) hp⟩
    · cases e
  · cases e
@[simp] noncomputable def partitionD : List D → Option SV
  | [.str a, .str b] => if (b.length == 0) = false ∧ a.length ≤ PySem.sizeLine then some (.fz (.tup [.str (Txt.partition a b).1, .str (Txt.partition a b).2.1, .str (Txt.partition a b).2.2])) else none
  | _ => none
@[simp] noncomputable def bools? : List D → Option (List Bool)
  | [] => some []
  | .bl x :: r => (bools? r).bind fun t => some (x :: t)
  | _ => none
theorem bools_ok {F : Hp} : ∀ {ds : List D} {xs : List Bool} {vs : List V}, bools? ds = some xs → Reps K F ds vs → vs = xs.map V.bl
  | [], _, _, e, r => by cases e; cases r; rfl
  | d :: ds, _, _, e, r => by
    cases r with
    | cons h t =>
      unfold bools? at e
      split at e
      · rename_i e0; cases e0
      · rename_i x r0 e0
        cases e0
        obtain ⟨ys, e1, e2⟩ := Option.bind_eq_some_iff.mp e
        cases e2
        cases h
        rw [bools_ok e1 t]; rfl
      · cases e
@[simp] noncomputable def allD : List D → Option SV
  | [.lst xs] => (bools? xs).bind fun bs => some (.fz (.bl (bs.all id)))
  | _ => none
theorem p_all : PrimN Z (rAll K) allD := by
  intro F H σ δ own vs ds sv Q s r e k
  unfold allD at e
  split at e
  · obtain ⟨bs, e1, e2⟩ := Option.bind_eq_some_iff.mp e
    cases e2
    cases r with
    | cons h1 t =>
      cases t
      obtain ⟨a, vs, rfl, ha, ra⟩ := h1.lst s.le
      rw [bools_ok e1 ra] at ha
      exact ⟨a, bs, rfl, ha, k.fz s (.bl _)⟩
  · cases e
@[simp] noncomputable def clearF (i : Nat) : FS := fun δ => match δ[i]? with
  | some (some (.ol _)) => some (.nx (δ.set i (some (.ol []))))
  | _ => none
end
section
variable {X : Cx} {Z : Ent X.K} {a b c : Expr} {fa fb fc : FE} {pos : Pos} {tg : Expr}
theorem i_any (ha : PE X a (liftE Z fa)) : PI X tg a (liftI Z (anyI fa)) := fun pins s σ H R I h => pi_any ha pins s σ H R I (l_anyI h)
theorem e_split {apos cpos : Pos} (ha : PE X a (liftE Z fa)) (hb : PE X b (liftE Z fb)) (hbase : attributeBase a "split" X.env (eval a X.env) = eval a X.env := by rfl)
    (hfew : ((backTo cpos (starEach [b] X.env)).all (fun x => !x.1) && (backToKw cpos (keywordEach [] X.env)).all (fun x => x.1.isSome) && decide ([b].length + ([] : List Keyword).length + (if ([] : List Keyword).isEmpty then 0 else 1) < 30)) = true := by rfl)
    (hline : (apos.endLine == cpos.line) = true := by rfl) (hs : starEach [b] X.env = (false, eval b X.env) :: starEach [] X.env := by rfl) (hpl : (backTo cpos (starEach [] X.env)).any (·.1) = false := by rfl) :
    PE X (.Call (.Attribute a "split" apos) [b] [] cpos) (liftE Z (bmF "str" splitD fa (argCons fb argNil))) :=
  (pe_bm PySem.F.plainAttrs_str PySem.F.slot_str_split PySem.F.type_str_split mt_split ha (a_cons hb a_nil hs) hbase hfew hline hs hpl).imp fun _ _ _ h => l_bm p_split h
theorem e_all {p : Pos} (hm : X.mg "all" = none) (ha : PE X a (liftE Z fa)) (hc : X.calm = true := by rfl) (hg : Gl X "all" := by rfl) (he : starEach [a] X.env = (false, eval a X.env) :: starEach [] X.env := by rfl) (hpl : (backTo pos (starEach [] X.env)).any (·.1) = false := by rfl) : PE X (.Call (.Name "all" p) [a] [] pos) (liftE Z (primF allD (argCons fa argNil))) :=
  e_callB (call_all hc) p_all hm boot_all (a_cons ha a_nil he) hg (by decide) (by decide) he hpl
end
end DL

namespace L2
open PySem PySem.Spec PyProof.Rows
open AutoSeq1 (wpAny_loadPart')
section
variable {prog : Program} {w : World} {A : Around} {E : Value → Shared → Prop} {s : Shared}
end
section
variable {X : Cx} {tg : Expr}
noncomputable def IteT (K : PySem.W.Frag) (a : Addr) : It :=
  ⟨fun i H => ∃ xs x, SqT K H a xs ∧ xs[i]? = some x, fun i H x H' => ∃ p v, x = .ref p ∧ H p = none ∧ H' = upd H p (.tup [.int (i : Nat), v]) ∧ ∀ xs, SqT K H a xs → xs[i]? = some v, fun i H => ∃ xs, SqT K H a xs ∧ xs.length ≤ i⟩
noncomputable def iEnumT (K : PySem.W.Frag) (ta : TA) : TI := fun σ H R => ta σ H fun vs H1 => ∃ a xs, vs = [.ref a] ∧ SqT K H1 a xs ∧ R (IteT K a) H1

end
end L2
namespace DL
open PySem PySem.Spec PyProof.Rows L2
variable {K : PySem.W.Frag}
section
variable {Z : Ent K} {H : Hp} {σ : L2.St} {Q : VK}
@[simp] noncomputable def enumTI (fd : FD) : FD := fun δ => (fd δ).bind fun p => match p.1 with
  | [.tup xs] => some (enumL xs, p.2)
  | _ => none
end
section
variable {X : Cx} {Z : Ent X.K} {a : Expr} {fa : FE} {pos : Pos}
@[simp] noncomputable def enumXI (fd : FD) : FD := fun δ => (fd δ).bind fun p => match p.1 with
  | [.lst xs] => some (enumL xs, p.2)
  | [.tup xs] => some (enumL xs, p.2)
  | _ => none
end
end DL

namespace L2
open PySem PySem.Spec PyProof.Rows
variable {X : Cx}
noncomputable def rJoinX (K : PySem.W.Frag) : V → List V → Hp → VK → Prop := fun x xs H Q => ∃ sep p ys, x = .str sep ∧ xs = [.ref p] ∧ (SqL K H p (ys.map V.str) ∨ SqT K H p (ys.map V.str)) ∧ JoinOk sep ys = true ∧ Q (.str (Txt.join sep ys)) H
theorem mt_joinX : MtR X "str.join" (rJoinX X.K) := by
  intro pins s σ H x xs v us Q I rx rs h
  obtain ⟨sep, p, ys, rfl, rfl, hq, hok, q⟩ := h
  rcases hq with hq | hq
  · exact mt_join pins s σ H _ _ v us Q I rx rs ⟨sep, p, ys, rfl, rfl, hq, hok, q⟩
  · obtain ⟨t, rfl⟩ := rx
    obtain ⟨u, rfl, ru⟩ := vals1 rs
    cases ru
    obtain ⟨its, rv, pl, hz⟩ := I.tuple hq
    obtain ⟨l, e1, e2⟩ := strs_of rv
    subst e1 e2
    have hok' := hok
    unfold JoinOk at hok'
    rw [Bool.not_eq_true'] at hok'
    obtain ⟨o, ho, hc, n, hd⟩ := (show s.heap.IsTuple p (strValues l).toArray from pl)
    exact call_meets F.slot_str_join (typeIs_str _ _ _) F.entry_str_join (F.args_str_join_2 _ _) (meets_str_join_tuple sep t p l hok') ⟨⟨o, n, ho, hc, hd⟩, post_join l ⟨joinFit_length hok', fun t' k => ⟨.str (Txt.join sep (l.map (·.1))), H, I.tok _, ⟨_, rfl⟩, q⟩⟩⟩
end L2
namespace DL
open PySem PySem.Spec PyProof.Rows L2
variable {K : PySem.W.Frag}
@[simp] noncomputable def joinXD : List D → Option SV
  | [.str sep, .lst xs] => (strs? xs).bind fun ys => if JoinOk sep ys = true then some (.fz (.str (Txt.join sep ys))) else none
  | [.str sep, .tup xs] => (strs? xs).bind fun ys => if JoinOk sep ys = true then some (.fz (.str (Txt.join sep ys))) else none
  | _ => none
theorem p_joinX {Z : Ent K} : PrimM Z (rJoinX K) joinXD := by
  intro F H σ δ own vs ds sv Q s r e k
  unfold joinXD at e
  split at e
  · obtain ⟨ys, e1, e2⟩ := Option.bind_eq_some_iff.mp e
    split at e2
    · rename_i hok
      cases e2
      cases r with
      | cons h1 t1 =>
        cases t1 with
        | cons h2 t2 =>
          cases t2
          obtain ⟨a, us, ex, ha, ra⟩ := h2.lst s.le
          rw [strs_ok e1 ra] at ha
          exact ⟨_, _, rfl, _, a, ys, h1.str, by rw [ex], .inl ha, hok, k.fz s (.str _)⟩
    · cases e2
  · obtain ⟨ys, e1, e2⟩ := Option.bind_eq_some_iff.mp e
    split at e2
    · rename_i hok
      cases e2
      cases r with
      | cons h1 t1 =>
        cases t1 with
        | cons h2 t2 =>
          cases t2
          obtain ⟨a, us, ex, ha, ra⟩ := h2.tup s.le
          rw [strs_ok e1 ra] at ha
          exact ⟨_, _, rfl, _, a, ys, h1.str, by rw [ex], .inr ha, hok, k.fz s (.str _)⟩
    · cases e2
  · cases e
section
variable {X : Cx} {Z : Ent X.K} {a b : Expr} {fa fb : FE}
theorem e_joinX {apos cpos : Pos} (ha : PE X a (liftE Z fa)) (hb : PE X b (liftE Z fb)) (hbase : attributeBase a "join" X.env (eval a X.env) = eval a X.env := by rfl)
    (hfew : ((backTo cpos (starEach [b] X.env)).all (fun x => !x.1) && (backToKw cpos (keywordEach [] X.env)).all (fun x => x.1.isSome) && decide ([b].length + ([] : List Keyword).length + (if ([] : List Keyword).isEmpty then 0 else 1) < 30)) = true := by rfl)
    (hline : (apos.endLine == cpos.line) = true := by rfl) (hs : starEach [b] X.env = (false, eval b X.env) :: starEach [] X.env := by rfl) (hpl : (backTo cpos (starEach [] X.env)).any (·.1) = false := by rfl) :
    PE X (.Call (.Attribute a "join" apos) [b] [] cpos) (liftE Z (bmF "str" joinXD fa (argCons fb argNil))) :=
  (pe_bm PySem.F.plainAttrs_str PySem.F.slot_str_join PySem.F.type_str_join mt_joinX ha (a_cons hb a_nil hs) hbase hfew hline hs hpl).imp fun _ _ _ h => l_bm p_joinX h
end
end DL

namespace L2
open PySem PySem.Spec PyProof.Rows
variable {X : Cx}
noncomputable def rDGet : R2 := fun x y H Q => ∃ a v, x = .ref a ∧ DGet H a y (some v) ∧ Q v H
noncomputable def rDIn : R2 := fun y x H Q => ∃ a o, x = .ref a ∧ DGet H a y o ∧ Q (.bl o.isSome) H
noncomputable def rDNotIn : R2 := fun y x H Q => ∃ a o, x = .ref a ∧ DGet H a y o ∧ Q (.bl (!o.isSome)) H
end L2
namespace DL
open PySem PySem.Spec PyProof.Rows L2
variable {K : PySem.W.Frag}
@[simp] noncomputable def D.key? : D → Option Key
  | .int i => some (.inl i)
  | .str x => some (.inr x)
  | _ => none
@[simp] noncomputable def keys? : List D → Option (List Key)
  | [] => some []
  | d :: r => d.key?.bind fun k => (keys? r).bind fun t => some (k :: t)
section
variable {κ : Type} [DecidableEq κ]
@[simp] noncomputable def look (ks : List κ) (vs : List D) (k : κ) : Option D := match ks, vs with
  | a :: ks, v :: vs => if a = k then some v else look ks vs k
  | _, _ => none
@[simp] noncomputable def putA (ks : List κ) (vs : List D) (k : κ) (v : D) : List κ × List D :=
  if k ∈ ks then (ks, (ks.zip vs).map fun p => if p.1 = k then v else p.2) else (ks ++ [k], vs ++ [v])
end
@[simp] noncomputable def getO : D → D → Option (Option D)
  | .dK ks vs, d => d.key?.bind fun k => some (look ks vs k)
  | .dT ks vs, .tup xs => (keys? xs).bind fun k => some (look ks vs k)
  | _, _ => none
section
variable {Z : Ent K}
@[simp] noncomputable def dgetD (d1 d2 : D) : Option SV := (getO d1 d2).bind fun o => o.bind fun d => some (.fz d)
@[simp] noncomputable def inDd (d1 d2 : D) : Option SV := (getO d2 d1).bind fun o => some (.fz (.bl o.isSome))
@[simp] noncomputable def notinDd (d1 d2 : D) : Option SV := (getO d2 d1).bind fun o => some (.fz (.bl (!o.isSome)))
@[simp] noncomputable def D.isD : D → Bool
  | .dK _ _ => true | .dT _ _ => true | _ => false
@[simp] noncomputable def ixX (d1 d2 : D) : Option SV := if d1.isD = true then dgetD d1 d2 else ixD d1 d2
@[simp] noncomputable def inX (d1 d2 : D) : Option SV := if d2.isD = true then inDd d1 d2 else inD d1 d2
@[simp] noncomputable def notinX (d1 d2 : D) : Option SV := if d2.isD = true then notinDd d1 d2 else notinD d1 d2
end
section
variable {X : Cx} {Z : Ent X.K} {a b c : Expr} {fa fb fc : FE} {pos : Pos}
end
end DL

namespace L2
open PySem PySem.Spec PyProof.Rows
variable {X : Cx}
noncomputable def rDGetM : V → List V → Hp → VK → Prop := fun x xs H Q => ∃ a, x = .ref a ∧ ((∃ y o, xs = [y] ∧ DGet H a y o ∧ Q (o.getD .non) H) ∨ (∃ y z o, xs = [y, z] ∧ DGet H a y o ∧ Q (o.getD z) H))
end L2
namespace DL
open PySem PySem.Spec PyProof.Rows L2
variable {K : PySem.W.Frag}
section
variable {Z : Ent K} {H : Hp} {σ : L2.St} {Q : VK} {E : Ends}
@[simp] noncomputable def dnewK : FE := fun δ => some (.tmp (.oK [] []), δ)
@[simp] noncomputable def dnewT : FE := fun δ => some (.tmp (.oT [] []), δ)
@[simp] noncomputable def SV.isOD : Option (Option SV) → Bool
  | some (some (.oK _ _)) => true
  | some (some (.oT _ _)) => true
  | _ => false
@[simp] noncomputable def putS (kd d : D) : Option (Option SV) → Option SV
  | some (some (.oK ks vs)) => kd.key?.bind fun k => if vs.length < PySem.sizeLine then some (.oK (putA ks vs k d).1 (putA ks vs k d).2) else none
  | some (some (.oT ks vs)) => match kd with
    | .tup xs => (keys? xs).bind fun k => if vs.length < PySem.sizeLine then some (.oT (putA ks vs k d).1 (putA ks vs k d).2) else none
    | _ => none
  | _ => none
@[simp] noncomputable def putF (i : Nat) (fk fv : FE) : FS := fun δ => (fv δ).bind fun p => (frz p.1 p.2).bind fun q => if SV.isOD (q.2[i]?) = true then (fk q.2).bind fun r => (rdv r.1 r.2).bind fun kd => (putS kd q.1 (r.2[i]?)).bind fun sv => some (.nx (r.2.set i (some sv))) else none
@[simp] noncomputable def bmDF (T : String) (g : D → List D → Option SV) (fo : FE) (fd : FD) : FE := fun δ => (fo δ).bind fun p => (rdv p.1 p.2).bind fun d0 => if tyOk T d0 = true then (fd p.2).bind fun q => (rdv p.1 q.2).bind fun d1 => (g d1 q.1).bind fun sv => some (.tmp sv, q.2) else none
noncomputable def PrimF (Z : Ent K) (r : V → List V → Hp → VK → Prop) (g : D → List D → Option SV) : Prop :=
  ∀ (F H : Hp) (σ : L2.St) (δ : DSt) (own : Nat → Nodes) (x : V) (d : D) (vs : List V) (ds : List D) (sv : SV) (Q : VK), SR Z F H σ δ own → RepN K F H d x → Reps K F ds vs → g d ds = some sv → Fin Z F H σ δ own sv Q → r x vs H Q
@[simp] noncomputable def dgetMD : D → List D → Option SV
  | d, [y] => (getO d y).bind fun o => some (.fz (o.getD .non))
  | d, [y, z] => (getO d y).bind fun o => some (.fz (o.getD z))
  | _, _ => none
end
section
variable {X : Cx} {Z : Ent X.K} {a b c : Expr} {fa fb fc : FE} {pos : Pos}
end
end DL

namespace L2
open PySem PySem.Spec PyProof.Rows
variable {X : Cx}
noncomputable def rDictOf : List V → Hp → VK → Prop := fun xs H Q => ∃ a kvs, xs = [.ref a] ∧ RdK H a kvs ∧ ∀ p ep, H p = none → Q (.ref p) (upd H p (.dK kvs ep))
end L2
namespace DL
open PySem PySem.Spec PyProof.Rows L2
variable {K : PySem.W.Frag}
section
variable {Z : Ent K} {H : Hp} {σ : L2.St} {Q : VK} {E : Ends}
@[simp] noncomputable def dictD : List D → Option SV
  | [.dK ks vs] => some (.oK ks vs)
  | _ => none
@[simp] noncomputable def disp1F (k : Str) (i : Nat) : FE := fun δ => match δ[i]? with
  | some (some sv) => some (.tmp (.oK [.inr k] [sv.toD]), δ.set i (some (.fz sv.toD)))
  | _ => none
@[simp] noncomputable def dropA (ks : List Key) (vs : List D) (k : Key) : List Key × List D := (((ks.zip vs).filter fun p => decide (p.1 ≠ k)).map (·.1), ((ks.zip vs).filter fun p => decide (p.1 ≠ k)).map (·.2))
@[simp] noncomputable def popF (i : Nat) (fk : FE) : FS := fun δ => match δ[i]? with
  | some (some (.oK _ _)) => (fk δ).bind fun r => (rdv r.1 r.2).bind fun kd => kd.key?.bind fun k => match r.2[i]? with
    | some (some (.oK ks vs)) => if (look ks vs k).isSome = true then some (.nx (r.2.set i (some (.oK (dropA ks vs k).1 (dropA ks vs k).2)))) else none
    | _ => none
  | _ => none
end
section
variable {X : Cx} {Z : Ent X.K} {a b c : Expr} {fa fb fc : FE} {pos : Pos}
end
end DL

namespace L2
open PySem PySem.Spec PyProof.Rows
section
variable {prog : Program} {w : World} {A : Around} {E : Value → Shared → Prop} {s : Shared}
end
noncomputable def nonIs : Option Key → Value → Bool
  | none, .none => true
  | none, _ => false
  | some k, v => keyIs k v
variable {X : Cx}
noncomputable def rNonIn (neg : Bool) : R2 := fun y x H Q => ∃ a kvs, y = .non ∧ x = .ref a ∧ RdK H a kvs ∧ Q (.bl neg) H
end L2

namespace L2
open PySem PySem.Spec PyProof.Rows
noncomputable def SPairs (es : Array DictEntry) (kvs : List (Str × Value)) : Prop := es.size = kvs.length ∧ ∀ (i : Nat) (p : Str × Value), kvs[i]? = some p → ∃ e t, es[i]? = some e ∧ e.key = .str p.1 t ∧ e.val = p.2
noncomputable def SDict (h : Heap) (a : Addr) (kvs : List (Str × Value)) : Prop := ∃ o es ep, h.get? a = some o ∧ o.ExactDict ∧ o.data = .dict es ep ∧ SPairs es kvs
noncomputable def place (kvs : List (Str × Value)) (x : Str) : Option Nat := kvs.findIdx? fun p => decide (p.1 = x)
section
variable {prog : Program} {w : World} {A : Around} {E : Value → Shared → Prop} {s : Shared}
end
inductive SHits (A : Around) (s : Shared) (kb : List (Str × Value)) : List (Str × Value) → Bool → Prop where
  | nil : SHits A s kb [] true
  | miss {k : Str} {v : Value} {r : List (Str × Value)} : place kb k = none → SHits A s kb ((k, v) :: r) false
  | hit {k : Str} {v : Value} {r : List (Str × Value)} {j : Nat} {p : Str × Value} {e b : Bool} : place kb k = some j → kb[j]? = some p → SeqAt.EqAt A s v p.2 e → SHits A s kb r b → SHits A s kb ((k, v) :: r) (e && b)
section
variable {prog : Program} {w : World} {A : Around} {E : Value → Shared → Prop} {s : Shared}
end
section
variable {A : Around} {s : Shared} {a b : Addr} {ka kb : List (Str × Value)} {r : Bool}
end
end L2

namespace DL
open PySem PySem.Spec PyProof.Rows L2
variable {K : PySem.W.Frag}
@[simp] noncomputable def strK? : List Key → Option (List Str)
  | [] => some []
  | .inr x :: r => (strK? r).bind fun t => some (x :: t)
  | _ => none
@[simp] noncomputable def eqKV (f : D → D → Option Bool) (ys : List Str) (us : List D) : List Str → List D → Option Bool
  | x :: xs, v :: vs => match look ys us x with
    | none => some false
    | some u => (f v u).bind fun b => (eqKV f ys us xs vs).bind fun c => some (b && c)
  | _, _ => some true
@[simp] noncomputable def eqStep2 (f : D → D → Option Bool) : D → D → Option Bool
  | .dK ks vs, .dK ks' vs' => (strK? ks).bind fun xs => (strK? ks').bind fun ys => if xs.length = ys.length then eqKV f ys vs' xs vs else some false
  | d1, d2 => eqStep f d1 d2
@[simp] noncomputable def eqM : Nat → D → D → Option Bool
  | 0 => fun _ _ => none
  | n + 1 => eqStep2 (eqM n)
section
variable {X : Cx} {pins : List (Addr × Obj)} {σ : L2.St} {F H : Hp} {s : Shared}
end
end DL

namespace DL
open PySem PySem.Spec PyProof.Rows L2
variable {K : PySem.W.Frag}
section
variable {X : Cx} {pins : List (Addr × Obj)} {σ : L2.St} {F H : Hp} {s : Shared}
noncomputable def rEqM (K : PySem.W.Frag) (neg : Bool) : R2 := fun x y H Q => ∃ F d1 d2 b, Same F H ∧ RepN K F H d1 x ∧ RepN K F H d2 y ∧ eqM 48 d1 d2 = some b ∧ (flatV x = false ∨ flatV y = false) ∧ Q (.bl (if neg then !b else b)) H
end
end DL

namespace DL
open PySem PySem.Spec PyProof.Rows L2
variable {K : PySem.W.Frag}
@[simp] noncomputable def eqY (d1 d2 : D) : Option SV := if d1.isFlat = true ∧ d2.isFlat = true then eqD d1 d2 else (eqM 48 d1 d2).bind fun b => some (.fz (.bl b))
@[simp] noncomputable def neY (d1 d2 : D) : Option SV := if d1.isFlat = true ∧ d2.isFlat = true then neD d1 d2 else (eqM 48 d1 d2).bind fun b => some (.fz (.bl !b))
@[simp] noncomputable def inY (d1 d2 : D) : Option SV := match d1, d2 with
  | .non, .dK _ _ => some (.fz (.bl false))
  | _, _ => inX d1 d2
@[simp] noncomputable def notinY (d1 d2 : D) : Option SV := match d1, d2 with
  | .non, .dK _ _ => some (.fz (.bl true))
  | _, _ => notinX d1 d2
section
variable {Z : Ent K}
end
section
variable {X : Cx} {Z : Ent X.K} {a b c : Expr} {fa fb fc : FE} {pos : Pos}
end
end DL

namespace DL
open PySem PySem.Spec PyProof.Rows L2
variable {K : PySem.W.Frag}
theorem SR.changeT {Z : Ent K} {F H : Hp} {σ : L2.St} {δ : DSt} {own : Nat → Nodes} {i : Nat} {sv sv' svT : SV} {a : Addr} {o o' : HO} {v vT : V} {ns' nsT : Nodes} (s : SR Z F H σ δ own) (t : TmpOk Z F H own svT vT nsT) (e : δ[i]? = some (some sv)) (hv : σ[i]? = some (some v))
    (ha : (a, o) ∈ own i) (hs : Shape K F sv' v ns') (hns : ∀ p ∈ ns', p = (a, o') ∨ (p ∈ own i ∧ p.1 ≠ a) ∨ p ∈ nsT) (nd : (adr ns').Nodup) : SR Z F (upd H a o') σ (δ.set i (some sv')) (put own i ns') := by
  obtain ⟨fa, ha0, hHa⟩ := s.ok i (a, o) ha
  have hi : i < δ.length := (List.getElem?_eq_some_iff.mp e).1
  refine ⟨fun b u eb => ?_, s.fro, fun b u eb => ?_, by rw [List.length_set]; exact s.len, fun j sw ej => ?_, fun j => ?_, fun j p hp => ?_, fun j k p q hjk hp hq => ?_⟩
  · rw [upd_ne fun z => by rw [z] at eb; rw [fa] at eb; cases eb]; exact s.le b u eb
  · rw [upd_ne fun z => by rw [z] at eb; rw [ha0] at eb; cases eb]; exact s.old b u eb
  · by_cases hj : j = i
    · subst hj
      rw [List.getElem?_set_self hi] at ej
      cases ej
      rw [put_same]
      exact ⟨v, hv, hs⟩
    · rw [List.getElem?_set_ne (Ne.symm hj)] at ej
      rw [put_ne hj]
      exact s.at' j sw ej
  · by_cases hj : j = i
    · subst hj; rw [put_same]; exact nd
    · rw [put_ne hj]; exact s.nod j
  · by_cases hj : j = i
    · subst hj
      rw [put_same] at hp
      rcases hns p hp with z | ⟨z, ne⟩ | z
      · subst z; exact ⟨fa, ha0, upd_same⟩
      · obtain ⟨x, y, w⟩ := s.ok j p z
        exact ⟨x, y, by rw [upd_ne ne]; exact w⟩
      · obtain ⟨x, y, w⟩ := t.ok p z
        exact ⟨x, y, by rw [upd_ne (t.sep j p (a, o) z ha)]; exact w⟩
    · rw [put_ne hj] at hp
      obtain ⟨x, y, w⟩ := s.ok j p hp
      exact ⟨x, y, by rw [upd_ne (s.sep j i p (a, o) hj hp ha)]; exact w⟩
  · have far : ∀ (l : Nat) (r q : Addr × HO), l ≠ i → r ∈ ns' → q ∈ own l → r.1 ≠ q.1 := fun l r q hl hr hq => by
      rcases hns r hr with z | ⟨z, _⟩ | z
      · subst z; exact s.sep i l (a, o) q (Ne.symm hl) ha hq
      · exact s.sep i l r q (Ne.symm hl) z hq
      · exact t.sep l r q z hq
    by_cases hj : j = i
    · subst hj
      rw [put_same] at hp
      rw [put_ne (Ne.symm hjk)] at hq
      exact far k p q (Ne.symm hjk) hp hq
    · by_cases hk : k = i
      · subst hk
        rw [put_same] at hq
        rw [put_ne hj] at hp
        exact fun z => far j q p hj hq hp z.symm
      · rw [put_ne hj] at hp
        rw [put_ne hk] at hq
        exact s.sep j k p q hjk hp hq
theorem Kids.snoc {F : Hp} : ∀ {xss : List (List D)} {ws : List V} {ns : Nodes} {xs : List D} {b : Addr} {vs : List V}, Kids K F xss ws ns → Reps K F xs vs → Kids K F (xss ++ [xs]) (ws ++ [.ref b]) (ns ++ [(b, .lst vs)])
  | _, _, _, _, _, _, .nil, r => .cons r .nil
  | _, _, _, _, _, _, .cons h t, r => .cons h (t.snoc r)
section
variable {Z : Ent K} {H : Hp} {σ : L2.St} {Q : VK} {E : Ends}
@[simp] noncomputable def dnewN : FE := fun δ => some (.tmp (.oN [] []), δ)
@[simp] noncomputable def putNF (i j : Nat) : FS := fun δ => match δ[i]?, δ[j]? with
  | some (some (.oN ks xss)), some (some (.fz kd)) => kd.key?.bind fun k => if (ks.any fun x => decide (x = k)) = false ∧ xss.length < PySem.sizeLine then some (.nx (δ.set i (some (.oN (ks ++ [k]) (xss ++ [[]]))))) else none
  | _, _ => none
theorem Kids.length {F : Hp} : ∀ {xss : List (List D)} {ws : List V} {ns : Nodes}, Kids K F xss ws ns → xss.length = ws.length
  | _, _, _, .nil => rfl
  | _, _, _, .cons _ t => by rw [List.length_cons, List.length_cons, t.length]
end
theorem Kids.app {F : Hp} : ∀ {xss : List (List D)} {ws : List V} {ns : Nodes} {p : Nat} {b : Addr}, Kids K F xss ws ns → ws[p]? = some (.ref b) → (adr ns).Nodup →
    ∃ xs vs, xss[p]? = some xs ∧ (b, HO.lst vs) ∈ ns ∧ Reps K F xs vs ∧ ∀ {d : D} {v : V}, Rep K F d v → ∃ ns', Kids K F (xss.set p (xs ++ [d])) ws ns' ∧ adr ns' = adr ns ∧ ∀ q ∈ ns', q = (b, HO.lst (vs ++ [v])) ∨ (q ∈ ns ∧ q.1 ≠ b)
  | _, _, _, _, _, .nil, e, _ => by simp at e
  | _, _, _, 0, b, @Kids.cons _ _ xs xss b' vs ws ns r t, e, nd => by
    have e' : b' = b := by simpa using e
    subst e'
    obtain ⟨n1, n2⟩ := List.nodup_cons.mp nd
    refine ⟨xs, vs, rfl, List.mem_cons_self, r, fun {d v} hd => ⟨(b', .lst (vs ++ [v])) :: ns, .cons (r.snoc hd) t, rfl, fun q hq => ?_⟩⟩
    rcases List.mem_cons.mp hq with z | z
    · exact .inl z
    · exact .inr ⟨List.mem_cons_of_mem _ z, fun w => n1 (List.mem_map.mpr ⟨q, z, w⟩)⟩
  | _, _, _, p + 1, b, @Kids.cons _ _ xs0 xss b' vs0 ws ns r t, e, nd => by
    obtain ⟨n1, n2⟩ := List.nodup_cons.mp nd
    obtain ⟨xs, vs, h1, h2, h3, h4⟩ := Kids.app (p := p) (b := b) t (by simpa using e) n2
    refine ⟨xs, vs, by simpa using h1, List.mem_cons_of_mem _ h2, h3, fun {d v} hd => ?_⟩
    obtain ⟨ns', k1, k2, k3⟩ := h4 hd
    refine ⟨(b', .lst vs0) :: ns', by rw [List.set_cons_succ]; exact .cons r k1, by show b' :: adr ns' = b' :: adr ns; rw [k2], fun q hq => ?_⟩
    rcases List.mem_cons.mp hq with z | z
    · refine .inr ⟨by rw [z]; exact List.mem_cons_self, fun w => n1 ?_⟩
      rw [z] at w
      exact List.mem_map.mpr ⟨_, h2, w.symm⟩
    · rcases k3 q z with w | ⟨w, w2⟩
      · exact .inl w
      · exact .inr ⟨List.mem_cons_of_mem _ w, w2⟩
@[simp] noncomputable def placeK : List Key → Key → Option Nat
  | [], _ => none
  | a :: r, k => if a = k then some 0 else (placeK r k).map (· + 1)
section
variable {Z : Ent K} {H : Hp} {σ : L2.St} {Q : VK} {E : Ends}
@[simp] noncomputable def appNF (i j : Nat) (fe : FE) : FS := fun δ => match δ[i]?, δ[j]? with
  | some (some (.oN ks _)), some (some (.fz kd)) => kd.key?.bind fun k => (placeK ks k).bind fun p => (fe δ).bind fun q => (frz q.1 q.2).bind fun r => match r.2[i]? with
    | some (some (.oN ks' xss)) => if ks' = ks then (xss[p]?).bind fun xs => if xs.length < PySem.sizeLine then some (.nx (r.2.set i (some (.oN ks (xss.set p (xs ++ [r.1])))))) else none else none
    | _ => none
  | _, _ => none
end
end DL

namespace DL
open PySem PySem.Spec PyProof.Rows L2
variable {K : PySem.W.Frag}
section
variable {Z : Ent K} {H : Hp} {σ : L2.St} {E : Ends}
@[simp] noncomputable def retZ (fe : FE) : FS := fun δ => (fe δ).bind fun p => (frz p.1 p.2).bind fun q => some (.rt (.fz q.1))
end
section
variable {X : Cx} {Z : Ent X.K} {a b c : Expr} {fa fb fc : FE} {pos : Pos}
end
end DL

namespace L2
open PySem PySem.Spec PyProof.Rows
variable {X : Cx}
noncomputable def rIndexL (K : PySem.W.Frag) : V → List V → Hp → VK → Prop := fun x xs H Q => ∃ p ys y j, x = .ref p ∧ xs = [y] ∧ SqL K H p ys ∧ flatV y = true ∧ ys.all flatV = true ∧ (ys.findIdx? fun z => eqV z y) = some j ∧ Q (.int (j : Nat)) H
noncomputable def rIndexS : V → List V → Hp → VK → Prop := fun x xs H Q => ∃ a b i rest, x = .str a ∧ xs = [.str b] ∧ Builtin.Str.occurrences a b 0 a.length 1 = i :: rest ∧ Q (.int (i : Nat)) H
noncomputable def rRstrip : V → List V → Hp → VK → Prop := fun x xs H Q => ∃ a b, x = .str a ∧ xs = [.str b] ∧ a.length ≤ sizeLine ∧ Q (.str (Txt.rstripChars a b)) H
noncomputable def rSRep : R2 := fun x y H Q => ∃ a k, x = .str a ∧ y = .int k ∧ MulOk a k ∧ Q (.str (Txt.mul a k)) H
theorem op_srep : OpR X (binaryOp .Mult) rSRep := by
  intro pins s σ H x y v u Q I rx ry h
  obtain ⟨a, k, rfl, rfl, hm, q⟩ := h
  obtain ⟨t, rfl⟩ := rx
  obtain ⟨t', rfl⟩ := ry
  exact SB.mul hm fun t' k => ⟨.str _, H, I.tok _, ⟨_, rfl⟩, q⟩
end L2

namespace DL
open PySem PySem.Spec PyProof.Rows L2
variable {K : PySem.W.Frag}
@[simp] noncomputable def D.fv : D → V
  | .bl b => .bl b
  | .int i => .int i
  | .str x => .str x
  | _ => .non
theorem fv_ok {F H : Hp} {d : D} {x : V} (r : RepN K F H d x) (h : d.isFlat = true) : x = d.fv ∧ flatV x = true := by
  cases d with
  | non => rw [r.non]; exact ⟨rfl, rfl⟩
  | bl b => rw [r.bl]; exact ⟨rfl, rfl⟩
  | int i => rw [r.int]; exact ⟨rfl, rfl⟩
  | str y => rw [r.str]; exact ⟨rfl, rfl⟩
  | _ => cases h
theorem fvs_ok {F : Hp} : ∀ {ds : List D} {vs : List V}, Reps K F ds vs → ds.all D.isFlat = true → vs = ds.map D.fv ∧ vs.all flatV = true
  | _, _, .nil, _ => ⟨rfl, rfl⟩
  | _, _, .cons h t, e => by
    rw [List.all_cons, Bool.and_eq_true] at e
    obtain ⟨a1, a2⟩ := fv_ok (H := F) (RepN.of h) e.1
    obtain ⟨b1, b2⟩ := fvs_ok t e.2
    refine ⟨by rw [List.map_cons, ← a1, ← b1], by rw [List.all_cons, a2, b2]; rfl⟩
noncomputable def eqFl (y x : D) : Bool := eqV y.fv x.fv
@[simp] theorem eqFl_str (a b : Str) : eqFl (.str a) (.str b) = decide (a = b) := by
  show (a == b) = decide (a = b)
  by_cases h : a = b
  · subst h; simp
  · rw [decide_eq_false h]; exact beq_eq_false_iff_ne.mpr h
@[simp] theorem eqFl_bl (a b : Bool) : eqFl (.bl a) (.bl b) = decide (a = b) := by cases a <;> cases b <;> rfl
@[simp] theorem eqFl_non : eqFl .non .non = true := rfl
@[simp] theorem eqFl_sn (a : Str) : eqFl (.str a) .non = false := rfl
noncomputable def inFl (x : D) (xs : List D) : Bool := xs.any fun y => eqFl y x
theorem inFl_ok {d : D} {ds : List D} : inV d.fv (ds.map D.fv) = inFl d ds := by
  unfold inV inFl
  rw [List.any_map]; rfl
noncomputable def D.seq? : D → Option (List D)
  | .lst xs => some xs
  | .tup xs => some xs
  | _ => none
@[simp] theorem seq_lst (xs : List D) : D.seq? (.lst xs) = some xs := rfl
@[simp] theorem seq_tup (xs : List D) : D.seq? (.tup xs) = some xs := rfl
@[simp] theorem seq_str (x : Str) : D.seq? (.str x) = none := rfl
@[simp] theorem seq_dK (ks : List Key) (vs : List D) : D.seq? (.dK ks vs) = none := rfl
@[simp] theorem seq_dT (ks : List (List Key)) (vs : List D) : D.seq? (.dT ks vs) = none := rfl
@[simp] noncomputable def inZ (d1 d2 : D) : Option SV := match d2.seq? with
  | some xs => if d1.isFlat = true ∧ xs.all D.isFlat = true then some (.fz (.bl (inFl d1 xs))) else none
  | none => inY d1 d2
@[simp] noncomputable def notinZ (d1 d2 : D) : Option SV := match d2.seq? with
  | some xs => if d1.isFlat = true ∧ xs.all D.isFlat = true then some (.fz (.bl (!inFl d1 xs))) else none
  | none => notinY d1 d2
section
variable {Z : Ent K} {H : Hp} {σ : L2.St} {Q : VK} {E : Ends}
theorem seq_ok {F : Hp} {d : D} {x : V} {xs : List D} (le : Same F H) (r : RepN K F H d x) (h : d.seq? = some xs) : ∃ a vs, x = .ref a ∧ (SqL K H a vs ∨ SqT K H a vs) ∧ Reps K F xs vs := by
  cases d with
  | lst ys => cases h; obtain ⟨a, vs, e, q, rr⟩ := r.lst le; exact ⟨a, vs, e, .inl q, rr⟩
  | tup ys => cases h; obtain ⟨a, vs, e, q, rr⟩ := r.tup le; exact ⟨a, vs, e, .inr q, rr⟩
  | _ => cases h
@[simp] noncomputable def indexD : List D → Option SV
  | [.lst xs, x] => if x.isFlat = true ∧ xs.all D.isFlat = true then (xs.findIdx? fun y => eqFl y x).bind fun j => some (.fz (.int (j : Nat))) else none
  | _ => none
@[simp] noncomputable def sindexD : List D → Option SV
  | [.str a, .str b] => match Builtin.Str.occurrences a b 0 a.length 1 with
    | i :: _ => some (.fz (.int (i : Nat)))
    | [] => none
  | _ => none
@[simp] noncomputable def rstripD : List D → Option SV
  | [.str a, .str b] => if a.length ≤ PySem.sizeLine then some (.fz (.str (Txt.rstripChars a b))) else none
  | _ => none
open Classical in
noncomputable def mulS (a : Str) (k : Int) : Option SV := if MulOk a k then some (.fz (.str (Txt.mul a k))) else none
theorem mulS_of {a : Str} {k : Int} {sv : SV} (h : mulS a k = some sv) : MulOk a k ∧ sv = .fz (.str (Txt.mul a k)) := by
  unfold mulS at h
  split at h
  · rename_i hm; cases h; exact ⟨hm, rfl⟩
  · cases h
noncomputable def CMulP (i j : Int) : Prop := cMul i j = true
open Classical in
noncomputable def mulI (i j : Int) : Option SV := if CMulP i j then some (.fz (.int (i * j))) else none
theorem mulI_of {i j : Int} {sv : SV} (h : mulI i j = some sv) : mulD (.int i) (.int j) = some sv := by
  unfold mulI at h
  split at h
  · rename_i hc
    cases h
    unfold CMulP at hc
    simp [hc]
  · cases h
theorem mulI_r {i j : Int} (h : -(2 ^ 64) < j ∧ j < 2 ^ 64) : mulI i j = some (.fz (.int (i * j))) := by
  unfold mulI
  rw [if_pos]
  unfold CMulP cMul
  rw [decide_eq_true h.1, decide_eq_true h.2]; simp
theorem mulI_l {i j : Int} (h : -(2 ^ 64) < i ∧ i < 2 ^ 64) : mulI i j = some (.fz (.int (i * j))) := by
  unfold mulI
  rw [if_pos]
  unfold CMulP cMul
  rw [decide_eq_true h.1, decide_eq_true h.2]; simp
noncomputable def mulZ : D → D → Option SV
  | .str a, .int k => mulS a k
  | .int i, .int j => mulI i j
  | _, _ => none
@[simp] theorem mulZ_si (a : Str) (k : Int) : mulZ (.str a) (.int k) = mulS a k := rfl
@[simp] theorem mulZ_ii (i j : Int) : mulZ (.int i) (.int j) = mulI i j := rfl
theorem p_mulZ : Prim2 Z (fun x y H Q => rI CMul (fun i j => V.int (i * j)) x y H Q ∨ rSRep x y H Q) mulZ := by
  intro F H σ δ own x y d1 d2 sv Q s r1 r2 e k
  unfold mulZ at e
  split at e
  · obtain ⟨hm, rfl⟩ := mulS_of e
    exact .inr ⟨_, _, r1.str, r2.int, hm, k.fz s (.str _)⟩
  · exact .inl (p_mul F H σ δ own x y _ _ sv Q s r1 r2 (mulI_of e) k)
  · cases e
@[simp] noncomputable def strD : List D → Option SV
  | [.int i] => if i.natAbs.log2 < 1920 then some (.fz (.str (toString i))) else none
  | _ => none
theorem p_strI : PrimN Z (fun xs H Q => ∃ i : Int, xs = [.int i] ∧ i.natAbs.log2 < 1920 ∧ Q (.str (toString i)) H) strD := by
  intro F H σ δ own vs ds sv Q s r e k
  unfold strD at e
  split at e
  · split at e
    · rename_i hm
      cases e
      cases r with
      | cons h1 t => cases t; exact ⟨_, by rw [h1.int], hm, k.fz s (.str _)⟩
    · cases e
  · cases e
@[simp] noncomputable def putLS (kd d : D) : Option (Option SV) → Option SV
  | some (some (.ol xs)) => match kd with
    | .int i => (ixN xs.length i).bind fun j => some (.ol (xs.set j d))
    | _ => none
  | _ => none
@[simp] noncomputable def SV.isOL : Option (Option SV) → Bool
  | some (some (.ol _)) => true
  | _ => false
@[simp] noncomputable def putLF (i : Nat) (fk fv : FE) : FS := fun δ => (fv δ).bind fun p => (frz p.1 p.2).bind fun q => if SV.isOL (q.2[i]?) = true then (fk q.2).bind fun r => (rdv r.1 r.2).bind fun kd => (putLS kd q.1 (r.2[i]?)).bind fun sv => some (.nx (r.2.set i (some sv))) else none
@[simp] noncomputable def SV.ol? : RV → Option (List D)
  | .tmp (.ol ys) => some ys
  | _ => none
@[simp] noncomputable def extF (i : Nat) (fe : FE) : FS := fun δ => match δ[i]? with
  | some (some (.ol _)) => (fe δ).bind fun p => (SV.ol? p.1).bind fun ys => match p.2[i]? with
    | some (some (.ol xs)) => if xs.length + ys.length ≤ PySem.sizeLine then some (.nx (p.2.set i (some (.ol (xs ++ ys))))) else none
    | _ => none
  | _ => none
end
section
variable {X : Cx} {Z : Ent X.K} {a b c : Expr} {fa fb fc : FE} {pos : Pos}
theorem e_mulZ (ha : PE X a (liftE Z fa)) (hb : PE X b (liftE Z fb)) : PE X (.BinOp a .Mult b pos) (liftE Z (binF mulZ fa fb)) := e_bin (op_mul.or op_srep) p_mulZ ha hb
theorem e_strC {p : Pos} (hm : X.mg "str" = none) (ha : PE X a (liftE Z fa)) (hg : Gl X "str" := by rfl) (he : starEach [a] X.env = (false, eval a X.env) :: starEach [] X.env := by rfl) (hpl : (backTo pos (starEach [] X.env)).any (·.1) = false := by rfl) : PE X (.Call (.Name "str" p) [a] [] pos) (liftE Z (primF strD (argCons fa argNil))) :=
  e_callT call_str_int p_strI hm boot_str (a_cons ha a_nil he) hg (by decide) (by decide) he hpl
end
end DL

namespace DL
open PySem PySem.Spec PyProof.Rows L2
theorem kit_bool (K : PySem.W.Frag) : ∀ d : D, d.isExc = false → PySem.W.kitOne K (.type d.pyTy) (.type "bool") = some (d.pyTy == "bool" || ("bool" == "int" && d.pyTy == "bool")) := by intro d h; cases d <;> first | (cases h; done) | with_unfolding_all rfl
end DL

namespace DL
open PySem PySem.Spec PyProof.Rows L2
variable {K : PySem.W.Frag}
section
variable {Z : Ent K} {H : Hp} {σ : L2.St} {Q : Bool → Hp → Prop}
@[simp] noncomputable def keepT (f : FT) : FT := fun δ => (f δ).bind fun p => some (p.1, δ)
end
section
variable {X : Cx} {Z : Ent X.K} {a : Expr} {ft : FT}
end
end DL

namespace DL
open PySem PySem.Spec PyProof.Rows L2
variable {K : PySem.W.Frag}
noncomputable def repP (n : Nat) (k : Int) : Prop := -(2 ^ 63) ≤ k ∧ k < 2 ^ 63 ∧ n * k.toNat ≤ PySem.sizeLine
section
variable {Z : Ent K} {H : Hp} {σ : L2.St} {Q : VK}
open Classical in
noncomputable def repI (xs : List D) : D → Option SV
  | .int k => if repP xs.length k then some (.ol (List.replicate k.toNat xs).flatten) else none
  | _ => none
@[simp] theorem repI_int {xs : List D} {k : Int} (h : repP xs.length k) : repI xs (.int k) = some (.ol (List.replicate k.toNat xs).flatten) := by
  unfold repI; dsimp only; rw [if_pos h]
@[simp] noncomputable def repF (fa fb : FE) : FE := fun δ => (fa δ).bind fun p => (SV.ol? p.1).bind fun xs => (fb p.2).bind fun q => (rdv q.1 q.2).bind fun d => (repI xs d).bind fun sv => some (.tmp sv, q.2)
end
section
variable {X : Cx} {Z : Ent X.K} {a b : Expr} {fa fb : FE} {pos : Pos}
end
end DL

namespace DL
open PySem PySem.Spec PyProof.Rows L2
variable {K : PySem.W.Frag}
section
variable {Z : Ent K}
@[simp] noncomputable def slT : D → Option Int → Option Int → Option SV
  | .tup xs, lo, hi => if ¬ (HT.sIx xs.length 0 lo = 0 ∧ HT.sIx xs.length xs.length hi = xs.length) then some (.fz (.tup (cutD xs lo hi))) else none
  | _, _, _ => none
end
section
variable {X : Cx} {Z : Ent X.K} {a : Expr} {fa : FE} {pos : Pos}
end
end DL

namespace DL
open PySem L2
variable {K : PySem.W.Frag}
inductive RX where
  | v (rv : RV) (δ : DSt) | x (e : Exn) (δ : DSt)
inductive RL (α : Type) where
  | v (xs : List α) (δ : DSt) | x (e : Exn) (δ : DSt)
noncomputable abbrev FX := DSt → Option RX
noncomputable abbrev FAX := DSt → Option (RL RV)
noncomputable abbrev FDX := DSt → Option (RL D)
noncomputable def XOk (Z : Ent K) (F : Hp) (σ : St) (e : Exn) (δ : DSt) : Prop := ∀ H' F' own' cls od, Same F F' → SR Z F' H' σ δ own' → ExcRep K F' e cls od → Z.x cls od σ H'
noncomputable def liftX (Z : Ent K) (f : FX) : TE := fun σ H Q => ∃ F δ own r, SR Z F H σ δ own ∧ f δ = some r ∧ match r with
  | .v rv δ' => ∀ v H' F' own', Same H H' → Same F F' → SR Z F' H' σ δ' own' → RVRep Z F' H' σ own' rv v → Q v H'
  | .x e δ' => XOk Z F σ e δ'
noncomputable def liftAX (Z : Ent K) (f : FAX) : TA := fun σ H Q => ∃ F δ own r, SR Z F H σ δ own ∧ f δ = some r ∧ match r with
  | .v rvs δ' => ∀ vs H' F' own', Same H H' → Same F F' → SR Z F' H' σ δ' own' → RVSs K F' σ rvs vs → Q vs H'
  | .x e δ' => XOk Z F σ e δ'
noncomputable def liftDX (Z : Ent K) (f : FDX) : TA := fun σ H Q => ∃ F δ own r, SR Z F H σ δ own ∧ f δ = some r ∧ match r with
  | .v ds δ' => ∀ vs H' F' own', Same H H' → Same F F' → SR Z F' H' σ δ' own' → Reps K F' ds vs → Q vs H'
  | .x e δ' => XOk Z F σ e δ'
@[simp] noncomputable def FX.val (f : FX) : FE := fun δ => match f δ with
  | some (.v rv δ') => some (rv, δ')
  | _ => none
section
variable {Z : Ent K} {H : Hp} {σ : St} {Q : VK} {E : Ends}
@[simp] noncomputable def pureX (fe : FE) : FX := fun δ => (fe δ).bind fun p => some (.v p.1 p.2)
@[simp] noncomputable def argNilX : FAX := fun δ => some (.v [] δ)
@[simp] noncomputable def argConsX (fx : FX) (fa : FAX) : FAX := fun δ => (fx δ).bind fun
  | .v rv δ1 => (fa δ1).bind fun
    | .v rvs δ2 => some (.v (rv :: rvs) δ2)
    | .x e δ2 => some (.x e δ2)
  | .x e δ1 => some (.x e δ1)
@[simp] noncomputable def dispNilX : FDX := fun δ => some (.v [] δ)
@[simp] noncomputable def dispConsX (fx : FX) (fd : FDX) : FDX := fun δ => (fx δ).bind fun
  | .v rv δ1 => (frz rv δ1).bind fun q => (fd q.2).bind fun
    | .v ds δ2 => some (.v (q.1 :: ds) δ2)
    | .x e δ2 => some (.x e δ2)
  | .x e δ1 => some (.x e δ1)
@[simp] noncomputable def tupX (fd : FDX) : FX := fun δ => (fd δ).bind fun
  | .v ds δ1 => if ds.length ≤ PySem.sizeLine then some (.v (.tmp (.fz (.tup ds))) δ1) else none
  | .x e δ1 => some (.x e δ1)
@[simp] noncomputable def primX (g : List D → Option SV) (fa : FAX) : FX := fun δ => (fa δ).bind fun
  | .v rvs δ1 => (readAll rvs δ1).bind fun ds => (g ds).bind fun sv => some (.v (.tmp sv) δ1)
  | .x e δ1 => some (.x e δ1)
@[simp] noncomputable def binX (g : D → D → Option SV) (fa fb : FX) : FX := fun δ => (fa δ).bind fun
  | .x e δ1 => some (.x e δ1)
  | .v r1 δ1 => (fb δ1).bind fun
    | .x e δ2 => some (.x e δ2)
    | .v r2 δ2 => (rdv r1 δ2).bind fun d1 => (rdv r2 δ2).bind fun d2 => (g d1 d2).bind fun sv => some (.v (.tmp sv) δ2)
end
inductive XO where
  | v (sv : SV) | x (e : Exn)
noncomputable def spX (K : PySem.W.Frag) (n : Nat) (g : List D → Option XO) : Sp := fun vs H Q E => ∃ F ds o, Same F H ∧ Reps K F ds vs ∧ ds.length = n ∧ g ds = some o ∧ match o with
  | .v sv => ∀ v H' F' ns, Same H H' → Same F F' → Same F' H' → (∀ (b : Addr) (o : HO), F' b = some o → F b = some o ∨ H b = none) → Shape K F' sv v ns → (adr ns).Nodup → (∀ p ∈ ns, F' p.1 = none ∧ H p.1 = none ∧ H' p.1 = some p.2) → Q v H'
  | .x e => ∀ cls od H' F', Same H H' → Same F F' → Same F' H' → (∀ (b : Addr) (o : HO), F' b = some o → F b = some o ∨ H b = none) → ExcRep K F' e cls od → E cls od H'
@[simp] noncomputable def outX (f : FS) (n : Nat) (ds : List D) : Option XO := match f (startD n ds) with
  | some (.rt sv) => some (.v sv)
  | some (.nx _) => some (.v (.fz .non))
  | some (.ex e _) => some (.x e)
  | _ => none
@[simp] noncomputable def valG (h : List D → Option XO) (ds : List D) : Option SV := match h ds with
  | some (.v sv) => some sv
  | _ => none
noncomputable abbrev entX (H F : Hp) (E : XK) : Ent K := ⟨H, F, fun cls od _ H' => E cls od H'⟩
section
variable {Z : Ent K} {H : Hp} {σ : St} {Q : VK} {E : Ends}
@[simp] noncomputable def callX (n : Nat) (g : List D → Option XO) (fa : FAX) : FX := fun δ => (fa δ).bind fun
  | .x e δ1 => some (.x e δ1)
  | .v rvs δ1 => (DL.frzAll rvs δ1).bind fun q => if q.1.length = n then (g q.1).bind (fun
    | .v sv => some (.v (.tmp sv) (if sv.scal then δ1 else q.2))
    | .x e => some (.x e q.2)) else none
@[simp] noncomputable def liftG' (g : List D → Option SV) (ds : List D) : Option XO := (g ds).bind fun sv => some (.v sv)
@[simp] noncomputable def setX (i : Nat) (fx : FX) : FS := fun δ => (fx δ).bind fun
  | .v rv δ1 => (stow i rv δ1).bind fun δ' => some (.nx δ')
  | .x e δ1 => some (.ex e δ1)
@[simp] noncomputable def retX (fx : FX) : FS := fun δ => (fx δ).bind fun
  | .v rv δ1 => (outF rv δ1).bind fun sv => some (.rt sv)
  | .x e δ1 => some (.ex e δ1)
@[simp] noncomputable def dropX (fx : FX) : FS := fun δ => (fx δ).bind fun
  | .v _ δ1 => some (.nx δ1)
  | .x e δ1 => some (.ex e δ1)
@[simp] noncomputable def appX (i : Nat) (fx : FX) : FS := fun δ => match fx δ with
  | some (.x e δ1) => (match δ[i]? with
    | some (some (.ol _)) => some (.ex e δ1)
    | _ => none)
  | _ => appF i fx.val δ
@[simp] noncomputable def extX (i : Nat) (fx : FX) : FS := fun δ => match fx δ with
  | some (.x e δ1) => (match δ[i]? with
    | some (some (.ol _)) => some (.ex e δ1)
    | _ => none)
  | _ => extF i fx.val δ
@[simp] noncomputable def raiseF (c : Str) : FS := fun δ => some (.ex ⟨c, [], []⟩ δ)
structure HX where
  x : Str
  np : Pos
  nm : Option (Str × Nat)
  b0 : Stmt
  suite : List Stmt
  pos : Pos
  B : Addr
  yes : List Str
  no : List Str
  f : FS
structure HX.Sub (K : PySem.W.Frag) (h : HX) : Prop where
  yes : ∀ c ∈ h.yes, ∀ C, ClsIs K c C → PySem.W.mroIn K C (.ref h.B) = some true
  no : ∀ c ∈ h.no, ∀ C, ClsIs K c C → PySem.W.mroIn K C (.ref h.B) = some false
noncomputable def HX.hd (Z : Ent K) (h : HX) : Hd := ⟨h.x, h.np, h.nm, h.b0, h.suite, h.pos, h.B, liftS Z h.f⟩
structure HF where
  i : Option Nat
  yes : List Str
  no : List Str
  f : FS
@[simp] noncomputable def HX.hf (h : HX) : HF := ⟨h.nm.map (·.2), h.yes, h.no, h.f⟩
@[simp] noncomputable def pickF (c : Str) : List HF → Option HF
  | [] => none
  | h :: r => if c ∈ h.yes then some h else if c ∈ h.no then pickF c r else none
@[simp] noncomputable def Fl.but (i : Nat) : Fl → Fl
  | .nx δ => .nx (δ.set i none)
  | .bk δ => .bk (δ.set i none)
  | .ct δ => .ct (δ.set i none)
  | .ex e δ => .ex e (δ.set i none)
  | .rt sv => .rt sv
@[simp] noncomputable def Fl.isEx : Fl → Bool
  | .ex _ _ => true
  | _ => false
@[simp] noncomputable def HF.run (h : HF) (x : Exn) (δ : DSt) : Option Fl := match h.i with
  | none => h.f δ
  | some i => if i < δ.length then (h.f (δ.set i (some (.fz (.exc x.c x.ks x.vs))))).bind fun fl => if fl.isEx = true then none else some (fl.but i) else none
@[simp] noncomputable def tryF (fb : FS) (hs : List HF) : FS := fun δ => (fb δ).bind fun
  | .ex x δ1 => (pickF x.c hs).bind fun h => h.run x δ1
  | fl => some fl
noncomputable abbrev Ent.wish (Z : Ent K) (EX : EXT) : Ent K := ⟨Z.h, Z.f, EX⟩
end
end DL

namespace DL
open PySem PySem.Spec PyProof.Rows L2
section
variable {X : Cx} {Z : Ent X.K} {a b c : Expr} {fa fb : FE} {fx fy : FX} {pos : Pos}
@[simp] noncomputable def isxD (yes no : List Str) : D → Option SV
  | .exc c _ _ => if c ∈ yes then some (.fz (.bl true)) else if c ∈ no then some (.fz (.bl false)) else none
  | _ => none
noncomputable def Kn (K : PySem.W.Frag) (r : Addr → Bool → Prop) (yes no : List Str) : Prop := (∀ c ∈ yes, ∀ C, ClsIs K c C → ExcKit K C ∧ r C true) ∧ ∀ c ∈ no, ∀ C, ClsIs K c C → ExcKit K C ∧ r C false
noncomputable def namesT (Bs : List Addr) : TA := fun _ H R => R (Bs.map V.ref) H
end
end DL

namespace DL
open PySem PySem.Spec PyProof.Rows L2
section
variable {X : Cx} {pins : List (Addr × Obj)} {σ : L2.St} {H : Hp} {s : Shared}
noncomputable def tDispN (trs : List (TE × TE)) : TE := fun σ H Q => tPairs trs σ H fun ps H2 => ∃ kvs : List (Key × V), ps = kvs.map (fun kv => (kV kv.1, kv.2)) ∧ kvs.length ≤ 15 ∧ ∀ p ep, H2 p = none → Q (.ref p) (upd H2 p (.dK (mergeK [] kvs) ep))
end
section
variable {K : PySem.W.Frag} {Z : Ent K} {σ : L2.St} {H : Hp} {Q : VK}
noncomputable def tPD (Z : Ent K) (l : List (Str × FE)) : List (TE × TE) := l.map fun p => (tC (.str p.1), liftE Z p.2)
@[simp] noncomputable def pairsF : List (Str × FE) → FD
  | [] => dispNil
  | p :: r => dispCons p.2 (pairsF r)
@[simp] noncomputable def dispNF (l : List (Str × FE)) : FE := fun δ => (pairsF l δ).bind fun p => if p.1.length = l.length then some (.tmp (.oK (l.map fun q => .inr q.1) p.1), p.2) else none
@[simp] noncomputable def minD : List D → Option SV
  | [.int i, .int j] => some (.fz (.int (if j < i then j else i)))
  | _ => none
end
section
variable {X : Cx} {Z : Ent X.K} {a b c : Expr} {fa fb fc : FE} {pos : Pos}
end
end DL

namespace DL
open PySem PySem.Spec PyProof.Rows L2
@[simp] noncomputable def textsF (ss : List Str) (fd : FD) : FD := fun δ => (fd δ).bind fun p => some (ss.map D.str ++ p.1, p.2)
section
variable {X : Cx} {Z : Ent X.K} {pos : Pos}
noncomputable abbrev cst (x : Str × Nat × Pos) : Expr := .Constant (.str x.1) x.2.1 x.2.2
end
end DL

namespace DL
open PySem PySem.Spec PyProof.Rows L2
section
variable {K : PySem.W.Frag}
inductive RC where
  | v (δ : DSt) | x (e : Exn)
noncomputable def xX (K : PySem.W.Frag) (f : FX) (EX : EXT) : TE := fun σ H Q => ∃ Z : Ent K, Z.x = EX ∧ liftX Z f σ H Q
@[simp] noncomputable def compXD (src : List BSrc) (k : Nat) (g : FG) (tt : FT) (te : FX) : List D → DSt → Option RC
  | [], δ => some (.v δ)
  | d :: ds, δ => (g.run d δ).bind fun δ1 => (tt δ1).bind fun p => if p.1 = true then (te p.2).bind (fun
    | .x e _ => some (.x e)
    | .v rv δ2 => (frz rv δ2).bind fun r => match r.2[k]? with
      | some (some (.ol zs)) => if zs.length < PySem.sizeLine then compXD src k g tt te ds (reset src (r.2.set k (some (.ol (zs ++ [r.1]))))) else none
      | _ => none)
    else compXD src k g tt te ds (reset src p.2)
@[simp] noncomputable def compX (src : List BSrc) (k : Nat) (fi : FD) (g : FG) (tt : FT) (te : FX) : FX := fun δ => (fi δ).bind fun p => (frzAll (caps src) p.2).bind fun c => (compXD src k g tt te p.1 (bD src c.2)).bind fun
  | .x e => some (.x e c.2)
  | .v δb => match δb[k]? with
    | some (some (.ol ys)) => some (.v (.tmp (.ol ys)) c.2)
    | _ => none
end
section
variable {X : Cx} {Z : Ent X.K} {pos : Pos}
end
end DL

namespace L2
open PySem PySem.Spec PyProof.Rows
noncomputable def pickL {α : Type} (xs : List α) (lo hi st : Option Int) : List α :=
  (sliceRange (sliceBounds lo hi st xs.length).1 (sliceBounds lo hi st xs.length).2.1 (sliceBounds lo hi st xs.length).2.2).filterMap (xs[·]?)
section
variable {X : Cx} {e st : Expr} {te : TE} {lo hi : Option Expr} {tl th ts : TO} {pos p2 : Pos}
noncomputable def SlR3 (X : Cx) (r : V → Option Int → Option Int → Option Int → Hp → VK → Prop) : Prop :=
  ∀ (pins : List (Addr × Obj)) (s : Shared) (σ : St) (H : Hp) (x : V) (v vl vu vs : Value) (lo hi st : Option Int) (sl : Addr) (Q : VK), Inv X pins σ H s → RelV x v → s.heap.IsSliceOf sl vl vu vs → IsPart vl lo → IsPart vu hi → IsPart vs st → r x lo hi st H Q →
    ∃ T id, typeLookup (.type T) "__getitem__" = pure (some (.builtin id)) ∧ s.TypeIs v T ∧ wpAny (model X.prog X.w) X.A (getItem v (.ref sl)) (EP X pins σ Q) X.xe s
noncomputable def tSl3 (r : V → Option Int → Option Int → Option Int → Hp → VK → Prop) (te : TE) (tl th ts : TO) : TE := fun σ H Q => te σ H fun x H1 => tl σ H1 fun l H2 => th σ H2 fun u H3 => ts σ H3 fun w H4 => r x l u w H4 Q
noncomputable def rSl3 (K : PySem.W.Frag) : V → Option Int → Option Int → Option Int → Hp → VK → Prop := fun x lo hi st H Q => ∃ a xs, x = .ref a ∧ SqL K H a xs ∧ st ≠ some 0 ∧ ∀ p, H p = none → Q (.ref p) (upd H p (.lst (pickL xs lo hi st)))
end
end L2
namespace DL
open PySem PySem.Spec PyProof.Rows L2
@[simp] noncomputable def slF3 (g : D → Option Int → Option Int → Option Int → Option SV) (fe : FE) (fl fh fs : FO) : FE := fun δ => (fe δ).bind fun p => (fl p.2).bind fun l => (fh l.2).bind fun h => (fs h.2).bind fun w => (rdv p.1 w.2).bind fun d => (g d l.1 h.1 w.1).bind fun sv => some (.tmp sv, w.2)
section
variable {K : PySem.W.Frag} {Z : Ent K} {H : Hp} {σ : L2.St} {Q : VK}
noncomputable def PrimS3 (Z : Ent K) (r : V → Option Int → Option Int → Option Int → Hp → VK → Prop) (g : D → Option Int → Option Int → Option Int → Option SV) : Prop :=
  ∀ (F H : Hp) (σ : L2.St) (δ : DSt) (own : Nat → Nodes) (x : V) (d : D) (lo hi st : Option Int) (sv : SV) (Q : VK), SR Z F H σ δ own → RepN K F H d x → g d lo hi st = some sv → Fin Z F H σ δ own sv Q → r x lo hi st H Q
@[simp] noncomputable def slD3 : D → Option Int → Option Int → Option Int → Option SV
  | .lst xs, lo, hi, st => if st ≠ some 0 then some (.ol (pickL xs lo hi st)) else none
  | _, _, _, _ => none
end
end DL

namespace DL
section
variable {α : Type} {P : List α → Prop}
@[elab_as_elim] theorem of0 (h : P []) (us : List α) (hl : us.length = 0) : P us := by
  have : us = [] := List.eq_nil_of_length_eq_zero hl
  rw [this]; exact h
@[elab_as_elim] theorem of1 (h : ∀ a, P [a]) (us : List α) (hl : us.length = 1) : P us := by
  obtain ⟨a, e⟩ := List.length_eq_one_iff.mp hl
  rw [e]; exact h a
theorem ofC {n : Nat} (h : ∀ a (us : List α), us.length = n → P (a :: us)) (us : List α) (hl : us.length = n + 1) : P us := by
  cases us with
  | nil => exact absurd hl (by simp)
  | cons a r => exact h a r (by simpa using hl)
@[elab_as_elim] theorem of2 (h : ∀ a b, P [a, b]) (us : List α) (hl : us.length = 2) : P us := ofC (fun a => of1 (P := fun us => P (a :: us)) (h a)) us hl
@[elab_as_elim] theorem of3 (h : ∀ a b c, P [a, b, c]) (us : List α) (hl : us.length = 3) : P us := ofC (fun a => of2 (P := fun us => P (a :: us)) (h a)) us hl
@[elab_as_elim] theorem of4 (h : ∀ a b c d, P [a, b, c, d]) (us : List α) (hl : us.length = 4) : P us := ofC (fun a => of3 (P := fun us => P (a :: us)) (h a)) us hl
@[elab_as_elim] theorem of5 (h : ∀ a b c d e, P [a, b, c, d, e]) (us : List α) (hl : us.length = 5) : P us := ofC (fun a => of4 (P := fun us => P (a :: us)) (h a)) us hl
@[elab_as_elim] theorem of6 (h : ∀ a b c d e f, P [a, b, c, d, e, f]) (us : List α) (hl : us.length = 6) : P us := ofC (fun a => of5 (P := fun us => P (a :: us)) (h a)) us hl
end
end DL

namespace L2
open PySem PySem.Spec PyProof.Rows
section
variable {prog : Program} {w : World} {A : Around} {E : Value → Shared → Prop} {s : Shared} {q d : Addr} {i n ep : Nat} {od : Obj} {es : Array DictEntry}
end
noncomputable def Itk (a : Addr) (n ep : Nat) : It :=
  ⟨fun i H => ∃ kvs, H a = some (.dK kvs ep) ∧ kvs.length = n ∧ i < n, fun i H x H' => H' = H ∧ ∃ kvs kv, H a = some (.dK kvs ep) ∧ kvs[i]? = some kv ∧ x = kV kv.1, fun i H => ∃ kvs, H a = some (.dK kvs ep) ∧ kvs.length = n ∧ n ≤ i⟩
noncomputable def Itd (a : Addr) (n ep : Nat) : It :=
  ⟨fun i H => ∃ kvs bs, H a = some (.dT kvs ep bs) ∧ kvs.length = n ∧ i < n, fun i H x H' => H' = H ∧ ∃ kvs bs b, H a = some (.dT kvs ep bs) ∧ bs[i]? = some b ∧ x = .ref b, fun i H => ∃ kvs bs, H a = some (.dT kvs ep bs) ∧ kvs.length = n ∧ n ≤ i⟩
section
variable {X : Cx} {tg : Expr}
noncomputable def iDic (tl : TE) : TI := fun σ H R => tl σ H fun x H1 => (∃ a kvs ep, x = .ref a ∧ H1 a = some (.dK kvs ep) ∧ R (Itk a kvs.length ep) H1) ∨ (∃ a kvs ep bs, x = .ref a ∧ H1 a = some (.dT kvs ep bs) ∧ R (Itd a kvs.length ep) H1)
end
end L2
namespace DL
open PySem PySem.Spec PyProof.Rows L2
variable {K : PySem.W.Frag}
@[simp] noncomputable def keyD : Key → D
  | .inl i => .int i
  | .inr x => .str x
section
variable {Z : Ent K} {H : Hp} {σ : L2.St}
@[simp] noncomputable def dicI (fe : FE) : FD := fun δ => (fe δ).bind fun p => (frz p.1 p.2).bind fun q => match q.1 with
  | .dK ks _ => some (ks.map keyD, q.2)
  | .dT ks _ => some (ks.map fun k => D.tup (k.map keyD), q.2)
  | _ => none
end
end DL

namespace DL
open PySem PySem.Spec PyProof.Rows L2
variable {K : PySem.W.Frag}
@[simp] noncomputable def inW (d1 d2 : D) : Option SV := match d2.seq? with
  | some xs => if d1.isFlat = true ∧ xs.all D.isFlat = true then some (.fz (.bl (inFl d1 xs))) else none
  | none => inD d1 d2
@[simp] noncomputable def notinW (d1 d2 : D) : Option SV := match d2.seq? with
  | some xs => if d1.isFlat = true ∧ xs.all D.isFlat = true then some (.fz (.bl (!inFl d1 xs))) else none
  | none => notinD d1 d2
section
variable {Z : Ent K}
theorem p_inW : Prim2 Z (fun x y H Q => (∃ i j, x = .str i ∧ y = .str j ∧ Q (.bl (!(Builtin.Str.occurrences j i 0 j.length 1).isEmpty)) H) ∨ rIn K false x y H Q) inW := by
  intro F H σ δ own x y d1 d2 sv Q s r1 r2 e k
  unfold inW at e
  split at e
  · rename_i xs hx
    split at e
    · rename_i hf
      cases e
      obtain ⟨a, vs, rfl, hq, rr⟩ := seq_ok s.le r2 hx
      obtain ⟨e1, f1⟩ := fv_ok r1 hf.1
      obtain ⟨e2, f2⟩ := fvs_ok rr hf.2
      refine .inr ⟨a, vs, rfl, hq, f1, f2, ?_⟩
      rw [e1, e2, inFl_ok]
      exact k.fz s (.bl _)
    · cases e
  · exact .inl (p_in F H σ δ own x y d1 d2 sv Q s r1 r2 e k)
theorem p_notinW : Prim2 Z (fun x y H Q => (∃ i j, x = .str i ∧ y = .str j ∧ Q (.bl (!(!(Builtin.Str.occurrences j i 0 j.length 1).isEmpty))) H) ∨ rIn K true x y H Q) notinW := by
  intro F H σ δ own x y d1 d2 sv Q s r1 r2 e k
  unfold notinW at e
  split at e
  · rename_i xs hx
    split at e
    · rename_i hf
      cases e
      obtain ⟨a, vs, rfl, hq, rr⟩ := seq_ok s.le r2 hx
      obtain ⟨e1, f1⟩ := fv_ok r1 hf.1
      obtain ⟨e2, f2⟩ := fvs_ok rr hf.2
      refine .inr ⟨a, vs, rfl, hq, f1, f2, ?_⟩
      rw [e1, e2, inFl_ok]
      exact k.fz s (.bl _)
    · cases e
  · exact .inl (p_notin F H σ δ own x y d1 d2 sv Q s r1 r2 e k)
end
section
variable {X : Cx} {Z : Ent X.K} {a b : Expr} {fa fb : FE} {pos : Pos}
theorem e_inW (hu : X.A.units + 1 < cLine) (ha : PE X a (liftE Z fa)) (hb : PE X b (liftE Z fb)) (hm : behindInMarks .In b = false := by rfl) : PE X (.Compare a [.In] [b] pos) (liftE Z (binF inW fa fb)) := e_cmp (op_in_str.or op_in_seq) p_inW ha hb hm
theorem e_notinW (hu : X.A.units + 1 < cLine) (ha : PE X a (liftE Z fa)) (hb : PE X b (liftE Z fb)) (hm : behindInMarks .NotIn b = false := by rfl) : PE X (.Compare a [.NotIn] [b] pos) (liftE Z (binF notinW fa fb)) := e_cmp (op_notIn_str.or op_notIn_seq) p_notinW ha hb hm
theorem t_inW (hu : X.A.units + 1 < cLine) (ha : PE X a (liftE Z fa)) (hb : PE X b (liftE Z fb)) (hm : behindInMarks .In b = false := by rfl) : PT X (.Compare a [.In] [b] pos) (liftT Z (testF (binF inW fa fb))) := t_cmp (op_in_str.or op_in_seq) p_inW ha hb hm
end
end DL

namespace L2
open PySem PySem.Spec PyProof.Rows
section
variable {prog : Program} {w : World} {A : Around} {E : Value → Shared → Prop} {s : Shared} {a b : Addr} {xs ys : List (List Key × Addr × Value)}
end
section
variable {X : Cx}
noncomputable def rEqT : R2 := fun x y H Q => ∃ a b kvs, x = .ref a ∧ y = .ref b ∧ HTt H a kvs ∧ HTt H b kvs ∧ (∀ p ∈ kvs, flatV p.2 = true) ∧ Q (.bl true) H
end
end L2
namespace DL
open PySem PySem.Spec PyProof.Rows L2
variable {K : PySem.W.Frag}
noncomputable def sameT (ks ks' : List (List Key)) (vs vs' : List D) : Bool := @decide (ks = ks' ∧ vs = vs' ∧ vs.all D.isFlat = true) (Classical.propDecidable _)
@[simp] noncomputable def eqTD (d1 d2 : D) : Option SV := match d1, d2 with
  | .dT ks vs, .dT ks' vs' => if sameT ks ks' vs vs' = true then some (.fz (.bl true)) else none
  | _, _ => none
section
variable {Z : Ent K}
end
section
variable {X : Cx} {Z : Ent X.K} {a b : Expr} {fa fb : FE} {pos : Pos}
end
end DL

namespace DL
open PySem PySem.Spec PyProof.Rows L2
theorem fnOk_none {P : Program} {w : World} {K : PySem.W.Frag} {mg : Str → Option Value} {base : Heap} {CX : CXT} {k n : Nat} {f : Addr} {fd : FuncData} {ps : List Str} : FnOk P w K mg base CX k f fd ps (spOf K n fun _ => none) := by
  refine ⟨fun vs H Q E h => ?_, fun A outer s H args us vs Q E hr he hb hv h => ?_⟩
  · obtain ⟨F, ds, sv, _, _, _, e, _⟩ := h; cases e
  · obtain ⟨F, ds, sv, _, _, _, e, _⟩ := h; cases e
end DL

namespace DL
open PySem PySem.Spec PyProof.Rows L2
variable {K : PySem.W.Frag}
theorem noPin {a : Addr} : ∀ b, (none : Option Addr) = some b → b = a := fun _ h => nomatch h
theorem shape_oP {F : Hp} {pin : Option Addr} {xss : List (List D)} {v : V} {ns : Nodes} (h : Shape K F (.oL pin xss) v ns) : ∃ a ws ns', v = .ref a ∧ ns = (a, .lst ws) :: ns' ∧ Kids K F xss ws ns' ∧ ∀ b, pin = some b → b = a := by
  cases h with
  | oL hp r => exact ⟨_, _, _, rfl, rfl, r, hp⟩
@[simp] noncomputable def compLD (src : List BSrc) (k : Nat) (g : FG) (tt : FT) (te : FE) : List D → DSt → Option DSt
  | [], δ => some δ
  | d :: ds, δ => (g.run d δ).bind fun δ1 => (tt δ1).bind fun p => if p.1 = true then (te p.2).bind fun q => match q.1, q.2[k]? with
      | .tmp (.ol xs), some (some (.oL none zs)) => if zs.length < PySem.sizeLine then compLD src k g tt te ds (reset src (q.2.set k (some (.oL none (zs ++ [xs]))))) else none
      | _, _ => none
    else compLD src k g tt te ds (reset src p.2)
@[simp] noncomputable def compLF (src : List BSrc) (k : Nat) (fi : FD) (g : FG) (tt : FT) (te : FE) : FE := fun δ => (fi δ).bind fun p => (frzAll (caps src) p.2).bind fun c => (compLD src k g tt te p.1 ((bD src c.2).set k (some (.oL none [])))).bind fun δb => match δb[k]? with
  | some (some (.oL none ys)) => some (.tmp (.oL none ys), c.2)
  | _ => none
theorem Kids.take {F : Hp} : ∀ {xss : List (List D)} {ws : List V} {ns : Nodes} (n : Nat), Kids K F xss ws ns → Kids K F (xss.take n) (ws.take n) (ns.take n)
  | _, _, _, 0, _ => .nil
  | _, _, _, _ + 1, .nil => .nil
  | _, _, _, n + 1, .cons r t => .cons r (t.take n)
section
variable {Z : Ent K} {H : Hp} {σ : L2.St} {Q : VK} {E : Ends}
noncomputable def insLF (i p q : Nat) : FE := fun δ => match δ[i]?, δ[p]?, δ[q]? with
  | some (some (.oL none xss)), some (some (.fz (.int n))), some (some (.fz (.lst xs))) => if 0 ≤ n ∧ n.toNat ≤ xss.length ∧ xss.length + 1 ≤ PySem.sizeLine then some (.tmp (.oL none (xss.take n.toNat ++ [xs] ++ xss.drop n.toNat)), δ.set i none) else none
  | _, _, _ => none
@[simp] theorem insLF_ap {i p q : Nat} {δ : DSt} {xss : List (List D)} {n : Nat} {xs : List D} (hi : δ[i]? = some (some (.oL none xss))) (hp : δ[p]? = some (some (.fz (.int (n : Nat))))) (hq : δ[q]? = some (some (.fz (.lst xs)))) (hn : n ≤ xss.length) (hz : xss.length + 1 ≤ PySem.sizeLine) :
    insLF i p q δ = some (.tmp (.oL none (xss.take n ++ [xs] ++ xss.drop n)), δ.set i none) := by
  unfold insLF
  rw [hi, hp, hq]
  dsimp only
  rw [if_pos ⟨by omega, by omega, hz⟩, Int.toNat_natCast]
noncomputable abbrev rLst (K : PySem.W.Frag) : List V → Hp → VK → Prop := fun xs H Q => ∃ p ys, xs = [V.ref p] ∧ (SqL K H p ys ∨ SqT K H p ys) ∧ ∀ l, H l = none → Q (.ref l) (upd H l (.lst ys))
@[simp] noncomputable def apT (c : Str) (n : Nat) (xss : List (List D)) : List (List D) := (xss.take n).map (· ++ [.str c]) ++ xss.drop n
noncomputable def forAppF (i j : Nat) (c : Str) : FS := fun δ => match δ[i]? with
  | some (some (.oL none xss)) => if i ≠ j ∧ j < δ.length ∧ (∀ xs ∈ xss, xs.length < PySem.sizeLine) then some (.nx ((δ.set j none).set i (some (.oL none (xss.map (· ++ [.str c])))))) else none
  | _ => none
@[simp] theorem forAppF_ap {i j : Nat} {c : Str} {δ : DSt} {xss : List (List D)} (hi : δ[i]? = some (some (.oL none xss))) (hij : i ≠ j) (hj : j < δ.length) (hz : ∀ xs ∈ xss, xs.length < PySem.sizeLine) : forAppF i j c δ = some (.nx ((δ.set j none).set i (some (.oL none (xss.map (· ++ [.str c])))))) := by
  unfold forAppF
  rw [hi]
  dsimp only
  rw [if_pos ⟨hij, hj, hz⟩]
noncomputable def clearLF (i : Nat) : FS := fun δ => match δ[i]? with
  | some (some (.oL none _)) => some (.nx (δ.set i (some (.ol []))))
  | _ => none
@[simp] theorem clearLF_ap {i : Nat} {δ : DSt} {xss : List (List D)} (hi : δ[i]? = some (some (.oL none xss))) : clearLF i δ = some (.nx (δ.set i (some (.ol [])))) := by unfold clearLF; rw [hi]
end
end DL
namespace DL
open PySem PySem.Spec PyProof.Rows L2
section
variable {X : Cx} {Z : Ent X.K} {a b c : Expr} {fa fb fc : FE} {pos : Pos}
theorem v_var (i : Nat) {x : Str} {pos : Pos} (hN : X.N[i]? = some x := by rfl) (hv : Vis X.env.scope x := by first | exact Or.inl rfl | exact Or.inr (Or.inl rfl) | exact Or.inr (Or.inr rfl)) (hd : (x == ("__debug__" : Str)) = false := by decide)
    (hcd : (x == ("__classdict__" : Str)) = false := by decide) : PE X (.Name x pos) (tVar i) := pe_var hN hv hd hcd
end
end DL

namespace DL
open PySem PySem.Spec PyProof.Rows L2
variable {K : PySem.W.Frag}
noncomputable def spInitL (K : PySem.W.Frag) (C : Addr) (f : Str) : Sp := fun vs H Q _ => ∃ e p ys, vs = [.ref e, .ref p] ∧ H e = some (.ext (excNew e C none)) ∧ (SqL K H p ys ∨ SqT K H p ys) ∧
  ∀ l, H l = none → ∀ dx, upd H l (.lst ys) dx = none → Q .non (upd (upd (upd H l (.lst ys)) dx (.xd [(f, .ref l)])) e (.ext (excNew e C (some dx))))
noncomputable def spInitP (C : Addr) (f : Str) : Sp := fun vs H Q _ => ∃ e v, vs = [.ref e, v] ∧ H e = some (.ext (excNew e C none)) ∧
  ∀ dx, H dx = none → Q .non (upd (upd H dx (.xd [(f, v)])) e (.ext (excNew e C (some dx))))
section
variable {Z : Ent K} {H : Hp} {σ : L2.St} {E : Ends} {Q : VK}
@[simp] noncomputable def raiseL (c f : Str) (fe : FE) : FS := fun δ => (fe δ).bind fun p => (frz p.1 p.2).bind fun q => match q.1 with
  | .lst ds => some (.ex ⟨c, [f], [.lst ds]⟩ q.2)
  | _ => none
@[simp] noncomputable def raiseP (c f : Str) (fe : FE) : FS := fun δ => (fe δ).bind fun p => (frz p.1 p.2).bind fun q => some (.ex ⟨c, [f], [q.1]⟩ q.2)
@[simp] noncomputable def attrD (cs : List Str) (f : Str) : D → Option SV
  | .exc c ks vs => if c ∈ cs then ((ks.zip vs).lookup f).bind fun d => some (.fz d) else none
  | _ => none
end
section
variable {X : Cx} {Z : Ent X.K} {a b c : Expr} {fa fb fc : FE} {pos : Pos}
end
end DL

namespace DL
open PySem PySem.Spec PyProof.Rows L2
variable {K : PySem.W.Frag}
noncomputable abbrev TupsAt (H : Hp) (bs : List Addr) (xss : List (List Str)) : Prop := Paired (fun (b : Addr) (xs : List Str) => H b = some (.tup (xs.map V.str))) bs xss
open Classical in
noncomputable def eqT (H : Hp) (ss : List Str) : Value → Bool := fun w => decide (∃ b, w = .ref b ∧ H b = some (.tup (ss.map V.str)))
section
variable {X : Cx} {pins : List (Addr × Obj)} {σ : L2.St} {H : Hp} {s : Shared}
noncomputable def rInP (K : PySem.W.Frag) (neg : Bool) : R2 := fun x y H Q => ∃ b ss a bs xss, x = .ref b ∧ H b = some (.tup (ss.map V.str)) ∧ y = .ref a ∧ SqL K H a (bs.map V.ref) ∧ TupsAt H bs xss ∧ Q (.bl (if neg then !(xss.any fun xs => decide (xs = ss)) else xss.any fun xs => decide (xs = ss))) H
noncomputable def rIndexP (K : PySem.W.Frag) : V → List V → Hp → VK → Prop := fun x xs H Q => ∃ b ss a bs xss j, xs = [.ref b] ∧ H b = some (.tup (ss.map V.str)) ∧ x = .ref a ∧ SqL K H a (bs.map V.ref) ∧ TupsAt H bs xss ∧ (xss.findIdx? fun xs => decide (xs = ss)) = some j ∧ Q (.int (j : Nat)) H
end
@[simp] noncomputable def tl? : List D → Option (List (List Str))
  | [] => some []
  | .tup ds :: r => (strs? ds).bind fun x => (tl? r).bind fun t => some (x :: t)
  | _ => none
@[simp] noncomputable def inP : D → D → Option SV
  | .tup a, .lst xs => (strs? a).bind fun ss => (tl? xs).bind fun xss => some (.fz (.bl (xss.any fun x => decide (x = ss))))
  | _, _ => none
@[simp] noncomputable def notinP : D → D → Option SV
  | .tup a, .lst xs => (strs? a).bind fun ss => (tl? xs).bind fun xss => some (.fz (.bl (!(xss.any fun x => decide (x = ss)))))
  | _, _ => none
@[simp] noncomputable def indexP : List D → Option SV
  | [.lst xs, .tup a] => (strs? a).bind fun ss => (tl? xs).bind fun xss => (xss.findIdx? fun x => decide (x = ss)).bind fun j => some (.fz (.int (j : Nat)))
  | _ => none
section
variable {Z : Ent K}
end
section
variable {X : Cx} {Z : Ent X.K} {a b c : Expr} {fa fb fc : FE} {pos : Pos}
end
end DL

namespace DL
open PySem PySem.Spec PyProof.Rows L2
variable {K : PySem.W.Frag}
section
variable {Z : Ent K} {H : Hp} {σ : L2.St} {Q : VK}
@[simp] noncomputable def dispV (k0 : Str) (f0 : FE) (j : Nat) (f1 : FE) : FE := fun δ => match δ[j]? with
  | some (some (.fz (.str x))) => (dispCons f0 (dispCons f1 dispNil) δ).bind fun p => match p.1 with
    | [v0, v1] => if k0 = x then none else some (.tmp (.oK [.inr k0, .inr x] [v0, v1]), p.2)
    | _ => none
  | _ => none
end
section
variable {X : Cx} {Z : Ent X.K} {a b c : Expr} {fa fb fc : FE} {pos : Pos}
end
end DL

namespace L2
open PySem PySem.Spec PyProof.Rows
section
variable {X : Cx}
theorem count_eqU {x : V} : ∀ {xs : List V} {us : List Value}, Vals xs us → xs.all flatV = true → us.countP (eqU x) = xs.countP fun y => eqV y x
  | _, _, .nil, _ => rfl
  | y :: xs, u :: us, .cons r t, f => by
    rw [List.all_cons, Bool.and_eq_true] at f
    rw [List.countP_cons, List.countP_cons, eqU_of r f.1, count_eqU t f.2]
noncomputable def rCountL (K : PySem.W.Frag) : V → List V → Hp → VK → Prop := fun x xs H Q => ∃ p ys y, x = .ref p ∧ xs = [y] ∧ SqL K H p ys ∧ flatV y = true ∧ ys.all flatV = true ∧ Q (.int ((ys.countP fun z => eqV z y) : Nat)) H
theorem mt_count : MtR X "list.count" (rCountL X.K) := by
  intro pins s σ H x xs v us Q I rx rs h
  obtain ⟨p, ys, y, rfl, rfl, hq, fy, fs, q⟩ := h
  cases rx
  obtain ⟨u, rfl, ru⟩ := vals1 rs
  obtain ⟨its, r, ⟨⟨cls, dd, data, sl⟩, n, e, hc, hdd, hd⟩, hz⟩ := I.list hq
  simp only at hc hdd hd
  subst hc hd
  rw [← count_eqU r fs] at q
  exact call_meets PySem.F.slot_list_count ⟨_, e, rfl⟩ PySem.F.entry_list_count (PySem.F.args_list_count_2 _ _) (PySem.SeqAt.list_countAt p its.toArray n dd sl u (eqU y)) ⟨e, fun w hw => mem_eqAt ru fy r fs w (by simpa using hw), .int _, H, I.tok _, ⟨_, rfl⟩, q⟩
noncomputable def rFind3 : V → List V → Hp → VK → Prop := fun x xs H Q => ∃ a b i, x = .str a ∧ xs = [.str b, .int i] ∧ Q (.int (Txt.find3 a b i)) H
theorem mt_find3 : MtR X "str.find" rFind3 := by
  intro pins s σ H x xs v us Q I rx rs h
  obtain ⟨a, b, i, rfl, rfl, q⟩ := h
  obtain ⟨t, rfl⟩ := rx
  cases rs with
  | cons r1 t1 => cases t1 with
    | cons r2 t2 =>
      cases t2
      obtain ⟨t', rfl⟩ := r1
      obtain ⟨t2', rfl⟩ := r2
      exact SC.find3 ⟨.int _, H, I.tok _, ⟨_, rfl⟩, q⟩
end
end L2
namespace DL
open PySem PySem.Spec PyProof.Rows L2
variable {K : PySem.W.Frag}
section
variable {Z : Ent K} {H : Hp} {σ : L2.St} {Q : VK} {E : Ends}
@[simp] noncomputable def countD : List D → Option SV
  | [.lst xs, x] => if x.isFlat = true ∧ xs.all D.isFlat = true then some (.fz (.int ((xs.countP fun y => eqFl y x) : Nat))) else none
  | _ => none
theorem p_count : PrimM Z (rCountL K) countD := by
  intro F H σ δ own vs ds sv Q s r e k
  unfold countD at e
  split at e
  · rename_i xs x
    split at e
    · rename_i hf
      cases e
      cases r with
      | cons h1 t => cases t with
        | cons h2 t =>
          cases t
          obtain ⟨a, us, rfl, hq, rr⟩ := h1.lst s.le
          obtain ⟨g1, f1⟩ := fv_ok h2 hf.1
          obtain ⟨g2, f2⟩ := fvs_ok rr hf.2
          refine ⟨_, _, rfl, a, us, _, rfl, rfl, hq, f1, f2, ?_⟩
          rw [g1, g2, List.countP_map]
          exact k.fz s (.int _)
    · cases e
  · cases e
@[simp] noncomputable def find3D : List D → Option SV
  | [.str a, .str b, .int i] => some (.fz (.int (Txt.find3 a b i)))
  | _ => none
theorem p_find3 : PrimM Z rFind3 find3D := by
  intro F H σ δ own vs ds sv Q s r e k
  unfold find3D at e
  split at e
  · cases e
    cases r with
    | cons h1 t => cases t with
      | cons h2 t => cases t with
        | cons h3 t =>
          cases t
          refine ⟨_, _, rfl, _, _, _, h1.str, by rw [h2.str, h3.int], k.fz s (.int _)⟩
  · cases e
@[simp] noncomputable def augF (i : Nat) (j : Int) : FS := fun δ => match δ[i]? with
  | some (some (.fz (.int x))) => some (.nx (δ.set i (some (.fz (.int (x + j))))))
  | _ => none
theorem l_aug {i : Nat} {j : Int} (h : liftS Z (augF i j) E σ H) : tAug i (tC (.int j)) (ipI fun i j => i + j) E σ H := by
  obtain ⟨F, δ, own, fl, s, e, k⟩ := h
  unfold augF at e
  split at e
  · rename_i x hx
    cases e
    obtain ⟨v, hv, sh⟩ := s.at' i _ hx
    have r := shape_fz sh
    cases r
    have hi : i < σ.length := (List.getElem?_eq_some_iff.mp hv).1
    exact ⟨_, hv, _, _, rfl, rfl, k _ H F _ (Same.refl F) (s.store (TmpOk.fz (.int _)) hi)⟩
  · cases e
theorem lol_at {F : Hp} {δ : DSt} {own : Nat → Nodes} {i : Nat} {pin : Option Addr} {xss : List (List D)} (s : SR Z F H σ δ own) (h : δ[i]? = some (some (.oL pin xss))) :
    ∃ a ws ns, σ[i]? = some (some (.ref a)) ∧ own i = (a, HO.lst ws) :: ns ∧ Kids K F xss ws ns ∧ (∀ b, pin = some b → b = a) ∧ H a = some (.lst ws) ∧ a ∉ adr ns ∧ (adr ns).Nodup := by
  obtain ⟨v, hv, sh⟩ := s.at' i _ h
  obtain ⟨a, ws, ns, rfl, en, kd, hp⟩ := shape_oP sh
  have nd := s.nod i
  rw [en] at nd
  obtain ⟨q1, q2⟩ := List.nodup_cons.mp nd
  exact ⟨a, ws, ns, hv, en, kd, hp, (s.ok i (a, .lst ws) (by rw [en]; exact List.mem_cons_self)).2.2, q1, q2⟩
theorem tmp_new {F : Hp} {δ : DSt} {own : Nat → Nodes} {sv : SV} {o : HO} {p : Addr} (s : SR Z F H σ δ own) (sh : Shape K F sv (.ref p) [(p, o)]) (hp : H p = none) : TmpOk Z F (upd H p o) own sv (.ref p) [(p, o)] := by
  refine ⟨sh, nd1, fun q hq => ?_, fun i q r hq hr e => ?_⟩
  · obtain rfl := List.mem_singleton.mp hq
    exact ⟨s.le.free hp, s.old.free hp, upd_same⟩
  · obtain rfl := List.mem_singleton.mp hq
    have e' : p = r.1 := e
    have z := (s.ok i r hr).2.2
    rw [← e', hp] at z; cases z
@[simp] noncomputable def newLF : FE := fun δ => some (.tmp (.oL none [[]]), δ)
theorem l_newL (h : liftE Z newLF σ H Q) : tLst (tCons (tLst tNil) tNil) σ H Q := by
  obtain ⟨F, δ, own, rv, δ', s, e, k⟩ := h
  cases e
  refine ⟨Nat.zero_le _, fun b hb => ⟨by show 1 ≤ _; decide, fun a ha => ?_⟩⟩
  have S1 := same_new (o := .lst []) hb
  have S2 := same_new (o := .lst [.ref b]) ha
  have hab : a ≠ b := fun z => by rw [z, upd_same] at ha; cases ha
  have ha0 : H a = none := S1.free ha
  refine k (.ref a) _ F own (S1.trans S2) (Same.refl F) (s.grow (S1.trans S2)) ⟨[(a, .lst [.ref b]), (b, .lst [])], .oL noPin (.cons .nil .nil), ?_, fun p hp => ?_, fun i p q hp hq e => ?_⟩
  · exact List.nodup_cons.mpr ⟨fun z => hab (List.mem_singleton.mp z), nd1⟩
  · rcases List.mem_cons.mp hp with z | z
    · subst z; exact ⟨s.le.free ha0, s.old.free ha0, upd_same⟩
    · have z := List.mem_singleton.mp z
      subst z; exact ⟨s.le.free hb, s.old.free hb, S2 _ _ upd_same⟩
  · have hq' := (s.ok i q hq).2.2
    rw [← e] at hq'
    rcases List.mem_cons.mp hp with z | z
    · subst z; rw [ha0] at hq'; cases hq'
    · have z := List.mem_singleton.mp z
      subst z; rw [hb] at hq'; cases hq'
noncomputable def appLF (i : Nat) : FS := fun δ => match δ[i]? with
  | some (some (.oL p xss)) => if xss.length < PySem.sizeLine then some (.nx (δ.set i (some (.oL p (xss ++ [[]]))))) else none
  | _ => none
@[simp] theorem appLF_ap {i : Nat} {δ : DSt} {p : Option Addr} {xss : List (List D)} (hi : δ[i]? = some (some (.oL p xss))) (hz : xss.length < PySem.sizeLine) : appLF i δ = some (.nx (δ.set i (some (.oL p (xss ++ [[]]))))) := by
  unfold appLF; rw [hi]; exact if_pos hz
theorem l_appL {i : Nat} (h : liftS Z (appLF i) E σ H) : tDrop (tBM K "list" rAppend (tVar i) (tCons (tLst tNil) tNil)) E σ H := by
  obtain ⟨F, δ, own, fl, s, e, k⟩ := h
  unfold appLF at e
  split at e
  · rename_i p xss hi
    split at e
    · rename_i hz
      cases e
      obtain ⟨a, ws, ns, hv, en, kd, hp, hH, q1, q2⟩ := lol_at s hi
      have mb : (a, HO.lst ws) ∈ own i := by rw [en]; exact List.mem_cons_self
      refine ⟨_, hv, .inl ⟨rfl, ws, .inl (.inl hH)⟩, Nat.zero_le _, fun b hb => ?_⟩
      have S1 := same_new (o := .lst []) hb
      have s1 := s.grow S1
      have t := tmp_new (sv := .ol []) s (.ol .nil) hb
      refine ⟨a, ws, .ref b, rfl, rfl, S1 _ _ hH, by rw [← kd.length]; exact hz, ?_⟩
      have hb' : ∀ p ∈ own i, p.1 ≠ b := fun p hp z => t.sep i (b, .lst []) p List.mem_cons_self hp z.symm
      refine k σ _ F _ (Same.refl F) (s1.changeT (sv' := .oL p (xss ++ [[]])) (o' := .lst (ws ++ [.ref b])) (ns' := (a, .lst (ws ++ [.ref b])) :: (ns ++ [(b, .lst [])])) t hi hv mb (.oL hp (kd.snoc .nil)) (fun p hp => ?_) ?_)
      · rcases List.mem_cons.mp hp with z | z
        · exact .inl z
        · rcases List.mem_append.mp z with z | z
          · exact .inr (.inl ⟨by rw [en]; exact List.mem_cons_of_mem _ z, fun w => q1 (List.mem_map.mpr ⟨p, z, w⟩)⟩)
          · exact .inr (.inr z)
      · show (a :: (ns ++ [(b, HO.lst [])]).map (·.1)).Nodup
        rw [List.map_append]
        refine List.nodup_cons.mpr ⟨fun z => ?_, ?_⟩
        · rcases List.mem_append.mp z with z | z
          · exact q1 z
          · exact hb' _ mb (List.mem_singleton.mp z)
        · refine List.nodup_append.mpr ⟨q2, nd1, fun x hx y hy z => ?_⟩
          obtain ⟨p, hp, ep⟩ := List.mem_map.mp hx
          have hy' : y = b := List.mem_singleton.mp hy
          exact hb' p (by rw [en]; exact List.mem_cons_of_mem _ hp) (by rw [ep, z, hy'])
    · cases e
  · cases e
theorem Kids.getV {F : Hp} : ∀ {xss : List (List D)} {ws : List V} {ns : Nodes} {p : Nat} {xs : List D}, Kids K F xss ws ns → xss[p]? = some xs → ∃ b vs, ws[p]? = some (.ref b) ∧ ns[p]? = some (b, HO.lst vs) ∧ Reps K F xs vs
  | _, _, _, _, _, .nil, e => by simp at e
  | _, _, _, 0, _, .cons r _, e => by simp at e; subst e; exact ⟨_, _, rfl, rfl, r⟩
  | _, _, _, p + 1, _, .cons _ t, e => by
    obtain ⟨b, vs, h1, h2, h3⟩ := t.getV (p := p) (by simpa using e)
    exact ⟨b, vs, by simpa using h1, by simpa using h2, h3⟩
theorem Kids.lenN {F : Hp} : ∀ {xss : List (List D)} {ws : List V} {ns : Nodes}, Kids K F xss ws ns → xss.length = ns.length
  | _, _, _, .nil => rfl
  | _, _, _, .cons _ t => by rw [List.length_cons, List.length_cons, t.lenN]
theorem atI_neg1 {α : Type} {ws : List α} {x : α} (h : ws[ws.length - 1]? = some x) : atI ws (-1) = some x := by
  have hl := (List.getElem?_eq_some_iff.mp h).1
  have e : ws = ws.dropLast ++ [x] := by
    have hne : ws ≠ [] := fun z => by subst z; simp at hl
    have h2 : ws.getLast hne = x := by rw [List.getLast_eq_getElem]; exact (List.getElem?_eq_some_iff.mp h).2
    rw [← h2]; exact (List.dropLast_concat_getLast hne).symm
  rw [e]; exact atI_last _ _
noncomputable abbrev tTop (K : PySem.W.Frag) (i : Nat) : TE := tOp (rIxL K) (tVar i) (tC (.int (-1)))
theorem top_at {F : Hp} {δ : DSt} {own : Nat → Nodes} {i : Nat} {pin : Option Addr} {xss : List (List D)} {xs : List D} (s : SR Z F H σ δ own) (h : δ[i]? = some (some (.oL pin xss))) (hx : xss[xss.length - 1]? = some xs) :
    ∃ a ws ns b vs, σ[i]? = some (some (.ref a)) ∧ own i = (a, HO.lst ws) :: ns ∧ Kids K F xss ws ns ∧ H a = some (.lst ws) ∧ ws[ws.length - 1]? = some (.ref b) ∧ (b, HO.lst vs) ∈ own i ∧ H b = some (.lst vs) ∧ Reps K F xs vs ∧ ∀ R, R (.ref b) H → tTop K i σ H R := by
  obtain ⟨a, ws, ns, hv, en, kd, hp, hH, q1, q2⟩ := lol_at s h
  obtain ⟨b, vs, h1, h2, h3⟩ := kd.getV hx
  have mb : (b, HO.lst vs) ∈ own i := by rw [en]; exact List.mem_cons_of_mem _ (List.mem_of_getElem? h2)
  rw [kd.length] at h1
  exact ⟨a, ws, ns, b, vs, hv, en, kd, hH, h1, mb, (s.ok i _ mb).2.2, h3, fun R r => ⟨_, hv, a, ws, -1, _, rfl, rfl, .inl (.inl hH), atI_neg1 h1, r⟩⟩
noncomputable def lastAppF (i : Nat) (fe : FE) : FS := fun δ => match δ[i]? with
  | some (some (.oL _ xss0)) => if xss0.length = 0 then none else (fe δ).bind fun q => (frz q.1 q.2).bind fun r => match r.2[i]? with
    | some (some (.oL p xss)) => (xss[xss.length - 1]?).bind fun xs => if xs.length < PySem.sizeLine then some (.nx (r.2.set i (some (.oL p (xss.set (xss.length - 1) (xs ++ [r.1])))))) else none
    | _ => none
  | _ => none
theorem set_last {α : Type} (yss : List α) (x z : α) : (yss ++ [x]).set ((yss ++ [x]).length - 1) z = yss ++ [z] := by
  rw [List.length_append, List.length_singleton, Nat.add_sub_cancel, List.set_append_right _ _ (Nat.le_refl _), Nat.sub_self, List.set_cons_zero]
theorem get_last {α : Type} (yss : List α) (x : α) : (yss ++ [x])[(yss ++ [x]).length - 1]? = some x := by
  rw [List.length_append, List.length_singleton, Nat.add_sub_cancel, List.getElem?_append_right (Nat.le_refl _), Nat.sub_self]; rfl
theorem lastAppF_ap {i : Nat} {fe : FE} {δ δ1 δ2 : DSt} {p p2 : Option Addr} {xss0 yss : List (List D)} {xs : List D} {rv : RV} {d : D} (hi : δ[i]? = some (some (.oL p xss0))) (hn : xss0.length ≠ 0) (h1 : fe δ = some (rv, δ1)) (h2 : frz rv δ1 = some (d, δ2)) (h3 : δ2[i]? = some (some (.oL p2 (yss ++ [xs])))) (hz : xs.length < PySem.sizeLine) :
    lastAppF i fe δ = some (.nx (δ2.set i (some (.oL p2 (yss ++ [xs ++ [d]]))))) := by
  unfold lastAppF
  rw [hi]
  dsimp only
  rw [if_neg hn, h1, Option.bind_some, h2, Option.bind_some]
  dsimp only
  rw [h3]
  dsimp only
  rw [get_last, Option.bind_some, if_pos hz, set_last]
theorem l_lastApp {i : Nat} {fe : FE} (h : liftS Z (lastAppF i fe) E σ H) : tDrop (tBM K "list" rAppend (tTop K i) (tCons (liftE Z fe) tNil)) E σ H := by
  obtain ⟨F, δ, own, fl, s, e, k⟩ := h
  unfold lastAppF at e
  split at e
  · rename_i p0 xss0 hi
    split at e
    · cases e
    rename_i hn0
    obtain ⟨⟨rv, δ1⟩, f3, e⟩ := Option.bind_eq_some_iff.mp e
    obtain ⟨⟨d, δ2⟩, f4, e⟩ := Option.bind_eq_some_iff.mp e
    obtain ⟨xs0, hx0⟩ : ∃ xs0, xss0[xss0.length - 1]? = some xs0 := ⟨xss0[xss0.length - 1]'(by omega), List.getElem?_eq_getElem (by omega)⟩
    obtain ⟨a, ws, ns, b, vs0, hv, en, kd, hH, hw, m0, hb0, _, top⟩ := top_at s hi hx0
    refine top _ ?_
    refine ⟨.inl ⟨rfl, vs0, .inl (.inl hb0)⟩, F, δ, own, rv, δ1, s, f3, fun w H1 F1 own1 sH1 sF1 s1 r1 => ?_⟩
    obtain ⟨F2, sF2, s2, r2⟩ := s1.settleR r1
    obtain ⟨F3, own3, sF3, s3, r3⟩ := s2.frzR r2 f4
    dsimp only at e
    split at e
    · rename_i p xss ho
      obtain ⟨xs, f5, e⟩ := Option.bind_eq_some_iff.mp e
      split at e
      · rename_i hz
        cases e
        obtain ⟨a3, ws3, ns3, hv3, en3, kd3, hp3, hH3, r1', r2'⟩ := lol_at s3 ho
        rw [hv] at hv3; cases hv3
        have : some (HO.lst ws3) = some (HO.lst ws) := hH3.symm.trans (sH1 _ _ hH)
        cases this
        have c1 : ws[xss.length - 1]? = some (.ref b) := by rw [kd3.length]; exact hw
        obtain ⟨ys, vs, k1, k2, k3, k4⟩ := kd3.app c1 r2'
        rw [f5] at k1
        cases k1
        obtain ⟨ns', j1, j2, j3⟩ := k4 r3
        have mb3 : (a, HO.lst ws) ∈ own3 i := by rw [en3]; exact List.mem_cons_self
        have mbb : (b, HO.lst vs) ∈ own3 i := by rw [en3]; exact List.mem_cons_of_mem _ k2
        have hne : a ≠ b := fun z => r1' (List.mem_map.mpr ⟨_, k2, z.symm⟩)
        refine ⟨b, vs, w, rfl, rfl, (s3.ok i _ mbb).2.2, by rw [← k3.length]; exact hz, ?_⟩
        refine k σ _ F3 _ (sF1.trans (sF2.trans sF3)) (s3.change (sv' := .oL p (xss.set (xss.length - 1) (xs ++ [d]))) (o' := .lst (vs ++ [w])) (ns' := (a, .lst ws) :: ns') ho hv mbb (.oL hp3 j1) (fun q hq => ?_) ?_)
        · rcases List.mem_cons.mp hq with z | z
          · exact .inr ⟨by rw [z]; exact mb3, by rw [z]; exact hne⟩
          · rcases j3 q z with z | ⟨z, z2⟩
            · exact .inl z
            · exact .inr ⟨by rw [en3]; exact List.mem_cons_of_mem _ z, z2⟩
        · show (a :: adr ns').Nodup
          rw [j2]
          exact List.nodup_cons.mpr ⟨r1', r2'⟩
      · cases e
    · cases e
  · cases e
end
end DL

namespace DL
open PySem PySem.Spec PyProof.Rows L2
variable {K : PySem.W.Frag}
section
variable {Z : Ent K} {H : Hp} {σ : L2.St} {Q : VK} {E : Ends}
noncomputable def lenLF (i : Nat) : FE := fun δ => match δ[i]? with
  | some (some (.oL _ xss)) => some (.tmp (.fz (.int (xss.length : Nat))), δ)
  | _ => none
@[simp] theorem lenLF_ap {i : Nat} {δ : DSt} {p : Option Addr} {xss : List (List D)} (hi : δ[i]? = some (some (.oL p xss))) : lenLF i δ = some (.tmp (.fz (.int (xss.length : Nat))), δ) := by unfold lenLF; rw [hi]
noncomputable abbrev rLenQ (K : PySem.W.Frag) : List V → Hp → VK → Prop := fun xs H Q => ∃ p ys, xs = [V.ref p] ∧ (SqL K H p ys ∨ SqT K H p ys) ∧ Q (.int ys.length) H
theorem l_lenL {i : Nat} (h : liftE Z (lenLF i) σ H Q) : tCB (rLenQ K) (tCons (tVar i) tNil) σ H Q := by
  obtain ⟨F, δ, own, rv, δ', s, e, k⟩ := h
  unfold lenLF at e
  split at e
  · rename_i p xss hi
    cases e
    obtain ⟨a, ws, ns, hv, en, kd, hp, hH, q1, q2⟩ := lol_at s hi
    refine ⟨_, hv, a, ws, rfl, .inl (.inl (.inl hH)), ?_⟩
    rw [← kd.length]
    exact k _ H F own (Same.refl H) (Same.refl F) s ⟨[], .fz (.int _)⟩
  · cases e
noncomputable def lenTopF (i : Nat) : FE := fun δ => match δ[i]? with
  | some (some (.oL _ xss)) => (xss[xss.length - 1]?).bind fun xs => some (.tmp (.fz (.int (xs.length : Nat))), δ)
  | _ => none
noncomputable def topTopF (i : Nat) : FE := fun δ => match δ[i]? with
  | some (some (.oL _ xss)) => (xss[xss.length - 1]?).bind fun xs => (xs[xs.length - 1]?).bind fun d => some (.tmp (.fz d), δ)
  | _ => none
noncomputable def headTupF (i : Nat) : FE := fun δ => match δ[i]? with
  | some (some (.oL _ (xs :: _))) => some (.tmp (.fz (.tup xs)), δ)
  | _ => none
@[simp] theorem headTupF_ap {i : Nat} {δ : DSt} {p : Option Addr} {xss : List (List D)} {xs : List D} (hi : δ[i]? = some (some (.oL p (xs :: xss)))) : headTupF i δ = some (.tmp (.fz (.tup xs)), δ) := by unfold headTupF; rw [hi]
noncomputable abbrev rTupQ (K : PySem.W.Frag) : List V → Hp → VK → Prop := fun xs H Q => ∃ p ys, xs = [V.ref p] ∧ ((SqL K H p ys ∧ ∀ l, H l = none → Q (.ref l) (upd H l (.tup ys))) ∨ (SqT K H p ys ∧ Q (.ref p) H))
theorem l_headTup {i : Nat} (h : liftE Z (headTupF i) σ H Q) : tCB (rTupQ K) (tCons (tOp (rIxL K) (tVar i) (tC (.int 0))) tNil) σ H Q := by
  obtain ⟨F, δ, own, rv, δ', s, e, k⟩ := h
  unfold headTupF at e
  split at e
  · rename_i p xs xss hi
    cases e
    obtain ⟨a, ws, ns, hv, en, kd, hp, hH, q1, q2⟩ := lol_at s hi
    obtain ⟨b, vs, h1, h2, h3⟩ := kd.getV (p := 0) rfl
    have mb : (b, HO.lst vs) ∈ own i := by rw [en]; exact List.mem_cons_of_mem _ (List.mem_of_getElem? h2)
    refine ⟨_, hv, a, ws, 0, .ref b, rfl, rfl, .inl (.inl hH), atI_nat (j := 0) h1, b, vs, rfl, .inl ⟨.inl (.inl (s.ok i _ mb).2.2), fun l hl => ?_⟩⟩
    exact Fin.tup (fun v H2 F2 ns a b c t => k v H2 F2 own a b c ⟨ns, t⟩) s h3 hl
  · cases e
noncomputable def popLF (j i : Nat) : FS := fun δ => match δ[i]? with
  | some (some (.oL p xss)) => (xss[xss.length - 1]?).bind fun xs => if i ≠ j ∧ j < δ.length then some (.nx ((δ.set i (some (.oL p xss.dropLast))).set j (some (.ol xs)))) else none
  | _ => none
theorem popLF_ap {i j : Nat} {δ : DSt} {p : Option Addr} {yss : List (List D)} {xs : List D} (hi : δ[i]? = some (some (.oL p (yss ++ [xs])))) (hij : i ≠ j) (hj : j < δ.length) : popLF j i δ = some (.nx ((δ.set i (some (.oL p yss))).set j (some (.ol xs)))) := by
  unfold popLF; rw [hi]; dsimp only; rw [get_last, Option.bind_some, if_pos ⟨hij, hj⟩, List.dropLast_concat]
theorem Kids.dropLast {F : Hp} {xss : List (List D)} {ws : List V} {ns : Nodes} (h : Kids K F xss ws ns) : Kids K F xss.dropLast ws.dropLast ns.dropLast := by
  rw [List.dropLast_eq_take, List.dropLast_eq_take, List.dropLast_eq_take, ← h.length, ← h.lenN]
  exact h.take _
theorem l_popL {i j : Nat} (h : liftS Z (popLF j i) E σ H) : tAsg (tBM0 K "list" rPop (tVar i)) (gName j) E σ H := by
  obtain ⟨F, δ, own, fl, s, e, k⟩ := h
  unfold popLF at e
  split at e
  · rename_i p xss hi
    obtain ⟨xs, e1, e2⟩ := Option.bind_eq_some_iff.mp e
    split at e2
    · rename_i hc
      cases e2
      obtain ⟨a, ws, ns, hv, en, kd, hp, hH, q1, q2⟩ := lol_at s hi
      obtain ⟨b, vs, h1, h2, h3⟩ := kd.getV e1
      have hl := (List.getElem?_eq_some_iff.mp h2).1
      have hns : ns = ns.dropLast ++ [(b, HO.lst vs)] := by
        have hne : ns ≠ [] := fun z => by subst z; simp at hl
        have h9 : ns.getLast hne = (b, HO.lst vs) := by
          rw [kd.lenN] at h2
          rw [List.getLast_eq_getElem]; exact (List.getElem?_eq_some_iff.mp h2).2
        rw [← h9]; exact (List.dropLast_concat_getLast hne).symm
      have mn : (b, HO.lst vs) ∈ ns := by rw [hns]; exact List.mem_append_right _ List.mem_cons_self
      have mb : (b, HO.lst vs) ∈ own i := by rw [en]; exact List.mem_cons_of_mem _ mn
      have ma : (a, HO.lst ws) ∈ own i := by rw [en]; exact List.mem_cons_self
      have hba : b ≠ a := fun z => q1 (List.mem_map.mpr ⟨_, mn, z⟩)
      have nd2 := q2
      rw [hns] at nd2
      have nd2' : (adr ns.dropLast ++ [b]).Nodup := by unfold adr at nd2; rw [List.map_append] at nd2; exact nd2
      obtain ⟨n1, n2, n3⟩ := List.nodup_append.mp nd2'
      refine ⟨_, hv, .inl ⟨rfl, ws, .inl (.inl hH)⟩, a, ws, .ref b, rfl, rfl, hH, by rw [← kd.length]; exact h1, ?_⟩
      have sub : ∀ p ∈ ns.dropLast, p ∈ own i := fun p hp => by rw [en, hns]; exact List.mem_cons_of_mem _ (List.mem_append_left _ hp)
      have s1 := s.change (sv' := .oL p xss.dropLast) (o' := .lst ws.dropLast) (ns' := (a, .lst ws.dropLast) :: ns.dropLast) hi hv ma (.oL hp kd.dropLast) (fun q hq => by
        rcases List.mem_cons.mp hq with z | z
        · exact .inl z
        · exact .inr ⟨sub q z, fun w => q1 (List.mem_map.mpr ⟨q, by rw [hns]; exact List.mem_append_left _ z, w⟩)⟩) (by
        show (a :: adr ns.dropLast).Nodup
        exact List.nodup_cons.mpr ⟨fun z => q1 (by
          obtain ⟨q, hq, eq⟩ := List.mem_map.mp z
          exact List.mem_map.mpr ⟨q, by rw [hns]; exact List.mem_append_left _ hq, eq⟩), n1⟩)
      have ok := s.ok i _ mb
      have t : TmpOk Z F (upd H a (.lst ws.dropLast)) (put own i ((a, .lst ws.dropLast) :: ns.dropLast)) (.ol xs) (.ref b) [(b, .lst vs)] := by
        refine ⟨.ol h3, nd1, fun q hq => ?_, fun l q r hq hr z => ?_⟩
        · obtain rfl := List.mem_singleton.mp hq
          exact ⟨ok.1, ok.2.1, by rw [upd_ne hba]; exact ok.2.2⟩
        · obtain rfl := List.mem_singleton.mp hq
          by_cases hl : l = i
          · subst hl
            rw [put_same] at hr
            rcases List.mem_cons.mp hr with y | y
            · subst y; exact hba z
            · exact n3 r.1 (List.mem_map.mpr ⟨r, y, rfl⟩) b List.mem_cons_self z.symm
          · rw [put_ne hl] at hr
            exact s.sep i l _ r (Ne.symm hl) mb hr z
      exact k _ _ F _ (Same.refl F) (s1.store t (by rw [s.len]; exact hc.2))
    · cases e2
  · cases e
noncomputable def hole (H : Hp) (ns : Nodes) : Hp := fun b => if b ∈ adr ns then none else H b
theorem hole_le {ns : Nodes} : Same (hole H ns) H := fun b o e => by
  unfold hole at e
  split at e
  · cases e
  · exact e
theorem hole_in {ns : Nodes} {b : Addr} (h : b ∈ adr ns) : hole H ns b = none := if_pos h
theorem hole_out {ns : Nodes} {b : Addr} (h : b ∉ adr ns) : hole H ns b = H b := if_neg h
theorem hole_none {ns : Nodes} {b : Addr} (h : hole H ns b = none) : b ∈ adr ns ∨ H b = none := by
  by_cases hb : b ∈ adr ns
  · exact .inl hb
  · rw [hole_out hb] at h; exact .inr h
noncomputable def spM (K : PySem.W.Frag) (g : Addr → List (List D) → Option (List (List D))) : Sp := fun vs H Q _ => ∃ F a xss ws ns yss, vs = [V.ref a] ∧ Same F H ∧ Kids K F xss ws ns ∧ (adr ((a, HO.lst ws) :: ns)).Nodup ∧ (∀ p ∈ (a, HO.lst ws) :: ns, F p.1 = none ∧ H p.1 = some p.2) ∧ g a xss = some yss ∧
  ∀ H' F' ws' ns', Same (hole H ((a, .lst ws) :: ns)) H' → Same F F' → Same F' H' → (∀ (b : Addr) (o : HO), F' b = some o → F b = some o ∨ hole H ((a, .lst ws) :: ns) b = none) → Kids K F' yss ws' ns' → (adr ((a, HO.lst ws') :: ns')).Nodup →
    (∀ p ∈ (a, HO.lst ws') :: ns', F' p.1 = none ∧ hole H ((a, .lst ws) :: ns) p.1 = none ∧ H' p.1 = some p.2) → Q .non H'
theorem spM_len {g : Addr → List (List D) → Option (List (List D))} {vs : List V} {Q : VK} {E : XK} (h : spM K g vs H Q E) : vs.length = 1 := by
  obtain ⟨F, a, xss, ws, ns, yss, rfl, _⟩ := h; rfl
@[simp] noncomputable def startM (n : Nat) (a : Addr) (xss : List (List D)) : DSt := some (.oL (some a) xss) :: List.replicate (n - 1) none
@[simp] noncomputable def leftM (a : Addr) (o : Option (Option SV)) : Option (List (List D)) := match o with
  | some (some (.oL (some b) yss)) => if b = a then some yss else none
  | _ => none
@[simp] noncomputable def outM (f : FS) (n : Nat) (a : Addr) (xss : List (List D)) : Option (List (List D)) := match f (startM n a xss) with
  | some (.nx δ) => leftM a δ[0]?
  | _ => none
theorem body_outM {N : List Str} {f : FS} {vs : List V} {Q : VK} {E : XK} (hN : 0 < N.length) (h : spM K (outM f N.length) vs H Q E) : ∃ G F, liftS (ent G F : Ent K) f { nx := fun _ H' => Q .non H', rt := Q } (L2.start N vs) H := by
  obtain ⟨F, a, xss, ws, ns, yss, rfl, le, kd, nd, ok, e, k⟩ := h
  refine ⟨hole H ((a, .lst ws) :: ns), F, ?_⟩
  have s0 : SR (ent (hole H ((a, .lst ws) :: ns)) F : Ent K) F H (List.replicate N.length none) (List.replicate N.length none) fun _ => [] :=
    ⟨le, fun b o e => .inl e, hole_le, by rw [List.length_replicate, List.length_replicate], fun i sv e => (by rw [List.getElem?_replicate] at e; split at e <;> cases e), fun _ => List.nodup_nil, fun _ _ h => (nomatch h), fun _ _ _ _ _ h => (nomatch h)⟩
  have t : TmpOk (ent (hole H ((a, .lst ws) :: ns)) F : Ent K) F H (fun _ => []) (.oL (some a) xss) (.ref a) ((a, .lst ws) :: ns) :=
    ⟨.oL (fun b e => by cases e; rfl) kd, nd, fun p hp => ⟨(ok p hp).1, hole_in (List.mem_map.mpr ⟨p, hp, rfl⟩), (ok p hp).2⟩, fun _ _ _ _ h => (nomatch h)⟩
  have s1 := s0.store (i := 0) t (by rw [List.length_replicate]; exact hN)
  have st : ∀ (α : Type) (n : Nat) (x : α) (y : α), 0 < n → (List.replicate n y).set 0 x = x :: List.replicate (n - 1) y := fun α n x y hn => by
    cases n with
    | zero => omega
    | succ m => rw [List.replicate_succ, List.set_cons_zero]; rfl
  rw [st _ _ _ _ hN, st _ _ _ _ hN] at s1
  unfold outM at e
  split at e
  · rename_i δ hf
    unfold leftM at e
    split at e
    · rename_i b zss h0
      split at e
      · rename_i hba
        cases e
        subst hba
        refine ⟨F, _, _, .nx δ, s1, hf, fun σ' H' F' own' a' s' => ?_⟩
        obtain ⟨c, ws', ns', hv, en, kd', hp, hH, q1, q2⟩ := lol_at s' h0
        obtain rfl := hp b rfl
        refine k H' F' ws' ns' s'.old a' s'.le s'.fro kd' ?_ fun p hp => ?_
        · have := s'.nod 0; rw [en] at this; exact this
        · exact s'.ok 0 p (by rw [en]; exact hp)
      · cases e
    · cases e
  · cases e
open Classical in
noncomputable def mutF (i : Nat) (g : Addr → List (List D) → Option (List (List D))) : FS := fun δ => match δ[i]? with
  | some (some (.oL p xss)) => if h : ∃ o, ∀ a, g a xss = some o then some (.nx (δ.set i (some (.oL p h.choose)))) else none
  | _ => none
theorem mutF_ap {i : Nat} {g : Addr → List (List D) → Option (List (List D))} {δ : DSt} {p : Option Addr} {xss yss : List (List D)} (hi : δ[i]? = some (some (.oL p xss))) (hg : ∀ a, g a xss = some yss) : mutF i g δ = some (.nx (δ.set i (some (.oL p yss)))) := by
  unfold mutF
  rw [hi]
  have h : ∃ o, ∀ a, g a xss = some o := ⟨yss, hg⟩
  dsimp only
  rw [dif_pos h]
  have := h.choose_spec 0
  rw [hg 0] at this
  rw [← Option.some.inj this]
theorem l_mut {i : Nat} {g : Addr → List (List D) → Option (List (List D))} {E' : XK} (h : liftS Z (mutF i g) E σ H) : tDrop (tCall (spM K g) [] E' (tCons (tVar i) tNil)) E σ H := by
  obtain ⟨F, δ, own, fl, s, e, k⟩ := h
  unfold mutF at e
  split at e
  · rename_i p xss hi
    split at e
    · rename_i hg
      cases e
      obtain ⟨a, ws, ns, hv, en, kd, hp, hH, q1, q2⟩ := lol_at s hi
      have hil : i < δ.length := (List.getElem?_eq_some_iff.mp hi).1
      have inO : ∀ b, b ∈ adr ((a, HO.lst ws) :: ns) → ∃ q ∈ own i, b = q.1 := fun b hb => by
        obtain ⟨q, hq, e⟩ := List.mem_map.mp hb
        exact ⟨q, by rw [en]; exact hq, e.symm⟩
      have zh : ∀ b, hole H ((a, .lst ws) :: ns) b = none → Z.h b = none := fun b hb => by
        rcases hole_none hb with z | z
        · obtain ⟨q, hq, e⟩ := inO b z
          rw [e]; exact (s.ok i q hq).2.1
        · exact s.old.free z
      have keep : ∀ j, j ≠ i → ∀ q ∈ own j, hole H ((a, .lst ws) :: ns) q.1 = some q.2 := fun j hj q hq => by
        rw [hole_out fun z => ?_]
        · exact (s.ok j q hq).2.2
        · obtain ⟨r, hr, e⟩ := inO _ z
          exact s.sep j i q r hj hq hr e
      refine ⟨_, hv, F, a, xss, ws, ns, _, rfl, s.le, kd, by rw [← en]; exact s.nod i, fun q hq => ?_, hg.choose_spec a, fun H' F' ws' ns' sH sF le' fro' kd' nd' ok' => ?_⟩
      · have := s.ok i q (by rw [en]; exact hq); exact ⟨this.1, this.2.2⟩
      refine k σ H' F' (put own i ((a, .lst ws') :: ns')) sF ⟨le', fun b o e => ?_, fun b o e => ?_, by rw [List.length_set]; exact s.len, fun j sv e => ?_, fun j => ?_, fun j q hq => ?_, fun j l q r hjl hq hr => ?_⟩
      · rcases fro' b o e with z | z
        · exact s.fro b o z
        · exact .inr (zh b z)
      · refine sH b o ?_
        rw [hole_out fun z => ?_]
        · exact s.old b o e
        · obtain ⟨q, hq, e'⟩ := inO b z
          rw [e', (s.ok i q hq).2.1] at e; cases e
      · by_cases hj : j = i
        · subst hj
          rw [List.getElem?_set_self hil] at e
          cases e
          rw [put_same]
          exact ⟨_, hv, .oL hp kd'⟩
        · rw [List.getElem?_set_ne (Ne.symm hj)] at e
          obtain ⟨v, h1, h2⟩ := s.at' j sv e
          rw [put_ne hj]
          exact ⟨v, h1, h2.mono sF⟩
      · by_cases hj : j = i
        · subst hj; rw [put_same]; exact nd'
        · rw [put_ne hj]; exact s.nod j
      · by_cases hj : j = i
        · subst hj
          rw [put_same] at hq
          obtain ⟨x1, x2, x3⟩ := ok' q hq
          exact ⟨x1, zh _ x2, x3⟩
        · rw [put_ne hj] at hq
          obtain ⟨x1, x2, x3⟩ := s.ok j q hq
          refine ⟨?_, x2, sH _ _ (keep j hj q hq)⟩
          cases z : F' q.1 with
          | none => rfl
          | some u =>
            rcases fro' _ u z with y | y
            · rw [x1] at y; cases y
            · rw [keep j hj q hq] at y; cases y
      · by_cases hj : j = i
        · subst hj
          rw [put_same] at hq
          rw [put_ne (Ne.symm hjl)] at hr
          intro e
          have z := (ok' q hq).2.1
          rw [e, keep l (Ne.symm hjl) r hr] at z; cases z
        · by_cases hl : l = i
          · subst hl
            rw [put_same] at hr
            rw [put_ne hj] at hq
            intro e
            have z := (ok' r hr).2.1
            rw [← e, keep j hj q hq] at z; cases z
          · rw [put_ne hj] at hq
            rw [put_ne hl] at hr
            exact s.sep j l q r hjl hq hr
    · cases e
  · cases e
end
end DL

namespace DL
open PySem PySem.Spec PyProof.Rows L2
section
variable {X : Cx} {Z : Ent X.K} {a b c : Expr} {fa fb fc : FE} {pos : Pos}
theorem v_neg1 {jj : Nat} {p1 p2 : Pos} : PE X (.UnaryOp .USub (.Constant (.int 1) jj p1) p2) (tC (.int (-1))) := (pe_un un_neg pe_int).imp fun _ _ _ h => ⟨1, rfl, h⟩
theorem v_top {i : Nat} {jj : Nat} {p1 p2 p3 : Pos} (ha : PE X a (tVar i)) : PE X (.Subscript a (.UnaryOp .USub (.Constant (.int 1) jj p1) p2) p3) (tTop X.K i) := pe_ix ix_list ha v_neg1 (by intro _ _; rfl)
theorem e_newL {p1 : Pos} (he : starEach [.List [] p1] X.env = (false, eval (.List [] p1) X.env) :: starEach [] X.env := by rfl) : PE X (.List [.List [] p1] pos) (liftE Z newLF) := (pe_lst (pa_cons (pe_lst pa_nil) pa_nil he)).imp fun _ _ _ h => l_newL h
theorem e_lenL (i : Nat) {p : Pos} (hm : X.mg "len" = none) (ha : PE X a (tVar i)) (hg : Gl X "len" := by rfl) (he : starEach [a] X.env = (false, eval a X.env) :: starEach [] X.env := by rfl) (hpl : (backTo pos (starEach [] X.env)).any (·.1) = false := by rfl) : PE X (.Call (.Name "len" p) [a] [] pos) (liftE Z (lenLF i)) :=
  (pe_callB call_len_seq hg hm PySem.boot_len (pa_cons ha pa_nil he) (by decide) (by decide) he hpl).imp fun _ _ _ h => l_lenL h
theorem e_headTup (i : Nat) {jj : Nat} {p p1 p2 : Pos} (hm : X.mg "tuple" = none) (ha : PE X a (tVar i)) (hg : Gl X "tuple" := by rfl) (he : starEach [.Subscript a (.Constant (.int 0) jj p1) p2] X.env = (false, eval (.Subscript a (.Constant (.int 0) jj p1) p2) X.env) :: starEach [] X.env := by rfl) (hpl : (backTo pos (starEach [] X.env)).any (·.1) = false := by rfl) :
    PE X (.Call (.Name "tuple" p) [.Subscript a (.Constant (.int 0) jj p1) p2] [] pos) (liftE Z (headTupF i)) :=
  (pe_callTy call_tuple_of hg hm boot_tuple (pa_cons (pe_ix ix_list ha pe_int (by intro _ _; rfl)) pa_nil he) (by decide) (by decide) he hpl).imp fun _ _ _ h => l_headTup h
theorem s_appL (i : Nat) {x : Str} {px apos cpos lp : Pos} (hN : X.N[i]? = some x := by rfl) (hv : Vis X.env.scope x := by first | exact Or.inl rfl | exact Or.inr (Or.inl rfl) | exact Or.inr (Or.inr rfl)) (hd : (x == ("__debug__" : Str)) = false := by decide)
    (hcd : (x == ("__classdict__" : Str)) = false := by decide) (hbase : attributeBase (.Name x px) "append" X.env (eval (.Name x px) X.env) = eval (.Name x px) X.env := by rfl)
    (hfew : ((backTo cpos (starEach [.List [] lp] X.env)).all (fun x => !x.1) && (backToKw cpos (keywordEach [] X.env)).all (fun x => x.1.isSome) && decide ([Expr.List [] lp].length + ([] : List Keyword).length + (if ([] : List Keyword).isEmpty then 0 else 1) < 30)) = true := by rfl)
    (hline : (apos.endLine == cpos.line) = true := by rfl) (hs : starEach [.List [] lp] X.env = (false, eval (.List [] lp) X.env) :: starEach [] X.env := by rfl) (hpl : (backTo cpos (starEach [] X.env)).any (·.1) = false := by rfl) (hsw : swapsWith (.Call (.Attribute (.Name x px) "append" apos) [.List [] lp] [] cpos) none pos.line X.env = pure false := by rfl) :
    PS X (.Expr (.Call (.Attribute (.Name x px) "append" apos) [.List [] lp] [] cpos) pos) (liftS Z (appLF i)) :=
  (ps_expr (pe_bm PySem.F.plainAttrs_list PySem.F.slot_list_append PySem.F.type_list_append mt_append (pe_var (i := i) hN hv hd hcd) (pa_cons (pe_lst pa_nil) pa_nil hs) hbase hfew hline hs hpl) hsw).imp fun _ _ _ h => l_appL h
theorem s_lastApp (i : Nat) {apos cpos : Pos} (ha : PE X a (tTop X.K i)) (hb : PE X b (liftE Z fb)) (hbase : attributeBase a "append" X.env (eval a X.env) = eval a X.env := by rfl)
    (hfew : ((backTo cpos (starEach [b] X.env)).all (fun x => !x.1) && (backToKw cpos (keywordEach [] X.env)).all (fun x => x.1.isSome) && decide ([b].length + ([] : List Keyword).length + (if ([] : List Keyword).isEmpty then 0 else 1) < 30)) = true := by rfl)
    (hline : (apos.endLine == cpos.line) = true := by rfl) (hs : starEach [b] X.env = (false, eval b X.env) :: starEach [] X.env := by rfl) (hpl : (backTo cpos (starEach [] X.env)).any (·.1) = false := by rfl) (hsw : swapsWith (.Call (.Attribute a "append" apos) [b] [] cpos) none pos.line X.env = pure false := by rfl) :
    PS X (.Expr (.Call (.Attribute a "append" apos) [b] [] cpos) pos) (liftS Z (lastAppF i fb)) :=
  (ps_expr (pe_bm PySem.F.plainAttrs_list PySem.F.slot_list_append PySem.F.type_list_append mt_append ha (pa_cons hb pa_nil hs) hbase hfew hline hs hpl) hsw).imp fun _ _ _ h => l_lastApp h
theorem s_popL (j i : Nat) {x y : Str} {px py apos cpos : Pos} (hN : X.N.Nodup) (hi : X.N[i]? = some x := by rfl) (hv : Vis X.env.scope x := by first | exact Or.inl rfl | exact Or.inr (Or.inl rfl) | exact Or.inr (Or.inr rfl)) (hd : (x == ("__debug__" : Str)) = false := by decide) (hcd : (x == ("__classdict__" : Str)) = false := by decide)
    (hbase : attributeBase (.Name x px) "pop" X.env (eval (.Name x px) X.env) = eval (.Name x px) X.env := by rfl) (hline : (apos.endLine == cpos.line) = true := by rfl)
    (hj : X.N[j]? = some y := by rfl) (hy : Loc X.env.scope y := by first | exact Or.inl rfl | exact Or.inr rfl) (hs : swapsWith (.Call (.Attribute (.Name x px) "pop" apos) [] [] cpos) (some (.Name y py)) pos.line X.env = pure false := by rfl) (hf : X.fn y = true ∨ X.env.scope.names.lookup y = some .local := by first | exact .inl rfl | exact .inr rfl) :
    PS X (.Assign [.Name y py] (.Call (.Attribute (.Name x px) "pop" apos) [] [] cpos) pos) (liftS Z (popLF j i)) :=
  (ps_set hN hj hy (pe_bm0 PySem.F.plainAttrs_list PySem.F.slot_list_pop PySem.F.type_list_pop mt_pop (pe_var (i := i) hi hv hd hcd) hbase hline) hs hf).imp fun _ _ _ h => l_popL h
theorem s_mut (i : Nat) {k : Nat} {f : Addr} {fd : FuncData} {ps : List Str} {g : Addr → List (List D) → Option (List (List D))} {x : Str} {p cpos : Pos} (F : FnOk X.prog X.w X.K X.mg X.base CX0 k f fd ps (spM X.K g)) (hr : Room k X.A) (hm : X.mg x = some (.ref f)) (hk : PySem.W.keepIn X.K (.ref f) = true) (hb : Binds X.K fd ps [])
    (ha : PE X a (tVar i)) (hg : Gl X x := by rfl) (hdb : (x == ("__debug__" : Str)) = false := by decide) (he : starEach [a] X.env = (false, eval a X.env) :: starEach [] X.env := by rfl) (hpl : (backTo cpos (starEach [] X.env)).any (·.1) = false := by rfl) (hsw : swapsWith (.Call (.Name x p) [a] [] cpos) none pos.line X.env = pure false := by rfl) :
    PS X (.Expr (.Call (.Name x p) [a] [] cpos) pos) (liftS Z (mutF i g)) := (ps_expr (pe_call F hr hg hm hk hb .nil pass0 (pa_cons ha pa_nil he) hdb he hpl) hsw).imp fun _ _ _ h => l_mut h
theorem s_aug (i : Nat) {x : Str} {j : Int} {jj : Nat} {p1 p2 : Pos} (hN : X.N.Nodup) (hi : X.N[i]? = some x := by rfl) (hx : Loc X.env.scope x := by first | exact Or.inl rfl | exact Or.inr rfl) (hf : X.fn x = true ∨ X.env.scope.names.lookup x = some .local := by first | exact .inl rfl | exact .inr rfl) :
    PS X (.AugAssign (.Name x p1) .Add (.Constant (.int j) jj p2) pos) (liftS Z (augF i j)) := (ps_aug hN hi hx pe_int ip_add hf).imp fun _ _ _ h => l_aug h
theorem e_count {apos cpos : Pos} (ha : PE X a (liftE Z fa)) (hb : PE X b (liftE Z fb)) (hbase : attributeBase a "count" X.env (eval a X.env) = eval a X.env := by rfl)
    (hfew : ((backTo cpos (starEach [b] X.env)).all (fun x => !x.1) && (backToKw cpos (keywordEach [] X.env)).all (fun x => x.1.isSome) && decide ([b].length + ([] : List Keyword).length + (if ([] : List Keyword).isEmpty then 0 else 1) < 30)) = true := by rfl)
    (hline : (apos.endLine == cpos.line) = true := by rfl) (hs : starEach [b] X.env = (false, eval b X.env) :: starEach [] X.env := by rfl) (hpl : (backTo cpos (starEach [] X.env)).any (·.1) = false := by rfl) :
    PE X (.Call (.Attribute a "count" apos) [b] [] cpos) (liftE Z (bmF "list" countD fa (argCons fb argNil))) :=
  (pe_bm PySem.F.plainAttrs_list PySem.F.slot_list_count PySem.F.type_list_count mt_count ha (a_cons hb a_nil hs) hbase hfew hline hs hpl).imp fun _ _ _ h => l_bm p_count h
theorem e_find3 {apos cpos : Pos} (ha : PE X a (liftE Z fa)) (hb : PE X b (liftE Z fb)) (hc : PE X c (liftE Z fc)) (hbase : attributeBase a "find" X.env (eval a X.env) = eval a X.env := by rfl)
    (hfew : ((backTo cpos (starEach [b, c] X.env)).all (fun x => !x.1) && (backToKw cpos (keywordEach [] X.env)).all (fun x => x.1.isSome) && decide ([b, c].length + ([] : List Keyword).length + (if ([] : List Keyword).isEmpty then 0 else 1) < 30)) = true := by rfl)
    (hline : (apos.endLine == cpos.line) = true := by rfl) (hs : starEach [b, c] X.env = (false, eval b X.env) :: starEach [c] X.env := by rfl) (hs2 : starEach [c] X.env = (false, eval c X.env) :: starEach [] X.env := by rfl) (hpl : (backTo cpos (starEach [c] X.env)).any (·.1) = false := by rfl) :
    PE X (.Call (.Attribute a "find" apos) [b, c] [] cpos) (liftE Z (bmF "str" find3D fa (argCons fb (argCons fc argNil)))) :=
  (pe_bm PySem.F.plainAttrs_str PySem.F.slot_str_find PySem.F.type_str_find mt_find3 ha (a_cons hb (a_cons hc a_nil hs2) hs) hbase hfew hline hs hpl).imp fun _ _ _ h => l_bm p_find3 h
end
end DL

namespace L2
open PySem PySem.Spec PyProof.Rows
section
variable {X : Cx}
noncomputable abbrev rIntT : List V → Hp → VK → Prop := fun xs H Q => ∃ (x : Str) (n : Int), xs = [V.str x] ∧ PySem.intText? x = some n ∧ x.length ≤ 640 ∧ Q (.int n) H
theorem call_intT : CallR X (.type "int") rIntT := by
  intro pins s σ H xs us Q I r h
  obtain ⟨x, n, rfl, hn, hl, q⟩ := h
  obtain ⟨u, rfl, t, rfl⟩ := vals1 r
  exact PySem.W.KIN.call_text hn hl ⟨.int n, H, I.tok _, ⟨_, rfl⟩, q⟩
end
end L2
namespace DL
open PySem PySem.Spec PyProof.Rows L2
variable {K : PySem.W.Frag}
noncomputable def intTD : List D → Option SV
  | [.str x] => if x.length ≤ 640 then (PySem.intText? x).bind fun n => some (.fz (.int n)) else none
  | _ => none
theorem p_intT {Z : Ent K} : PrimN Z rIntT intTD := by
  intro F H σ δ own vs ds sv Q s r e k
  unfold intTD at e
  split at e
  · split at e
    · rename_i x hx
      obtain ⟨n, e1, e2⟩ := Option.bind_eq_some_iff.mp e
      cases e2
      cases r with
      | cons h1 t =>
        cases t
        exact ⟨x, n, by rw [h1.str], e1, hx, k.fz s (.int _)⟩
    · cases e
  · cases e
section
variable {X : Cx} {Z : Ent X.K} {a : Expr} {fa : FE} {pos : Pos}
theorem e_intT {p : Pos} (hm : X.mg "int" = none) (ha : PE X a (liftE Z fa)) (hg : Gl X "int" := by rfl) (he : starEach [a] X.env = (false, eval a X.env) :: starEach [] X.env := by rfl) (hpl : (backTo pos (starEach [] X.env)).any (·.1) = false := by rfl) : PE X (.Call (.Name "int" p) [a] [] pos) (liftE Z (primF intTD (argCons fa argNil))) :=
  e_callT call_intT p_intT hm boot_int (a_cons ha a_nil he) hg (by decide) (by decide) he hpl
end
end DL

namespace My
open DL PySem
theorem line_of {n : Nat} (h : n ≤ 16777216) : n ≤ PySem.sizeLine := h
theorem line_lt {n : Nat} (h : n < 16777216) : n < PySem.sizeLine := h
noncomputable abbrev LET : Str := "ABCDEFGHIJKLMNOPQRSTUVWXYZabcdefghijklmnopqrstuvwxyz"
theorem app_len (a b : Str) : (a ++ b).length = a.length + b.length := by
  show (a.cps ++ b.cps).size = a.cps.size + b.cps.size
  simp
theorem one_len (c : Nat) : (⟨#[c]⟩ : Str).length = 1 := rfl
theorem strs_map : ∀ xs : List Str, strs? (xs.map D.str) = some xs
  | [] => rfl
  | x :: r => by simp [strs_map r]
theorem cut_map (ns : List Int) (lo hi : Option Int) : ∃ ms : List Int, cutD (ns.map D.int) lo hi = ms.map D.int ∧ ms.length ≤ ns.length := by
  unfold cutD
  refine ⟨(ns.drop _).take _, by rw [List.map_take, List.map_drop], ?_⟩
  rw [List.length_take, List.length_drop]; omega
noncomputable def cat : List Str → Str
  | [] => ""
  | x :: r => x ++ cat r
theorem join_cat : ∀ xs : List Str, Str.join (Str.ofString "") xs = cat xs
  | [] => rfl
  | [x] => by show x = x ++ Str.empty; rw [Str.append_empty]
  | x :: y :: r => by
    show x ++ Str.empty ++ Str.join (Str.ofString "") (y :: r) = x ++ cat (y :: r)
    rw [Str.append_empty, join_cat (y :: r)]
theorem tjoin0 (xs : List Str) : Txt.join (Str.ofString "") xs = cat xs := (StrLaws.glued_eq_join _ xs).trans (join_cat xs)
theorem tjoin (sep : Str) (xs : List Str) : Txt.join sep xs = Str.join sep xs := StrLaws.glued_eq_join _ xs
theorem joinOk {sep : Str} {xs : List Str} {B : Nat} (h : ∀ x ∈ xs, x.length ≤ B) (hz : xs.length * B + xs.length * sep.length ≤ 16777216) : JoinOk sep xs = true := by
  unfold JoinOk
  rw [StrLaws.joinFits h hz]; rfl
theorem comp_cap {te : FE} {f : D → D} {c : Option SV} {j : Nat} : ∀ (xs ys : List D), (∀ x ∈ xs, ∀ zs, te [some (.fz x), c, some (.ol zs)] = some (.tmp (.fz (f x)), [some (.fz x), c, some (.ol zs)])) → ys.length + xs.length ≤ 16777216 →
    compD [.own, .cap j, .acc] 2 (gNameF 0) trueT te xs [none, c, some (.ol ys)] = some [none, c, some (.ol (ys ++ xs.map f))]
  | [], ys, _, _ => by simp
  | x :: xs, ys, h, hl => by
    rw [List.length_cons] at hl
    have ih := comp_cap (te := te) (f := f) (c := c) (j := j) xs (ys ++ [f x]) (fun y hy => h y (List.mem_cons_of_mem _ hy)) (by rw [List.length_append]; simp; omega)
    have e1 := h x List.mem_cons_self ys
    have h4 : ys.length < PySem.sizeLine := line_lt (by omega)
    simp [e1, h4]
    simpa using ih
end My

namespace My
open DL PySem StrLaws Builtin.Str
noncomputable def gap (n : Nat) : Nat → List Nat → Prop
  | _, [] => True
  | a, p :: r => a ≤ p ∧ gap n (p + n) r
theorem gap_le {n : Nat} : ∀ {a : Nat} {P : List Nat}, gap n a P → ∀ i ∈ P, a ≤ i
  | _, [], _, i, h => nomatch h
  | a, p :: r, g, i, h => by
    rcases List.mem_cons.mp h with e | e
    · rw [e]; exact g.1
    · have := gap_le g.2 i e
      have := g.1
      omega
theorem occ_go (s sub : Str) (hi limit : Nat) (hn : 1 ≤ sub.length) : ∀ (m a : Nat) (found : Array Nat) (free : Nat) (P : List Nat), gap sub.length free P → (∀ i ∈ P, a ≤ i ∧ i < a + m) →
    (∀ i, a ≤ i → ((free ≤ i ∧ At s sub hi i) ↔ i ∈ P)) →
    (forIn (List.range' a m) (found, free) (occBody s sub hi limit)).run.fst.toList = found.toList ++ P.take (limit - found.size)
  | 0, a, found, free, P, g, hb, hm => by
    have : P = [] := by
      cases P with
      | nil => rfl
      | cons p r => have := hb p List.mem_cons_self; omega
    subst this
    simp
  | m + 1, a, found, free, P, g, hb, hm => by
    rw [List.range'_succ, List.forIn_cons]
    unfold occBody
    by_cases hl : found.size < limit
    · by_cases ha : a ∈ P
      · obtain ⟨h1, h2, h3⟩ := (hm a (Nat.le_refl _)).mpr ha
        rw [if_pos ⟨⟨⟨hl, h1⟩, h2⟩, h3⟩]
        obtain ⟨P', rfl⟩ : ∃ P', P = a :: P' := by
          cases P with
          | nil => cases ha
          | cons p r =>
            rcases List.mem_cons.mp ha with e | e
            · exact ⟨r, by rw [e]⟩
            · have := gap_le g.2 a e
              have := (hb p List.mem_cons_self).1
              omega
        have ih := occ_go s sub hi limit hn m (a + 1) (found.push a) (a + sub.length) P' g.2 (fun i hi' => by
            have z1 := gap_le g.2 i hi'
            have z2 := (hb i (List.mem_cons_of_mem _ hi')).2
            omega) (fun i hi' => by
            constructor
            · rintro ⟨z1, z2⟩
              have := (hm i (by omega)).mp ⟨by omega, z2⟩
              rcases List.mem_cons.mp this with e | e
              · omega
              · exact e
            · intro z
              have z1 := gap_le g.2 i z
              exact ⟨z1, ((hm i (by omega)).mpr (List.mem_cons_of_mem _ z)).2⟩)
        refine Eq.trans ih ?_
        rw [Array.toList_push, Array.size_push, show limit - found.size = (limit - (found.size + 1)) + 1 by omega, List.take_succ_cons, List.append_assoc]
        rfl
      · rw [if_neg fun z => ha ((hm a (Nat.le_refl _)).mp ⟨z.1.1.2, z.1.2, z.2⟩)]
        refine occ_go s sub hi limit hn m (a + 1) found free P g (fun i hi' => ?_) (fun i hi' => hm i (by omega))
        have z := hb i hi'
        have : i ≠ a := fun e => ha (by rw [← e]; exact hi')
        omega
    · rw [if_neg fun z => hl z.1.1.1]
      have e0 : limit - found.size = 0 := by omega
      have ih : ∀ (l : List Nat) (st : Array Nat × Nat), ¬ st.fst.size < limit → (forIn l st (occBody s sub hi limit)).run.fst = st.fst := by
        intro l
        induction l with
        | nil => intro st _; rfl
        | cons x l ih =>
          intro st hst
          rw [List.forIn_cons]
          unfold occBody
          rw [if_neg fun z => hst z.1.1.1]
          exact ih _ hst
      have := ih (List.range' (a + 1) m) (found, free) hl
      refine Eq.trans (congrArg Array.toList this) ?_
      rw [e0]; simp
theorem occ_is (x y : Str) (limit : Nat) (P : List Nat) (hn : 1 ≤ y.length) (g : gap y.length 0 P) (hm : ∀ i, At x y x.length i ↔ i ∈ P) : occurrences x y 0 x.length limit = P.take limit := by
  rw [occ_eq]
  have := occ_go x y x.length limit hn (x.length + 1 - 0) 0 #[] 0 P g (fun i hi => by
    have := ((hm i).mpr hi).1
    omega) (fun i _ => by rw [← hm i]; simp)
  simpa using this
noncomputable def jl (y : List Nat) : List (List Nat) → List Nat
  | [] => []
  | [p] => p
  | p :: q :: r => p ++ y ++ jl y (q :: r)
noncomputable def pos (n : Nat) : Nat → List (List Nat) → List Nat
  | _, [] => []
  | _, [_] => []
  | a, p :: q :: r => (a + p.length) :: pos n (a + p.length + n) (q :: r)
theorem pos_gap (n : Nat) : ∀ (a : Nat) (ps : List (List Nat)), gap n a (pos n a ps)
  | _, [] => True.intro
  | _, [_] => True.intro
  | a, p :: q :: r => ⟨Nat.le_add_right _ _, pos_gap n _ (q :: r)⟩
theorem c_at {y : List Nat} {c o : Nat} (ho : ∀ j, y[j]? = some c → j = o) : ∀ (ps : List (List Nat)) (a j : Nat), (∀ p ∈ ps, c ∉ p) → (jl y ps)[j]? = some c → ∃ i ∈ pos y.length a ps, a + j = i + o
  | [], a, j, _, e => by simp [jl] at e
  | [p], a, j, hp, e => absurd (List.mem_of_getElem? e) (hp p List.mem_cons_self)
  | p :: q :: r, a, j, hp, e => by
    have e : (p ++ y ++ jl y (q :: r))[j]? = some c := e
    by_cases h1 : j < p.length
    · rw [List.append_assoc, List.getElem?_append_left h1] at e
      exact absurd (List.mem_of_getElem? e) (hp p List.mem_cons_self)
    · by_cases h2 : j < p.length + y.length
      · rw [List.append_assoc, List.getElem?_append_right (by omega), List.getElem?_append_left (by omega)] at e
        have := ho _ e
        exact ⟨a + p.length, List.mem_cons_self, by omega⟩
      · rw [List.getElem?_append_right (by rw [List.length_append]; omega), List.length_append] at e
        obtain ⟨i, hi, ei⟩ := c_at ho (q :: r) (a + p.length + y.length) _ (fun z hz => hp z (List.mem_cons_of_mem _ hz)) e
        exact ⟨i, List.mem_cons_of_mem _ hi, by omega⟩
theorem at_pos {y : List Nat} : ∀ (ps : List (List Nat)) (a i : Nat), i ∈ pos y.length a ps → a ≤ i ∧ i - a + y.length ≤ (jl y ps).length ∧ ((jl y ps).drop (i - a)).take y.length = y
  | [], _, _, h => nomatch h
  | [_], _, _, h => nomatch h
  | p :: q :: r, a, i, h => by
    show a ≤ i ∧ i - a + y.length ≤ (p ++ y ++ jl y (q :: r)).length ∧ ((p ++ y ++ jl y (q :: r)).drop (i - a)).take y.length = y
    rcases List.mem_cons.mp h with e | e
    · subst e
      rw [List.length_append, List.length_append, show a + p.length - a = p.length by omega]
      refine ⟨by omega, by omega, ?_⟩
      rw [List.append_assoc, List.drop_left, List.take_left]
    · obtain ⟨z1, z2, z3⟩ := at_pos (q :: r) (a + p.length + y.length) i e
      rw [List.length_append, List.length_append]
      refine ⟨by omega, by omega, ?_⟩
      rw [show i - a = (p ++ y).length + (i - (a + p.length + y.length)) by rw [List.length_append]; omega, ← List.drop_drop, List.drop_left]
      exact z3
theorem join_list (y : Str) : ∀ ps : List Str, (Str.join y ps).cps.toList = jl y.cps.toList (ps.map fun p => p.cps.toList)
  | [] => rfl
  | [p] => rfl
  | p :: q :: r => by
    show (p ++ y ++ Str.join y (q :: r)).cps.toList = p.cps.toList ++ y.cps.toList ++ jl y.cps.toList ((q :: r).map fun p => p.cps.toList)
    rw [← join_list y (q :: r)]
    simp [Str.cps_append]
theorem len_list (x : Str) : x.cps.toList.length = x.length := by simp [Str.length]
structure Sep (y : Str) (c o : Nat) : Prop where
  at' : y.cps.toList[o]? = some c
  one : ∀ j, y.cps.toList[j]? = some c → j = o
theorem Sep.pos {y : Str} {c o : Nat} (S : Sep y c o) : 1 ≤ y.length := by
  have := (List.getElem?_eq_some_iff.mp S.at').1
  rw [len_list] at this; omega
theorem at_iff {y : Str} {c o : Nat} (S : Sep y c o) (ps : List Str) (hp : ∀ p ∈ ps, c ∉ p.cps.toList) (i : Nat) : At (Str.join y ps) y (Str.join y ps).length i ↔ i ∈ pos y.length 0 (ps.map fun p => p.cps.toList) := by
  have hL := join_list y ps
  have hy := len_list y
  constructor
  · rintro ⟨h1, h2⟩
    rw [subAt_eq] at h2
    have h2 := eq_of_beq h2
    have hc : (jl y.cps.toList (ps.map fun p => p.cps.toList))[i + o]? = some c := by
      have z := S.at'
      rw [← h2, List.getElem?_take] at z
      split at z
      · rw [List.getElem?_drop] at z
        rw [← hL]; exact z
      · cases z
    obtain ⟨j, hj, e⟩ := c_at S.one (ps.map fun p => p.cps.toList) 0 (i + o) (fun q hq => by
      obtain ⟨p, h, rfl⟩ := List.mem_map.mp hq
      exact hp p h) hc
    have : i = j := by omega
    rw [this, ← hy]; exact hj
  · intro h
    rw [← hy] at h
    obtain ⟨z1, z2, z3⟩ := at_pos _ 0 i h
    rw [← hL] at z2 z3
    have hz := len_list (Str.join y ps)
    refine ⟨by omega, ?_⟩
    rw [subAt_eq, ← hy]
    simpa using z3
theorem occ_join {y : Str} {c o : Nat} (S : Sep y c o) (ps : List Str) (hp : ∀ p ∈ ps, c ∉ p.cps.toList) (limit : Nat) :
    occurrences (Str.join y ps) y 0 (Str.join y ps).length limit = (pos y.length 0 (ps.map fun p => p.cps.toList)).take limit :=
  occ_is _ _ _ _ S.pos (pos_gap _ _ _) (at_iff S ps hp)
theorem sub_list (x : Str) (l : List Nat) (i j : Nat) (h : (x.cps.toList.drop i).take (j - i) = l) : strSub x i j = ⟨l.toArray⟩ := by
  apply Str.ext'
  apply Array.toList_inj.mp
  rw [strSub_toList, h]
theorem parts_of {y : List Nat} (x : Str) : ∀ (ps : List (List Nat)) (a : Nat), ps ≠ [] → x.cps.toList.drop a = jl y ps → a ≤ x.length → partsFrom x y.length a (pos y.length a ps) = ps.map fun p => ⟨p.toArray⟩
  | [], _, h, _, _ => absurd rfl h
  | [p], a, _, e, ha => by
    show [strSub x a x.length] = [⟨p.toArray⟩]
    rw [sub_list x p a x.length (by
      rw [e]
      show p.take _ = p
      have := congrArg List.length e
      rw [List.length_drop, len_list] at this
      have e2 : (jl y [p]).length = p.length := rfl
      rw [e2] at this
      rw [this]; exact List.take_length)]
  | p :: q :: r, a, _, e, ha => by
    have e : x.cps.toList.drop a = p ++ y ++ jl y (q :: r) := e
    show strSub x a (a + p.length) :: partsFrom x y.length (a + p.length + y.length) (pos y.length (a + p.length + y.length) (q :: r)) = ⟨p.toArray⟩ :: ((q :: r).map fun p => ⟨p.toArray⟩)
    have l1 := congrArg List.length e
    rw [List.length_drop, len_list, List.length_append, List.length_append] at l1
    rw [sub_list x p a (a + p.length) (by rw [e, show a + p.length - a = p.length by omega, List.append_assoc, List.take_left])]
    rw [parts_of x (q :: r) (a + p.length + y.length) (by simp) (by
      rw [show a + p.length + y.length = a + (p ++ y).length by rw [List.length_append]; omega, ← List.drop_drop, e, List.drop_left]) (by omega)]
theorem back (ps : List Str) : (ps.map fun p => p.cps.toList).map (fun p => (⟨p.toArray⟩ : Str)) = ps := by
  rw [List.map_map]
  have : ∀ p : Str, ((fun p => (⟨p.toArray⟩ : Str)) ∘ fun p : Str => p.cps.toList) p = p := fun p => rfl
  rw [List.map_congr_left (fun p _ => this p), List.map_id']
theorem kind_pos (x : Str) : 1 ≤ Builtin.Str.strKind x := by unfold Builtin.Str.strKind; split <;> (try split) <;> decide
theorem pos_nil {n a : Nat} : ∀ {ps : List (List Nat)}, pos n a ps = [] → ps = [] ∨ ∃ p, ps = [p]
  | [], _ => .inl rfl
  | [p], _ => .inr ⟨p, rfl⟩
theorem split_join {y : Str} {c o : Nat} (S : Sep y c o) (hk : Builtin.Str.strKind y = 1) (ps : List Str) (h0 : ps ≠ []) (hp : ∀ p ∈ ps, c ∉ p.cps.toList) : Txt.split (Str.join y ps) y = ps := by
  have hP : occurrences (Str.join y ps) y 0 (Str.join y ps).length ((Str.join y ps).length + 1) = pos y.length 0 (ps.map fun p => p.cps.toList) := by
    have h1 := occ_join S ps hp ((Str.join y ps).length + 1)
    have h2 := occ_join S ps hp (((Str.join y ps).length + 1) + (pos y.length 0 (ps.map fun p => p.cps.toList)).length)
    rw [List.take_of_length_le (Nat.le_add_left _ _)] at h2
    have h3 := occ_length_le_len (Str.join y ps) y 0 (Str.join y ps).length (((Str.join y ps).length + 1) + (pos y.length 0 (ps.map fun p => p.cps.toList)).length)
    rw [h2] at h3
    rw [h1, List.take_of_length_le (by omega)]
  have one : pos y.length 0 (ps.map fun p => p.cps.toList) = [] → Str.join y ps = ps.headD Str.empty ∧ [ps.headD Str.empty] = ps := fun e => by
    rcases pos_nil e with z | ⟨p, z⟩
    · exact absurd (List.map_eq_nil_iff.mp z) h0
    · match ps, z with
      | [q], _ => exact ⟨rfl, rfl⟩
  unfold Txt.split
  by_cases hs : (decide ((Str.join y ps).length < y.length) || decide (Builtin.Str.strKind (Str.join y ps) < Builtin.Str.strKind y)) = true
  · rw [if_pos hs]
    have hlt : (Str.join y ps).length < y.length := by
      rw [hk] at hs
      have := kind_pos (Str.join y ps)
      rcases Bool.or_eq_true_iff.mp hs with z | z
      · exact of_decide_eq_true z
      · have := of_decide_eq_true z; omega
    have e : pos y.length 0 (ps.map fun p => p.cps.toList) = [] := by
      cases hq : pos y.length 0 (ps.map fun p => p.cps.toList) with
      | nil => rfl
      | cons i r =>
        have := ((at_iff S ps hp i).mpr (by rw [hq]; exact List.mem_cons_self)).1
        omega
    rw [(one e).1]; exact (one e).2
  · rw [if_neg hs, hP]
    by_cases he : (pos y.length 0 (ps.map fun p => p.cps.toList)).isEmpty = true
    · rw [if_pos he]
      have e := List.isEmpty_iff.mp he
      rw [(one e).1]; exact (one e).2
    · rw [if_neg he, partsBetween_eq]
      have z := parts_of (y := y.cps.toList) (Str.join y ps) (ps.map fun p => p.cps.toList) 0 (by simpa using h0) (by rw [List.drop_zero]; exact join_list y ps) (Nat.zero_le _)
      rw [len_list, back] at z
      exact z
end My

namespace My
open DL PySem
theorem forD_nx {tg : FG} {body : FS} {d : D} {ds : List D} {δ δ1 δ2 : DSt} (h1 : tg.run d δ = some δ1) (h2 : body δ1 = some (.nx δ2)) : forD tg body (d :: ds) δ = forD tg body ds δ2 := by
  show (tg.run d δ).bind _ = _
  rw [h1, Option.bind_some, h2, Option.bind_some]
theorem whileD_go {t : FT} {b : FS} {n : Nat} {δ δ1 δ2 : DSt} (h1 : t δ = some (true, δ1)) (h2 : b δ1 = some (.nx δ2)) : whileD t b (n + 1) δ = whileD t b n δ2 := by
  show (t δ).bind _ = _
  rw [h1, Option.bind_some]
  show (if true = true then (b δ1).bind _ else _) = _
  rw [if_pos rfl, h2, Option.bind_some]
theorem whileD_end {t : FT} {b : FS} {n : Nat} {δ δ1 : DSt} (h1 : t δ = some (false, δ1)) : whileD t b (n + 1) δ = some (.nx δ1) := by
  show (t δ).bind _ = _
  rw [h1, Option.bind_some]
  rfl
noncomputable abbrev S (l : List Nat) : Str := ⟨l.toArray⟩
theorem S_len (l : List Nat) : (S l).length = l.length := by show l.toArray.size = _; simp
theorem S_app (a b : List Nat) : S a ++ S b = S (a ++ b) := by
  show (⟨a.toArray ++ b.toArray⟩ : Str) = ⟨(a ++ b).toArray⟩
  simp
theorem S_inj {a b : List Nat} (h : S a = S b) : a = b := by
  have : a.toArray = b.toArray := congrArg Str.cps h
  simpa using this
theorem S_ne {a b : List Nat} (h : a ≠ b) : S a ≠ S b := fun e => h (S_inj e)
theorem S_of (x : Str) : x = S x.cps.toList := by cases x; simp
theorem S_list (l : List Nat) : (S l).cps.toList = l := by simp
theorem at_nat {α : Type} (p : List α) (i : Nat) (c : α) (h : p[i]? = some c) : L2.atI p (i : Int) = some c := by
  have hl := (List.getElem?_eq_some_iff.mp h).1
  unfold L2.atI L2.ixN
  rw [if_pos (by omega), if_pos (by omega)]
  simpa using h
section
variable {κ : Type} [DecidableEq κ]
end
end My

namespace My
open DL PySem
noncomputable abbrev nats (s n : Nat) : List D := (List.range' s n).map fun i : Nat => D.int (i : Int)
theorem ints_nats (n : Nat) : intsD 0 n = nats 0 n := by
  unfold intsD
  rw [List.range_eq_range']
  refine List.map_congr_left fun i _ => ?_
  simp
noncomputable def enumF (i : Nat) : List D → List D
  | [] => []
  | x :: r => .tup [.int (i : Int), x] :: enumF (i + 1) r
theorem comp_fm {src : List L2.BSrc} {k : Nat} {g : FG} {tt : FT} {te : FE} {st : List D → DSt} {f : D → Option D} : ∀ (ds ys : List D),
    (∀ d ∈ ds, ∀ (zs ds' : List D), zs.length < PySem.sizeLine → compD src k g tt te (d :: ds') (st zs) = compD src k g tt te ds' (st (zs ++ (f d).toList))) → ys.length + ds.length ≤ 16777216 →
    compD src k g tt te ds (st ys) = some (st (ys ++ ds.filterMap f))
  | [], ys, _, _ => by simp
  | d :: ds, ys, h, hl => by
    rw [List.length_cons] at hl
    rw [h d List.mem_cons_self ys ds (line_lt (by omega))]
    have hz : (f d).toList.length ≤ 1 := by cases f d <;> simp
    rw [comp_fm ds (ys ++ (f d).toList) (fun x hx => h x (List.mem_cons_of_mem _ hx)) (by rw [List.length_append]; omega), List.append_assoc]
    congr 3
    cases hd : f d with
    | none => rw [List.filterMap_cons_none hd]; rfl
    | some v => rw [List.filterMap_cons_some hd]; rfl
theorem comp_ex {src : List L2.BSrc} {k : Nat} {g : FG} {tt : FT} {te : FE} {st : List D → DSt} {R : D → Prop} : ∀ (ds ys : List D),
    (∀ d ∈ ds, ∀ (zs ds' : List D), zs.length < PySem.sizeLine → ∃ v, R v ∧ compD src k g tt te (d :: ds') (st zs) = compD src k g tt te ds' (st (zs ++ [v]))) → ys.length + ds.length ≤ 16777216 →
    ∃ vs, compD src k g tt te ds (st ys) = some (st (ys ++ vs)) ∧ (∀ v ∈ vs, R v) ∧ vs.length = ds.length
  | [], ys, _, _ => ⟨[], by simp, (fun _ h => nomatch h), rfl⟩
  | d :: ds, ys, h, hl => by
    rw [List.length_cons] at hl
    obtain ⟨v, hv, e⟩ := h d List.mem_cons_self ys ds (line_lt (by omega))
    obtain ⟨vs, e2, h2, h3⟩ := comp_ex ds (ys ++ [v]) (fun x hx => h x (List.mem_cons_of_mem _ hx)) (by rw [List.length_append, List.length_singleton]; omega)
    refine ⟨v :: vs, by rw [e, e2]; simp, fun x hx => ?_, by simp [h3]⟩
    rcases List.mem_cons.mp hx with hx | hx
    · rw [hx]; exact hv
    · exact h2 x hx
theorem strs_of {P : Str → Prop} : ∀ (vs : List D), (∀ v ∈ vs, ∃ s, v = .str s ∧ P s) → ∃ ts : List Str, vs = ts.map D.str ∧ ∀ t ∈ ts, P t
  | [], _ => ⟨[], rfl, (fun _ h => nomatch h)⟩
  | v :: vs, h => by
    obtain ⟨s, e, hs⟩ := h v List.mem_cons_self
    obtain ⟨ts, e2, h2⟩ := strs_of vs fun x hx => h x (List.mem_cons_of_mem _ hx)
    refine ⟨s :: ts, by rw [e, e2]; rfl, fun t ht => ?_⟩
    rcases List.mem_cons.mp ht with ht | ht
    · rw [ht]; exact hs
    · exact h2 t ht
theorem at_mod {α : Type} (l : List α) (x n : Int) (hl : (l.length : Int) = n) (hn : 0 < n) : ∃ c, c ∈ l ∧ L2.atI l (x % n) = some c := by
  have h0 : 0 ≤ x % n := Int.emod_nonneg _ (by omega)
  have h1 : x % n < n := Int.emod_lt_of_pos _ hn
  obtain ⟨j, hj⟩ := Int.eq_ofNat_of_zero_le h0
  have hjl : j < l.length := by omega
  rw [hj]
  exact ⟨l[j], List.getElem_mem hjl, at_nat _ _ _ (List.getElem?_eq_getElem hjl)⟩
end My

namespace My
open DL PySem StrLaws Builtin.Str
theorem sep_one (c : Nat) : Sep (S [c]) c 0 := ⟨by simp, fun j h => by
  cases j with
  | zero => rfl
  | succ j => simp at h⟩
end My

namespace My
open DL PySem StrLaws Builtin.Str
theorem occ_gr (s sub : Str) (hi limit : Nat) (hn : 1 ≤ sub.length) : ∀ (m a : Nat) (found : Array Nat) (free : Nat) (P : List Nat), gap sub.length free P → (∀ i ∈ P, a ≤ i ∧ i < a + m) → (∀ i ∈ P, At s sub hi i) →
    (∀ i, a ≤ i → free ≤ i → At s sub hi i → (i ∈ P ∨ ∃ p ∈ P, p < i ∧ i < p + sub.length)) →
    (forIn (List.range' a m) (found, free) (occBody s sub hi limit)).run.fst.toList = found.toList ++ P.take (limit - found.size)
  | 0, a, found, free, P, g, hb, hA, hm => by
    have : P = [] := by
      cases P with
      | nil => rfl
      | cons p r => have := hb p List.mem_cons_self; omega
    subst this
    simp
  | m + 1, a, found, free, P, g, hb, hA, hm => by
    rw [List.range'_succ, List.forIn_cons]
    unfold occBody
    by_cases hl : found.size < limit
    · by_cases ha : a ∈ P
      · have h1 := gap_le g a ha
        obtain ⟨h2, h3⟩ := hA a ha
        rw [if_pos ⟨⟨⟨hl, h1⟩, h2⟩, h3⟩]
        obtain ⟨P', rfl⟩ : ∃ P', P = a :: P' := by
          cases P with
          | nil => cases ha
          | cons p r =>
            rcases List.mem_cons.mp ha with e | e
            · exact ⟨r, by rw [e]⟩
            · have := gap_le g.2 a e
              have := (hb p List.mem_cons_self).1
              omega
        have ih := occ_gr s sub hi limit hn m (a + 1) (found.push a) (a + sub.length) P' g.2 (fun i hi' => by
            have z1 := gap_le g.2 i hi'
            have z2 := (hb i (List.mem_cons_of_mem _ hi')).2
            omega) (fun i hi' => hA i (List.mem_cons_of_mem _ hi')) (fun i hi' hf z => by
            rcases hm i (by omega) (by omega) z with e | ⟨p, hp, e⟩
            · rcases List.mem_cons.mp e with e | e
              · omega
              · exact .inl e
            · rcases List.mem_cons.mp hp with e1 | e1
              · omega
              · exact .inr ⟨p, e1, e⟩)
        refine Eq.trans ih ?_
        rw [Array.toList_push, Array.size_push, show limit - found.size = (limit - (found.size + 1)) + 1 by omega, List.take_succ_cons, List.append_assoc]
        rfl
      · rw [if_neg fun z => by
          rcases hm a (Nat.le_refl _) z.1.1.2 ⟨z.1.2, z.2⟩ with e | ⟨p, hp, e⟩
          · exact ha e
          · have := (hb p hp).1; omega]
        refine occ_gr s sub hi limit hn m (a + 1) found free P g (fun i hi' => ?_) hA (fun i hi' => hm i (by omega))
        have z := hb i hi'
        have : i ≠ a := fun e => ha (by rw [← e]; exact hi')
        omega
    · rw [if_neg fun z => hl z.1.1.1]
      have e0 : limit - found.size = 0 := by omega
      have ih : ∀ (l : List Nat) (st : Array Nat × Nat), ¬ st.fst.size < limit → (forIn l st (occBody s sub hi limit)).run.fst = st.fst := by
        intro l
        induction l with
        | nil => intro st _; rfl
        | cons x l ih =>
          intro st hst
          rw [List.forIn_cons]
          unfold occBody
          rw [if_neg fun z => hst z.1.1.1]
          exact ih _ hst
      have := ih (List.range' (a + 1) m) (found, free) hl
      refine Eq.trans (congrArg Array.toList this) ?_
      rw [e0]; simp
noncomputable def stands (y l : List Nat) (i : Nat) : Prop := i + y.length ≤ l.length ∧ (l.drop i).take y.length = y
noncomputable def Fits (y : List Nat) : List (List Nat) → Prop
  | [] => False
  | [p] => ∀ i, ¬ stands y p i
  | p :: q :: r => (∀ i, i < p.length → ¬ stands y (p ++ y ++ jl y (q :: r)) i) ∧ Fits y (q :: r)
theorem at_stands (x y : Str) (i : Nat) : At x y x.length i ↔ stands y.cps.toList x.cps.toList i := by
  unfold At stands
  rw [subAt_eq, len_list, len_list]
  constructor
  · rintro ⟨h1, h2⟩; exact ⟨h1, eq_of_beq h2⟩
  · rintro ⟨h1, h2⟩; exact ⟨h1, by rw [h2]; exact beq_self_eq_true _⟩
theorem fits_at {y : List Nat} : ∀ (ps : List (List Nat)) (a i : Nat), Fits y ps → a ≤ i → stands y (jl y ps) (i - a) → (i ∈ pos y.length a ps ∨ ∃ p ∈ pos y.length a ps, p < i ∧ i < p + y.length)
  | [], _, _, h, _, _ => h.elim
  | [p], a, i, h, _, s => (h _ s).elim
  | p :: q :: r, a, i, h, ha, s => by
    have s : stands y (p ++ y ++ jl y (q :: r)) (i - a) := s
    show i ∈ (a + p.length) :: pos y.length (a + p.length + y.length) (q :: r) ∨ _
    by_cases h1 : i - a < p.length
    · exact (h.1 _ h1 s).elim
    by_cases h2 : i = a + p.length
    · exact .inl (by rw [h2]; exact List.mem_cons_self)
    by_cases h3 : i < a + p.length + y.length
    · exact .inr ⟨a + p.length, List.mem_cons_self, by omega, h3⟩
    · have e : i - a = (p ++ y).length + (i - (a + p.length + y.length)) := by rw [List.length_append]; omega
      obtain ⟨s1, s2⟩ := s
      rw [e, ← List.drop_drop, List.drop_left] at s2
      rw [List.length_append] at s1
      have := fits_at (q :: r) (a + p.length + y.length) i h.2 (by omega) ⟨by rw [e, List.length_append] at s1; omega, s2⟩
      rcases this with z | ⟨p', hp, z⟩
      · exact .inl (List.mem_cons_of_mem _ z)
      · exact .inr ⟨p', List.mem_cons_of_mem _ hp, z⟩
theorem occ_fits (x y : Str) (hn : 1 ≤ y.length) (ps : List (List Nat)) (h : Fits y.cps.toList ps) (e : x.cps.toList = jl y.cps.toList ps) (limit : Nat) :
    occurrences x y 0 x.length limit = (pos y.length 0 ps).take limit := by
  rw [occ_eq]
  have hA : ∀ i ∈ pos y.length 0 ps, At x y x.length i := fun i hi => by
    rw [at_stands, e]
    rw [← len_list y] at hi
    have := at_pos ps 0 i hi
    exact ⟨by simpa using this.2.1, by simpa using this.2.2⟩
  have := occ_gr x y x.length limit hn (x.length + 1 - 0) 0 #[] 0 (pos y.length 0 ps) (pos_gap _ _ _) (fun i hi => by
    have := (hA i hi).1
    omega) hA (fun i _ _ z => by
    rw [at_stands, e] at z
    have := fits_at ps 0 i h (Nat.zero_le _) (by simpa using z)
    rwa [len_list] at this)
  simpa using this
theorem split_fits (x y : Str) (hn : 1 ≤ y.length) (hk : Builtin.Str.strKind y = 1) (ps : List (List Nat)) (h : Fits y.cps.toList ps) (e : x.cps.toList = jl y.cps.toList ps) : Txt.split x y = ps.map S := by
  have hP : occurrences x y 0 x.length (x.length + 1) = pos y.length 0 ps := by
    have h1 := occ_fits x y hn ps h e (x.length + 1)
    have h2 := occ_fits x y hn ps h e ((x.length + 1) + (pos y.length 0 ps).length)
    rw [List.take_of_length_le (Nat.le_add_left _ _)] at h2
    have h3 := occ_length_le_len x y 0 x.length ((x.length + 1) + (pos y.length 0 ps).length)
    rw [h2] at h3
    rw [h1, List.take_of_length_le (by omega)]
  have h0 : ps ≠ [] := fun z => by rw [z] at h; exact h
  have one : pos y.length 0 ps = [] → [x] = ps.map S := fun z => by
    rcases pos_nil z with z | ⟨p, z⟩
    · exact absurd z h0
    · rw [z] at e ⊢
      rw [S_of x, e]; rfl
  unfold Txt.split
  by_cases hs : (decide (x.length < y.length) || decide (Builtin.Str.strKind x < Builtin.Str.strKind y)) = true
  · rw [if_pos hs]
    have hlt : x.length < y.length := by
      rw [hk] at hs
      have := kind_pos x
      rcases Bool.or_eq_true_iff.mp hs with z | z
      · exact of_decide_eq_true z
      · have := of_decide_eq_true z; omega
    refine one ?_
    cases hq : pos y.length 0 ps with
    | nil => rfl
    | cons i r =>
      have hi : i ∈ pos y.length 0 ps := by rw [hq]; exact List.mem_cons_self
      rw [← len_list y] at hi
      have := (at_pos ps 0 i hi).2.1
      rw [← e, len_list, len_list] at this
      omega
  · rw [if_neg hs, hP]
    by_cases he : (pos y.length 0 ps).isEmpty = true
    · rw [if_pos he]
      exact one (List.isEmpty_iff.mp he)
    · rw [if_neg he, partsBetween_eq]
      have z := parts_of (y := y.cps.toList) x ps 0 h0 (by rw [List.drop_zero]; exact e) (Nat.zero_le _)
      rw [len_list] at z
      exact z
theorem jl_cons2 (y p : List Nat) (q : List Nat) (r : List (List Nat)) : jl y (p :: q :: r) = p ++ y ++ jl y (q :: r) := rfl
theorem fits_cons {y : List Nat} {c : Nat} {y' : List Nat} (ey : y = c :: y') (p : List Nat) (hp : c ∉ p) (q : List Nat) (r : List (List Nat)) (h : Fits y (q :: r)) : Fits y (p :: q :: r) := by
  refine ⟨fun i hi s => ?_, h⟩
  have z := congrArg List.head? s.2
  rw [ey, List.head?_cons] at z
  rw [← ey, List.append_assoc, List.head?_take, List.head?_drop, List.getElem?_append_left hi] at z
  rw [if_neg (by rw [ey]; simp)] at z
  exact hp (List.mem_of_getElem? z)
theorem fits_one {y : List Nat} {c : Nat} (hc : c ∈ y) (p : List Nat) (hp : c ∉ p) : Fits y [p] := fun i s => by
  have : c ∈ (p.drop i).take y.length := by rw [s.2]; exact hc
  exact hp (List.mem_of_mem_drop (List.mem_of_mem_take this))
theorem fits_words {c : Nat} : ∀ ps : List (List Nat), ps ≠ [] → (∀ p ∈ ps, c ∉ p) → Fits [c] ps
  | [], h, _ => (h rfl).elim
  | [p], _, h => fits_one (c := c) (by simp) p (h p List.mem_cons_self)
  | p :: q :: r, _, h => fits_cons (c := c) rfl p (h p List.mem_cons_self) q r (fits_words (q :: r) (by simp) fun x hx => h x (List.mem_cons_of_mem _ hx))
end My

noncomputable section
namespace Gen
open PySem PySem.Spec PyProof.Rows L2 DL
noncomputable def top (i : Nat) : Stmt := PySem.Challenge.pw_citeward_k13_one_piece.main.body.getD i (.Pass ⟨0, 0, 0, 0⟩)
noncomputable abbrev FUEL : Nat := 1000
noncomputable abbrev st_law_numbers : Stmt := top 28
noncomputable abbrev st_law_name : Stmt := top 29
noncomputable abbrev st_law_signs : Stmt := top 30
noncomputable abbrev st_law_piece : Stmt := top 31
noncomputable abbrev st_signs_end : Stmt := top 19
noncomputable abbrev st_cut_end : Stmt := top 18
noncomputable abbrev st_cuts_of : Stmt := top 17
noncomputable abbrev st_begin_group : Stmt := top 20
noncomputable abbrev st_end_group : Stmt := top 21
noncomputable abbrev st_is_all_of : Stmt := top 7
noncomputable abbrev st_is_text_of : Stmt := top 8
noncomputable abbrev st_is_name : Stmt := top 9
noncomputable abbrev st_check_name : Stmt := top 24
noncomputable abbrev st_read_hands_piece : Stmt := top 23
noncomputable abbrev st_read_piece : Stmt := top 22
noncomputable abbrev st_read_template : Stmt := top 16
noncomputable abbrev st_show_piece : Stmt := top 26
noncomputable abbrev st_show_template : Stmt := top 25
noncomputable abbrev st_law_alike : Stmt := top 32
noncomputable abbrev st_law : Stmt := top 33
noncomputable def b_law_numbers_1 : FS :=
  seqF (setF 3 (binF modD (binF mulZ (binF addD (binF addD (nameF 3) (nameF 4)) (constF (.int 1))) (constF (.int 48271))) (constF (.int 2147483647)))) (appF 2 (nameF 3))
noncomputable def f_law_numbers : FS :=
  seqF (setF 2 (lstF (dispNil))) (seqF (setF 3 (binF modD (nameF 0) (constF (.int 2147483647)))) (seqF (forF (rngI (argCons (nameF 1) argNil)) (gNameF 4) b_law_numbers_1) (retF (nameF 2))))
noncomputable def g_law_numbers : List D → Option SV := outOf f_law_numbers 5
noncomputable def e_law_name_1 : FE :=
  binF ixD (nameF 1) (binF modD (binF ixD (nameF 2) (nameF 0)) (constF (.int 26)))
noncomputable def f_law_name : FS :=
  seqF (setF 1 (constF (.str "abcdefghijklmnopqrstuvwxyz"))) (seqF (setF 2 (callF 2 g_law_numbers (argCons (nameF 0) (argCons (constF (.int 9)) (argNil))))) (seqF (setF 3 (bmF "str" joinXD (constF (.str "")) (argCons (compF [.own, .cap 1, .cap 2, .acc] 3 (rngI (argCons (binF addD (constF (.int 1)) (binF modD (binF ixD (nameF 2) (constF (.int 8))) (constF (.int 8)))) argNil)) (gNameF 0) (trueT) e_law_name_1) argNil))) (seqF (ifS (testF (binF eqX (nameF 3) (constF (.str "note")))) (retF (constF (.str "notes"))) (nextF)) (retF (nameF 3)))))
noncomputable def g_law_name : List D → Option SV := outOf f_law_name 4
noncomputable def e_law_signs_1 : FE :=
  binF ixD (nameF 1) (binF modD (nameF 0) (primF lenD (argCons (nameF 1) argNil)))
noncomputable def f_law_signs : FS :=
  seqF (setF 1 (constF (.str "ABCDEFGHIJKLMNOPQRSTUVWXYZabcdefghijklmnopqrstuvwxyz0123456789 .,!?'-/()&+*=:;"))) (retF (bmF "str" joinXD (constF (.str "")) (argCons (compF [.own, .cap 1, .acc] 2 (anyI (callF 2 g_law_numbers (argCons (nameF 0) (argCons (binF addD (constF (.int 1)) (binF modD (nameF 0) (constF (.int 30)))) (argNil))))) (gNameF 0) (trueT) e_law_signs_1) argNil)))
noncomputable def g_law_signs : List D → Option SV := outOf f_law_signs 2
noncomputable def e_law_piece_1 : FE :=
  callF 1 g_law_name (argCons (binF addD (nameF 1) (binF mulZ (constF (.int 7919)) (nameF 0))) (argNil))
noncomputable def b_law_piece_2 : FS :=
  seqF (setF 5 (tupF (dispCons (constF (.str "group")) (dispCons (tupF (dispCons (nameF 5) (dispNil))) (dispNil))))) (setF 6 (binF addD (binF addD (constF (.str "[")) (nameF 6)) (constF (.str "]"))))
noncomputable def f_law_piece : FS :=
  seqF (setF 1 (binF fdivD (nameF 0) (constF (.int 6)))) (seqF (ifS (testF (binF ltD (binF modD (nameF 0) (constF (.int 6))) (constF (.int 2)))) (retF (tupF (dispCons (tupF (dispCons (constF (.str "signs")) (dispCons (callF 1 g_law_signs (argCons (nameF 1) (argNil))) (dispNil)))) (dispCons (callF 1 g_law_signs (argCons (nameF 1) (argNil))) (dispNil))))) (nextF)) (seqF (ifS (testF (binF eqX (binF modD (nameF 0) (constF (.int 6))) (constF (.int 2)))) (seqF (setF 2 (compF [.own, .cap 1, .acc] 2 (rngI (argCons (binF addD (constF (.int 1)) (binF modD (nameF 1) (constF (.int 4)))) argNil)) (gNameF 0) (trueT) e_law_piece_1)) (retF (tupF (dispCons (tupF (dispCons (constF (.str "field")) (dispCons (primF tupleD (argCons (nameF 2) argNil)) (dispNil)))) (dispCons (binF addD (binF addD (constF (.str "{")) (bmF "str" joinXD (constF (.str "|")) (argCons (nameF 2) argNil))) (constF (.str "}"))) (dispNil)))))) (nextF)) (seqF (ifS (testF (binF eqX (binF modD (nameF 0) (constF (.int 6))) (constF (.int 3)))) (seqF (setF 3 (callF 1 g_law_name (argCons (nameF 1) (argNil)))) (seqF (setF 4 (binF addD (binF addD (binF addD (binF addD (nameF 3) (constF (.str " "))) (primF strD (argCons (binF addD (constF (.int 1)) (binF modD (nameF 1) (constF (.int 9)))) argNil))) (constF (.str " "))) (primF strD (argCons (binF modD (binF fdivD (nameF 1) (constF (.int 9))) (constF (.int 3))) argNil)))) (retF (tupF (dispCons (tupF (dispCons (constF (.str "hands")) (dispCons (nameF 3) (dispCons (binF addD (constF (.int 1)) (binF modD (nameF 1) (constF (.int 9)))) (dispCons (binF modD (binF fdivD (nameF 1) (constF (.int 9))) (constF (.int 3))) (dispNil)))))) (dispCons (binF addD (binF addD (constF (.str "{")) (nameF 4)) (constF (.str "}"))) (dispNil))))))) (nextF)) (seqF (setF 5 (tupF (dispCons (constF (.str "field")) (dispCons (tupF (dispCons (callF 1 g_law_name (argCons (nameF 1) (argNil))) (dispNil))) (dispNil))))) (seqF (setF 6 (binF addD (binF addD (constF (.str "{")) (callF 1 g_law_name (argCons (nameF 1) (argNil)))) (constF (.str "}")))) (seqF (ifS (testF (binF eqX (binF modD (nameF 1) (constF (.int 2))) (constF (.int 1)))) (seqF (setF 5 (tupF (dispCons (constF (.str "signs")) (dispCons (callF 1 g_law_signs (argCons (nameF 1) (argNil))) (dispNil))))) (setF 6 (callF 1 g_law_signs (argCons (nameF 1) (argNil))))) (nextF)) (seqF (forF (rngI (argCons (binF addD (constF (.int 1)) (binF modD (binF fdivD (nameF 1) (constF (.int 2))) (constF (.int 3)))) argNil)) (gNameF 7) b_law_piece_2) (retF (tupF (dispCons (nameF 5) (dispCons (nameF 6) (dispNil))))))))))))
noncomputable def g_law_piece : List D → Option SV := outOf f_law_piece 8
noncomputable def t_signs_end_1 : FT :=
  andF (testF (binF ltD (nameF 2) (primF lenD (argCons (nameF 0) argNil)))) (testF (binF inW (binF ixD (nameF 0) (nameF 2)) (constF (.str "ABCDEFGHIJKLMNOPQRSTUVWXYZabcdefghijklmnopqrstuvwxyz0123456789 .,!?'-/()&+*=:;"))))
noncomputable def b_signs_end_2 : FS :=
  augF 2 1
noncomputable def f_signs_end : FS :=
  seqF (setF 2 (nameF 1)) (seqF (whileD t_signs_end_1 b_signs_end_2 FUEL) (retF (nameF 2)))
noncomputable def g_signs_end : List D → Option SV := outOf f_signs_end 3
noncomputable def f_cut_end : FS :=
  seqF (ifS (testF (binF inW (binF ixD (nameF 0) (nameF 1)) (constF (.str "[]")))) (retF (binF addD (nameF 1) (constF (.int 1)))) (nextF)) (seqF (ifS (testF (binF eqX (binF ixD (nameF 0) (nameF 1)) (constF (.str "{")))) (setF 2 (binF addD (bmF "str" find3D (nameF 0) (argCons (constF (.str "}")) (argCons (nameF 1) argNil))) (constF (.int 1)))) (setF 2 (callF 2 g_signs_end (argCons (nameF 0) (argCons (nameF 1) (argNil)))))) (seqF (ifS (testF (binF leD (nameF 2) (nameF 1))) (stuckF) (nextF)) (retF (nameF 2))))
noncomputable def g_cut_end : List D → Option SV := outOf f_cut_end 3
noncomputable def t_cuts_of_1 : FT :=
  testF (binF ltD (nameF 2) (primF lenD (argCons (nameF 0) argNil)))
noncomputable def b_cuts_of_2 : FS :=
  seqF (setF 3 (callF 2 g_cut_end (argCons (nameF 0) (argCons (nameF 2) (argNil))))) (seqF (appF 1 (slF slD (nameF 0) (partF (nameF 2)) (partF (nameF 3)))) (setF 2 (nameF 3)))
noncomputable def f_cuts_of : FS :=
  seqF (setF 1 (lstF (dispNil))) (seqF (setF 2 (constF (.int 0))) (seqF (whileD t_cuts_of_1 b_cuts_of_2 FUEL) (retF (nameF 1))))
noncomputable def g_cuts_of : List D → Option SV := outOf f_cuts_of 4
noncomputable def f_begin_group : FS :=
  seqF (ifS (testF (binF gtD (lenLF 0) (constF (.int 3)))) (stuckF) (nextF)) (appLF 0)
noncomputable def m_begin_group : Addr → List (List D) → Option (List (List D)) := outM f_begin_group 1
noncomputable def f_end_group : FS :=
  seqF (ifS (testF (binF eqX (lenLF 0) (constF (.int 1)))) (stuckF) (nextF)) (seqF (popLF 1 0) (seqF (ifS (testF (binF eqX (primF lenD (argCons (nameF 1) argNil)) (constF (.int 0)))) (stuckF) (nextF)) (lastAppF 0 (tupF (dispCons (constF (.str "group")) (dispCons (primF tupleD (argCons (nameF 1) argNil)) (dispNil)))))))
noncomputable def m_end_group : Addr → List (List D) → Option (List (List D)) := outM f_end_group 2
noncomputable def e_is_all_of_1 : FE :=
  binF inW (nameF 0) (nameF 1)
noncomputable def f_is_all_of : FS :=
  retF (primF allD (argCons (compF [.own, .cap 1, .acc] 2 (anyI (nameF 0)) (gNameF 0) (trueT) e_is_all_of_1) argNil))
noncomputable def g_is_all_of : List D → Option SV := outOf f_is_all_of 2
noncomputable def f_is_text_of : FS :=
  seqF (ifS (notF (testF (unF (isiD "str") (nameF 0)))) (retF (constF (.bl false))) (nextF)) (retF (andV (chainF leD leD (constF (.int 1)) (primF lenD (argCons (nameF 0) argNil)) (nameF 2)) (callF 2 g_is_all_of (argCons (nameF 0) (argCons (nameF 1) (argNil))))))
noncomputable def g_is_text_of : List D → Option SV := outOf f_is_text_of 3
noncomputable def f_is_name : FS :=
  retF (callF 3 g_is_text_of (argCons (nameF 0) (argCons (constF (.str "abcdefghijklmnopqrstuvwxyz")) (argCons (constF (.int 8)) (argNil)))))
noncomputable def g_is_name : List D → Option SV := outOf f_is_name 1
noncomputable def f_check_name : FS :=
  ifS (orF (notF (testF (callF 1 g_is_name (argCons (nameF 0) (argNil))))) (testF (binF eqX (nameF 0) (constF (.str "note"))))) (stuckF) (nextF)
noncomputable def g_check_name : List D → Option SV := outOf f_check_name 1
noncomputable def f_read_hands_piece : FS :=
  seqF (dropF (callF 1 g_check_name (argCons (binF ixD (nameF 0) (constF (.int 0))) (argNil)))) (seqF (ifS (notF (testF (callF 3 g_is_text_of (argCons (binF ixD (nameF 0) (constF (.int 1))) (argCons (constF (.str "123456789")) (argCons (constF (.int 1)) (argNil))))))) (stuckF) (nextF)) (seqF (ifS (notF (testF (callF 3 g_is_text_of (argCons (binF ixD (nameF 0) (constF (.int 2))) (argCons (constF (.str "012")) (argCons (constF (.int 1)) (argNil))))))) (stuckF) (nextF)) (retF (tupF (dispCons (constF (.str "hands")) (dispCons (binF ixD (nameF 0) (constF (.int 0))) (dispCons (primF intTD (argCons (binF ixD (nameF 0) (constF (.int 1))) argNil)) (dispCons (primF intTD (argCons (binF ixD (nameF 0) (constF (.int 2))) argNil)) (dispNil)))))))))
noncomputable def g_read_hands_piece : List D → Option SV := outOf f_read_hands_piece 1
noncomputable def b_read_piece_1 : FS :=
  dropF (callF 1 g_check_name (argCons (nameF 3) (argNil)))
noncomputable def f_read_piece : FS :=
  seqF (ifS (testF (binF neX (binF ixD (nameF 0) (constF (.int 0))) (constF (.str "{")))) (retF (tupF (dispCons (constF (.str "signs")) (dispCons (nameF 0) (dispNil))))) (nextF)) (seqF (setF 1 (bmF "str" splitD (slF slD (nameF 0) (partF (constF (.int 1))) (partF (unF negD (constF (.int 1))))) (argCons (constF (.str " ")) argNil))) (seqF (ifS (testF (binF eqX (primF lenD (argCons (nameF 1) argNil)) (constF (.int 3)))) (retF (callF 1 g_read_hands_piece (argCons (nameF 1) (argNil)))) (nextF)) (seqF (setF 2 (primF tupleD (argCons (bmF "str" splitD (slF slD (nameF 0) (partF (constF (.int 1))) (partF (unF negD (constF (.int 1))))) (argCons (constF (.str "|")) argNil)) argNil))) (seqF (ifS (testF (binF gtD (primF lenD (argCons (nameF 2) argNil)) (constF (.int 4)))) (stuckF) (nextF)) (seqF (forF (anyI (nameF 2)) (gNameF 3) b_read_piece_1) (retF (tupF (dispCons (constF (.str "field")) (dispCons (nameF 2) (dispNil))))))))))
noncomputable def g_read_piece : List D → Option SV := outOf f_read_piece 4
noncomputable def b_read_template_1 : FS :=
  ifS (testF (binF eqX (nameF 3) (constF (.str "[")))) (mutF 2 m_begin_group) (ifS (testF (binF eqX (nameF 3) (constF (.str "]")))) (mutF 2 m_end_group) (lastAppF 2 (callF 1 g_read_piece (argCons (nameF 3) (argNil)))))
noncomputable def f_read_template : FS :=
  seqF (ifS (notF (testF (unF (isiD "str") (nameF 0)))) (stuckF) (nextF)) (seqF (setF 1 (callF 1 g_cuts_of (argCons (nameF 0) (argNil)))) (seqF (ifS (testF (binF gtD (binF subD (primF lenD (argCons (nameF 1) argNil)) (bmF "list" countD (nameF 1) (argCons (constF (.str "]")) argNil))) (constF (.int 30)))) (stuckF) (nextF)) (seqF (setF 2 (newLF)) (seqF (forF (anyI (nameF 1)) (gNameF 3) b_read_template_1) (seqF (ifS (testF (binF gtD (lenLF 2) (constF (.int 1)))) (stuckF) (nextF)) (retF (headTupF 2)))))))
noncomputable def g_read_template : List D → Option SV := outOf f_read_template 4
noncomputable def f_show_piece (r_show_template : List D → Option SV) : FS :=
  seqF (ifS (testF (binF eqX (binF ixD (nameF 0) (constF (.int 0))) (constF (.str "signs")))) (retF (binF ixD (nameF 0) (constF (.int 1)))) (nextF)) (seqF (ifS (testF (binF eqX (binF ixD (nameF 0) (constF (.int 0))) (constF (.str "field")))) (retF (binF addD (binF addD (constF (.str "{")) (bmF "str" joinXD (constF (.str "|")) (argCons (binF ixD (nameF 0) (constF (.int 1))) argNil))) (constF (.str "}")))) (nextF)) (seqF (ifS (testF (binF eqX (binF ixD (nameF 0) (constF (.int 0))) (constF (.str "hands")))) (retF (binF addD (binF addD (binF addD (binF addD (binF addD (binF addD (constF (.str "{")) (binF ixD (nameF 0) (constF (.int 1)))) (constF (.str " "))) (primF strD (argCons (binF ixD (nameF 0) (constF (.int 2))) argNil))) (constF (.str " "))) (primF strD (argCons (binF ixD (nameF 0) (constF (.int 3))) argNil))) (constF (.str "}")))) (nextF)) (retF (binF addD (binF addD (constF (.str "[")) (callF 1 r_show_template (argCons (binF ixD (nameF 0) (constF (.int 1))) (argNil)))) (constF (.str "]"))))))
noncomputable def q_show_piece (r_show_template : List D → Option SV) : List D → Option SV := outOf (f_show_piece r_show_template) 1
noncomputable def e_show_template_1 (r_show_template : List D → Option SV) : FE :=
  callF 1 (q_show_piece r_show_template) (argCons (nameF 0) (argNil))
noncomputable def f_show_template (r_show_template : List D → Option SV) : FS :=
  retF (bmF "str" joinXD (constF (.str "")) (argCons (compF [.own, .acc] 1 (anyI (nameF 0)) (gNameF 0) (trueT) (e_show_template_1 r_show_template)) argNil))
noncomputable def n_show_template : Nat → List D → Option SV
  | 0 => fun _ => none
  | n + 1 => outOf (f_show_template (n_show_template n)) 1
noncomputable def g_show_template : List D → Option SV := n_show_template 12
noncomputable def g_show_piece : List D → Option SV := q_show_piece g_show_template
noncomputable def e_law_alike_1 (r_law_alike : List D → Option SV) : FE :=
  callF 2 r_law_alike (argCons (binF ixD (nameF 1) (nameF 0)) (argCons (binF ixD (nameF 2) (nameF 0)) (argNil)))
noncomputable def f_law_alike (r_law_alike : List D → Option SV) : FS :=
  seqF (ifS (testF (unF (isiD "tuple") (nameF 1))) (seqF (ifS (orF (notF (testF (unF (isiD "tuple") (nameF 0)))) (testF (binF neX (primF lenD (argCons (nameF 0) argNil)) (primF lenD (argCons (nameF 1) argNil))))) (retF (constF (.bl false))) (nextF)) (retF (binF notinW (constF (.bl false)) (compF [.own, .cap 0, .cap 1, .acc] 3 (rngI (argCons (primF lenD (argCons (nameF 1) argNil)) argNil)) (gNameF 0) (trueT) (e_law_alike_1 r_law_alike))))) (nextF)) (seqF (ifS (testF (unF (isiD "str") (nameF 1))) (retF (andV (unF (isiD "str") (nameF 0)) (binF eqX (nameF 0) (nameF 1)))) (nextF)) (retF (andV (unF (isiD "int") (nameF 0)) (andV (notV (unF (isiD "bool") (nameF 0))) (binF eqX (nameF 0) (nameF 1))))))
noncomputable def n_law_alike : Nat → List D → Option SV
  | 0 => fun _ => none
  | n + 1 => outOf (f_law_alike (n_law_alike n)) 2
noncomputable def g_law_alike : List D → Option SV := n_law_alike 12
noncomputable def b_law_1 : FS :=
  seqF (unpackF (gTupF 2 (gConsF (gNameF 2) (gConsF (gNameF 3) (gNilF)))) (callF 1 g_law_piece (argCons (nameF 1) (argNil)))) (ifS (orF (notF (testF (callF 2 g_law_alike (argCons (callF 1 g_read_template (argCons (nameF 3) (argNil))) (argCons (tupF (dispCons (nameF 2) (dispNil))) (argNil)))))) (testF (binF neX (callF 1 g_show_template (argCons (tupF (dispCons (nameF 2) (dispNil))) (argNil))) (nameF 3)))) (retF (constF (.bl false))) (nextF))
noncomputable def f_law : FS :=
  seqF (ifS (orF (testF (binF neX (callF 1 g_read_template (argCons (constF (.str "")) (argNil))) (tupF (dispNil)))) (testF (binF neX (callF 1 g_show_template (argCons (tupF (dispNil)) (argNil))) (constF (.str ""))))) (retF (constF (.bl false))) (nextF)) (seqF (forF (anyI (slF slD (nameF 0) (noPart) (partF (constF (.int 40))))) (gNameF 1) b_law_1) (retF (constF (.bl true))))
noncomputable def g_law : List D → Option SV := outOf f_law 4
end Gen

namespace Gen
open PySem PySem.Spec PyProof.Rows L2 DL
structure Txt (K : PySem.W.Frag) (mg : Str → Option Value) (tMANY_FIGURES : Tok) (tMOST_DEEP : Tok) (tMOST_NAMES : Tok) (tMOST_PIECES : Tok) (tNAME_LENGTH : Tok) (tSMALL_LETTERS : Tok) (tSTYLE_SIGNS : Tok) (tWAY_FIGURES : Tok) (flaw_numbers flaw_name flaw_signs flaw_piece fsigns_end fcut_end fcuts_of fbegin_group fend_group fis_all_of fis_text_of fis_name fcheck_name fread_hands_piece fread_piece fread_template fshow_piece fshow_template flaw_alike flaw : Addr) : Prop where
  z_all : mg "all" = none
  z_bool : mg "bool" = none
  z_int : mg "int" = none
  z_isinstance : mg "isinstance" = none
  z_len : mg "len" = none
  z_range : mg "range" = none
  z_str : mg "str" = none
  z_tuple : mg "tuple" = none
  c_MANY_FIGURES : mg "MANY_FIGURES" = some (.str "123456789" tMANY_FIGURES)
  c_MOST_DEEP : mg "MOST_DEEP" = some (.int 3 tMOST_DEEP)
  c_MOST_NAMES : mg "MOST_NAMES" = some (.int 4 tMOST_NAMES)
  c_MOST_PIECES : mg "MOST_PIECES" = some (.int 30 tMOST_PIECES)
  c_NAME_LENGTH : mg "NAME_LENGTH" = some (.int 8 tNAME_LENGTH)
  c_SMALL_LETTERS : mg "SMALL_LETTERS" = some (.str "abcdefghijklmnopqrstuvwxyz" tSMALL_LETTERS)
  c_STYLE_SIGNS : mg "STYLE_SIGNS" = some (.str "ABCDEFGHIJKLMNOPQRSTUVWXYZabcdefghijklmnopqrstuvwxyz0123456789 .,!?'-/()&+*=:;" tSTYLE_SIGNS)
  c_WAY_FIGURES : mg "WAY_FIGURES" = some (.str "012" tWAY_FIGURES)
  m_law_numbers : mg "_law_numbers" = some (.ref flaw_numbers)
  k_law_numbers : PySem.W.keepIn K (.ref flaw_numbers) = true
  m_law_name : mg "_law_name" = some (.ref flaw_name)
  k_law_name : PySem.W.keepIn K (.ref flaw_name) = true
  m_law_signs : mg "_law_signs" = some (.ref flaw_signs)
  k_law_signs : PySem.W.keepIn K (.ref flaw_signs) = true
  m_law_piece : mg "_law_piece" = some (.ref flaw_piece)
  k_law_piece : PySem.W.keepIn K (.ref flaw_piece) = true
  m_signs_end : mg "signs_end" = some (.ref fsigns_end)
  k_signs_end : PySem.W.keepIn K (.ref fsigns_end) = true
  m_cut_end : mg "cut_end" = some (.ref fcut_end)
  k_cut_end : PySem.W.keepIn K (.ref fcut_end) = true
  m_cuts_of : mg "cuts_of" = some (.ref fcuts_of)
  k_cuts_of : PySem.W.keepIn K (.ref fcuts_of) = true
  m_begin_group : mg "begin_group" = some (.ref fbegin_group)
  k_begin_group : PySem.W.keepIn K (.ref fbegin_group) = true
  m_end_group : mg "end_group" = some (.ref fend_group)
  k_end_group : PySem.W.keepIn K (.ref fend_group) = true
  m_is_all_of : mg "is_all_of" = some (.ref fis_all_of)
  k_is_all_of : PySem.W.keepIn K (.ref fis_all_of) = true
  m_is_text_of : mg "is_text_of" = some (.ref fis_text_of)
  k_is_text_of : PySem.W.keepIn K (.ref fis_text_of) = true
  m_is_name : mg "is_name" = some (.ref fis_name)
  k_is_name : PySem.W.keepIn K (.ref fis_name) = true
  m_check_name : mg "check_name" = some (.ref fcheck_name)
  k_check_name : PySem.W.keepIn K (.ref fcheck_name) = true
  m_read_hands_piece : mg "read_hands_piece" = some (.ref fread_hands_piece)
  k_read_hands_piece : PySem.W.keepIn K (.ref fread_hands_piece) = true
  m_read_piece : mg "read_piece" = some (.ref fread_piece)
  k_read_piece : PySem.W.keepIn K (.ref fread_piece) = true
  m_read_template : mg "read_template" = some (.ref fread_template)
  k_read_template : PySem.W.keepIn K (.ref fread_template) = true
  m_show_piece : mg "show_piece" = some (.ref fshow_piece)
  k_show_piece : PySem.W.keepIn K (.ref fshow_piece) = true
  m_show_template : mg "show_template" = some (.ref fshow_template)
  k_show_template : PySem.W.keepIn K (.ref fshow_template) = true
  m_law_alike : mg "_law_alike" = some (.ref flaw_alike)
  k_law_alike : PySem.W.keepIn K (.ref flaw_alike) = true
  m_law : mg "law" = some (.ref flaw)
  k_law : PySem.W.keepIn K (.ref flaw) = true
section
variable {P : Program} {w : World} {K : PySem.W.Frag} {mg : Str → Option Value} {base : Heap} {tMANY_FIGURES : Tok} {tMOST_DEEP : Tok} {tMOST_NAMES : Tok} {tMOST_PIECES : Tok} {tNAME_LENGTH : Tok} {tSMALL_LETTERS : Tok} {tSTYLE_SIGNS : Tok} {tWAY_FIGURES : Tok} {flaw_numbers flaw_name flaw_signs flaw_piece fsigns_end fcut_end fcuts_of fbegin_group fend_group fis_all_of fis_text_of fis_name fcheck_name fread_hands_piece fread_piece fread_template fshow_piece fshow_template flaw_alike flaw : Addr}
theorem sc_law_numbers : FnScope ["_law_cell", "_law_many", "_law_found", "_law_number", "_law_k"] ["_law_cell", "_law_many"] (defScope st_law_numbers) := ⟨rfl, rfl, rfl, by decide +kernel, rfl, by decide +kernel, by decide +kernel⟩
theorem ok_law_numbers {fd : FuncData} (F : Fun K "_law_numbers" "_law_numbers" st_law_numbers flaw_numbers fd) (T : Txt K mg tMANY_FIGURES tMOST_DEEP tMOST_NAMES tMOST_PIECES tNAME_LENGTH tSMALL_LETTERS tSTYLE_SIGNS tWAY_FIGURES flaw_numbers flaw_name flaw_signs flaw_piece fsigns_end fcut_end fcuts_of fbegin_group fend_group fis_all_of fis_text_of fis_name fcheck_name fread_hands_piece fread_piece fread_template fshow_piece fshow_template flaw_alike flaw) :
    FnOk P w K mg base CX0 1 flaw_numbers fd ["_law_cell", "_law_many"] (spOf K 2 g_law_numbers) := by
  refine F.ok sc_law_numbers (fun vs H Q E h => spOf_len h) (fun cdv A outer s H vs Q E hr h => ?_)
  obtain ⟨F0, h⟩ := body_out (N := ["_law_cell", "_law_many", "_law_found", "_law_number", "_law_k"]) (f := f_law_numbers) h
  have hu := hu_of hr
  have hv := hr.units
  refine ⟨liftS (ent H F0 : Ent K) f_law_numbers, ?_, h⟩
  exact (@ss_cons _ _ _ _ _ _ (@s_set _ _ _ _ _ 2 _ _ sc_law_numbers.nd (@e_lst _ _ _ _ _ d_nil) (by rfl) (by first | exact Or.inl rfl | exact Or.inr rfl) (by rfl) (by first | exact .inl rfl | exact .inr rfl)) (@ss_cons _ _ _ _ _ _ (@s_set _ _ _ _ _ 3 _ _ sc_law_numbers.nd (@e_mod _ _ _ _ _ _ _ (e_var 0) e_int) (by rfl) (by first | exact Or.inl rfl | exact Or.inr rfl) (by rfl) (by first | exact .inl rfl | exact .inr rfl)) (@ss_cons _ _ _ _ _ _ (@s_for _ _ _ _ _ _ _ _ _ PassesOwn.never rfl (@i_rng _ _ _ _ _ _ _ T.z_range (e_var 1) (by rfl) (by rfl)) (@g_name _ _ _ 4 _ sc_law_numbers.nd (by rfl) (by first | exact Or.inl rfl | exact Or.inr rfl) (by first | exact .inl rfl | exact .inr rfl)) (@ss_cons _ _ _ _ _ _ (@s_set _ _ _ _ _ 3 _ _ sc_law_numbers.nd (@e_mod _ _ _ _ _ _ _ (@e_mulZ _ _ _ _ _ _ _ (@e_add _ _ _ _ _ _ _ (@e_add _ _ _ _ _ _ _ (e_var 3) (e_var 4)) e_int) e_int) e_int) (by rfl) (by first | exact Or.inl rfl | exact Or.inr rfl) (by rfl) (by first | exact .inl rfl | exact .inr rfl)) (@ss_one _ _ _ _ (@s_app _ _ _ _ _ 2 _ _ _ _ (e_var 3) (by rfl) (by first | exact Or.inl rfl | exact Or.inr (Or.inl rfl) | exact Or.inr (Or.inr rfl)) (by decide) (by decide) (by rfl) (by rfl) (by rfl) (by rfl) (by rfl) (by rfl)))) (by intro _; rfl)) (@ss_one _ _ _ _ (@s_ret _ _ _ _ _ (e_var 2))))))
theorem sc_law_name : FnScope ["_law_cell", "_law_letters", "_law_some", "_law_name_here"] ["_law_cell"] (defScope st_law_name) := ⟨rfl, rfl, rfl, by decide +kernel, rfl, by decide +kernel, by decide +kernel⟩
theorem ok_law_name {fd : FuncData} (F : Fun K "_law_name" "_law_name" st_law_name flaw_name fd) (T : Txt K mg tMANY_FIGURES tMOST_DEEP tMOST_NAMES tMOST_PIECES tNAME_LENGTH tSMALL_LETTERS tSTYLE_SIGNS tWAY_FIGURES flaw_numbers flaw_name flaw_signs flaw_piece fsigns_end fcut_end fcuts_of fbegin_group fend_group fis_all_of fis_text_of fis_name fcheck_name fread_hands_piece fread_piece fread_template fshow_piece fshow_template flaw_alike flaw) {fd_law_numbers : FuncData} (G_law_numbers : FnOk P w K mg base CX0 1 flaw_numbers fd_law_numbers ["_law_cell", "_law_many"] (spOf K 2 g_law_numbers)) (B_law_numbers : Binds K fd_law_numbers ["_law_cell", "_law_many"] []) :
    FnOk P w K mg base CX0 2 flaw_name fd ["_law_cell"] (spOf K 1 g_law_name) := by
  refine F.ok sc_law_name (fun vs H Q E h => spOf_len h) (fun cdv A outer s H vs Q E hr h => ?_)
  obtain ⟨F0, h⟩ := body_out (N := ["_law_cell", "_law_letters", "_law_some", "_law_name_here"]) (f := f_law_name) h
  have hu := hu_of hr
  have hv := hr.units
  refine ⟨liftS (ent H F0 : Ent K) f_law_name, ?_, h⟩
  exact (@ss_cons _ _ _ _ _ _ (@s_set _ _ _ _ _ 1 _ _ sc_law_name.nd e_str (by rfl) (by first | exact Or.inl rfl | exact Or.inr rfl) (by rfl) (by first | exact .inl rfl | exact .inr rfl)) (@ss_cons _ _ _ _ _ _ (@s_set _ _ _ _ _ 2 _ _ sc_law_name.nd (@e_call _ _ _ _ _ _ _ _ _ _ _ _ _ _ G_law_numbers (hr.mono (by decide)) T.m_law_numbers T.k_law_numbers B_law_numbers (@a_cons _ _ _ _ _ _ (e_var 0) (@a_cons _ _ _ _ _ _ e_int a_nil (by rfl)) (by rfl)) (by rfl) (by decide) (by rfl) (by rfl)) (by rfl) (by first | exact Or.inl rfl | exact Or.inr rfl) (by rfl) (by first | exact .inl rfl | exact .inr rfl)) (@ss_cons _ _ _ _ _ _ (@s_set _ _ _ _ _ 3 _ _ sc_law_name.nd (@e_joinX _ _ _ _ _ _ _ _ e_str (@e_comp _ _ _ _ _ _ _ _ _ _ _ _ _ _ _ rfl (compScope (N' := ["_law_k", "_law_letters", "_law_some", ".acc"]) (src := [.own, .cap 1, .cap 2, .acc]) (by rfl) (by rfl) (by rfl) (by rfl) (by rfl) (by rfl)) (srcOk 3 (by rfl) (by rfl)) (by decide) (@i_rng _ _ _ _ _ _ _ T.z_range (@e_add _ _ _ _ _ _ _ e_int (@e_mod _ _ _ _ _ _ _ (@e_ix _ _ _ _ _ _ _ hu (e_var 2) e_int (by intro _ _; rfl)) e_int)) (by rfl) (by rfl)) (fun _ _ _ _ => @xg _ _ _ (fun _ => (@g_name _ _ _ 0 _ (show (["_law_k", "_law_letters", "_law_some", ".acc"] : List Str).Nodup by decide +kernel) (by rfl) (by first | exact Or.inl rfl | exact Or.inr rfl) (by first | exact .inl rfl | exact .inr rfl)))) (fun _ _ _ _ => xt0) (fun _ _ _ _ => @xe _ _ _ (fun _ => (@e_ix _ _ _ _ _ _ _ hu (e_var 1) (@e_mod _ _ _ _ _ _ _ (@e_ix _ _ _ _ _ _ _ hu (e_var 2) (e_var 0) (by intro _ _; rfl)) e_int) (by intro _ _; rfl)))) (by intro _; rfl)) (by rfl) (by rfl) (by rfl) (by rfl) (by rfl)) (by rfl) (by first | exact Or.inl rfl | exact Or.inr rfl) (by rfl) (by first | exact .inl rfl | exact .inr rfl)) (@ss_cons _ _ _ _ _ _ (@s_if _ _ _ _ _ _ _ _ _ (@t_eqX _ _ _ _ _ _ _ hv (e_var 3) e_str) (@ss_one _ _ _ _ (@s_ret _ _ _ _ _ e_str)) ss_nil) (@ss_one _ _ _ _ (@s_ret _ _ _ _ _ (e_var 3)))))))
theorem sc_law_signs : FnScope ["_law_cell", "_law_some"] ["_law_cell"] (defScope st_law_signs) := ⟨rfl, rfl, rfl, by decide +kernel, rfl, by decide +kernel, by decide +kernel⟩
theorem ok_law_signs {fd : FuncData} (F : Fun K "_law_signs" "_law_signs" st_law_signs flaw_signs fd) (T : Txt K mg tMANY_FIGURES tMOST_DEEP tMOST_NAMES tMOST_PIECES tNAME_LENGTH tSMALL_LETTERS tSTYLE_SIGNS tWAY_FIGURES flaw_numbers flaw_name flaw_signs flaw_piece fsigns_end fcut_end fcuts_of fbegin_group fend_group fis_all_of fis_text_of fis_name fcheck_name fread_hands_piece fread_piece fread_template fshow_piece fshow_template flaw_alike flaw) {fd_law_numbers : FuncData} (G_law_numbers : FnOk P w K mg base CX0 1 flaw_numbers fd_law_numbers ["_law_cell", "_law_many"] (spOf K 2 g_law_numbers)) (B_law_numbers : Binds K fd_law_numbers ["_law_cell", "_law_many"] []) :
    FnOk P w K mg base CX0 2 flaw_signs fd ["_law_cell"] (spOf K 1 g_law_signs) := by
  refine F.ok sc_law_signs (fun vs H Q E h => spOf_len h) (fun cdv A outer s H vs Q E hr h => ?_)
  obtain ⟨F0, h⟩ := body_out (N := ["_law_cell", "_law_some"]) (f := f_law_signs) h
  have hu := hu_of hr
  have hv := hr.units
  refine ⟨liftS (ent H F0 : Ent K) f_law_signs, ?_, h⟩
  exact (@ss_cons _ _ _ _ _ _ (@s_set _ _ _ _ _ 1 _ _ sc_law_signs.nd e_str (by rfl) (by first | exact Or.inl rfl | exact Or.inr rfl) (by rfl) (by first | exact .inl rfl | exact .inr rfl)) (@ss_one _ _ _ _ (@s_ret _ _ _ _ _ (@e_joinX _ _ _ _ _ _ _ _ e_str (@e_comp _ _ _ _ _ _ _ _ _ _ _ _ _ _ _ rfl (compScope (N' := ["_law_number", "_law_some", ".acc"]) (src := [.own, .cap 1, .acc]) (by rfl) (by rfl) (by rfl) (by rfl) (by rfl) (by rfl)) (srcOk 2 (by rfl) (by rfl)) (by decide) (@i_any _ _ _ _ _ (@e_call _ _ _ _ _ _ _ _ _ _ _ _ _ _ G_law_numbers (hr.mono (by decide)) T.m_law_numbers T.k_law_numbers B_law_numbers (@a_cons _ _ _ _ _ _ (e_var 0) (@a_cons _ _ _ _ _ _ (@e_add _ _ _ _ _ _ _ e_int (@e_mod _ _ _ _ _ _ _ (e_var 0) e_int)) a_nil (by rfl)) (by rfl)) (by rfl) (by decide) (by rfl) (by rfl))) (fun _ _ _ _ => @xg _ _ _ (fun _ => (@g_name _ _ _ 0 _ (show (["_law_number", "_law_some", ".acc"] : List Str).Nodup by decide +kernel) (by rfl) (by first | exact Or.inl rfl | exact Or.inr rfl) (by first | exact .inl rfl | exact .inr rfl)))) (fun _ _ _ _ => xt0) (fun _ _ _ _ => @xe _ _ _ (fun _ => (@e_ix _ _ _ _ _ _ _ hu (e_var 1) (@e_mod _ _ _ _ _ _ _ (e_var 0) (@e_len _ _ _ _ _ _ T.z_len (e_var 1) (by rfl) (by rfl) (by rfl))) (by intro _ _; rfl)))) (by intro _; rfl)) (by rfl) (by rfl) (by rfl) (by rfl) (by rfl)))))
theorem sc_law_piece : FnScope ["_law_cell", "_law_rest", "_law_names", "_law_name_here", "_law_told", "_law_piece_here", "_law_text", "_law_k"] ["_law_cell"] (defScope st_law_piece) := ⟨rfl, rfl, rfl, by decide +kernel, rfl, by decide +kernel, by decide +kernel⟩
theorem ok_law_piece {fd : FuncData} (F : Fun K "_law_piece" "_law_piece" st_law_piece flaw_piece fd) (T : Txt K mg tMANY_FIGURES tMOST_DEEP tMOST_NAMES tMOST_PIECES tNAME_LENGTH tSMALL_LETTERS tSTYLE_SIGNS tWAY_FIGURES flaw_numbers flaw_name flaw_signs flaw_piece fsigns_end fcut_end fcuts_of fbegin_group fend_group fis_all_of fis_text_of fis_name fcheck_name fread_hands_piece fread_piece fread_template fshow_piece fshow_template flaw_alike flaw) {fd_law_name : FuncData} (G_law_name : FnOk P w K mg base CX0 2 flaw_name fd_law_name ["_law_cell"] (spOf K 1 g_law_name)) (B_law_name : Binds K fd_law_name ["_law_cell"] []) {fd_law_signs : FuncData} (G_law_signs : FnOk P w K mg base CX0 2 flaw_signs fd_law_signs ["_law_cell"] (spOf K 1 g_law_signs)) (B_law_signs : Binds K fd_law_signs ["_law_cell"] []) :
    FnOk P w K mg base CX0 3 flaw_piece fd ["_law_cell"] (spOf K 1 g_law_piece) := by
  refine F.ok sc_law_piece (fun vs H Q E h => spOf_len h) (fun cdv A outer s H vs Q E hr h => ?_)
  obtain ⟨F0, h⟩ := body_out (N := ["_law_cell", "_law_rest", "_law_names", "_law_name_here", "_law_told", "_law_piece_here", "_law_text", "_law_k"]) (f := f_law_piece) h
  have hu := hu_of hr
  have hv := hr.units
  refine ⟨liftS (ent H F0 : Ent K) f_law_piece, ?_, h⟩
  exact (@ss_cons _ _ _ _ _ _ (@s_set _ _ _ _ _ 1 _ _ sc_law_piece.nd (@e_fdiv _ _ _ _ _ _ _ (e_var 0) e_int) (by rfl) (by first | exact Or.inl rfl | exact Or.inr rfl) (by rfl) (by first | exact .inl rfl | exact .inr rfl)) (@ss_cons _ _ _ _ _ _ (@s_if _ _ _ _ _ _ _ _ _ (@t_lt _ _ _ _ _ _ _ (@e_mod _ _ _ _ _ _ _ (e_var 0) e_int) e_int) (@ss_one _ _ _ _ (@s_ret _ _ _ _ _ (@e_tup _ _ _ _ _ _ (@d_cons _ _ _ _ _ _ (@e_tup _ _ _ _ _ _ (@d_cons _ _ _ _ _ _ e_str (@d_cons _ _ _ _ _ _ (@e_call _ _ _ _ _ _ _ _ _ _ _ _ _ _ G_law_signs (hr.mono (by decide)) T.m_law_signs T.k_law_signs B_law_signs (@a_cons _ _ _ _ _ _ (e_var 1) a_nil (by rfl)) (by rfl) (by decide) (by rfl) (by rfl)) d_nil (by rfl)) (by rfl))) (@d_cons _ _ _ _ _ _ (@e_call _ _ _ _ _ _ _ _ _ _ _ _ _ _ G_law_signs (hr.mono (by decide)) T.m_law_signs T.k_law_signs B_law_signs (@a_cons _ _ _ _ _ _ (e_var 1) a_nil (by rfl)) (by rfl) (by decide) (by rfl) (by rfl)) d_nil (by rfl)) (by rfl))))) ss_nil) (@ss_cons _ _ _ _ _ _ (@s_if _ _ _ _ _ _ _ _ _ (@t_eqX _ _ _ _ _ _ _ hv (@e_mod _ _ _ _ _ _ _ (e_var 0) e_int) e_int) (@ss_cons _ _ _ _ _ _ (@s_setComp _ _ _ 2 _ _ _ _ _ _ _ _ _ _ _ _ _ _ _ rfl (compScope (N' := ["_law_k", "_law_rest", ".acc"]) (src := [.own, .cap 1, .acc]) (by rfl) (by rfl) (by rfl) (by rfl) (by rfl) (by rfl)) (srcOk 2 (by rfl) (by rfl)) (by decide) (@i_rng _ _ _ _ _ _ _ T.z_range (@e_add _ _ _ _ _ _ _ e_int (@e_mod _ _ _ _ _ _ _ (e_var 1) e_int)) (by rfl) (by rfl)) (fun _ _ _ _ => @xg _ _ _ (fun _ => (@g_name _ _ _ 0 _ (show (["_law_k", "_law_rest", ".acc"] : List Str).Nodup by decide +kernel) (by rfl) (by first | exact Or.inl rfl | exact Or.inr rfl) (by first | exact .inl rfl | exact .inr rfl)))) (fun _ _ _ _ => xt0) (fun _ _ _ _ => @xe _ _ _ (fun _ => (@e_call _ _ _ _ _ _ _ _ _ _ _ _ _ _ G_law_name (hr.mono (by decide)) T.m_law_name T.k_law_name B_law_name (@a_cons _ _ _ _ _ _ (@e_add _ _ _ _ _ _ _ (e_var 1) (@e_mulZ _ _ _ _ _ _ _ e_int (e_var 0))) a_nil (by rfl)) (by rfl) (by decide) (by rfl) (by rfl)))) sc_law_piece.nd (by rfl) (by rfl) (by rfl) (by intro _; rfl)) (@ss_one _ _ _ _ (@s_ret _ _ _ _ _ (@e_tup _ _ _ _ _ _ (@d_cons _ _ _ _ _ _ (@e_tup _ _ _ _ _ _ (@d_cons _ _ _ _ _ _ e_str (@d_cons _ _ _ _ _ _ (@e_tuple _ _ _ _ _ _ T.z_tuple (e_var 2) (by rfl) (by rfl) (by rfl)) d_nil (by rfl)) (by rfl))) (@d_cons _ _ _ _ _ _ (@e_add _ _ _ _ _ _ _ (@e_add _ _ _ _ _ _ _ e_str (@e_joinX _ _ _ _ _ _ _ _ e_str (e_var 2) (by rfl) (by rfl) (by rfl) (by rfl) (by rfl))) e_str) d_nil (by rfl)) (by rfl)))))) ss_nil) (@ss_cons _ _ _ _ _ _ (@s_if _ _ _ _ _ _ _ _ _ (@t_eqX _ _ _ _ _ _ _ hv (@e_mod _ _ _ _ _ _ _ (e_var 0) e_int) e_int) (@ss_cons _ _ _ _ _ _ (@s_set _ _ _ _ _ 3 _ _ sc_law_piece.nd (@e_call _ _ _ _ _ _ _ _ _ _ _ _ _ _ G_law_name (hr.mono (by decide)) T.m_law_name T.k_law_name B_law_name (@a_cons _ _ _ _ _ _ (e_var 1) a_nil (by rfl)) (by rfl) (by decide) (by rfl) (by rfl)) (by rfl) (by first | exact Or.inl rfl | exact Or.inr rfl) (by rfl) (by first | exact .inl rfl | exact .inr rfl)) (@ss_cons _ _ _ _ _ _ (@s_set _ _ _ _ _ 4 _ _ sc_law_piece.nd (@e_add _ _ _ _ _ _ _ (@e_add _ _ _ _ _ _ _ (@e_add _ _ _ _ _ _ _ (@e_add _ _ _ _ _ _ _ (e_var 3) e_str) (@e_strC _ _ _ _ _ _ T.z_str (@e_add _ _ _ _ _ _ _ e_int (@e_mod _ _ _ _ _ _ _ (e_var 1) e_int)) (by rfl) (by rfl) (by rfl))) e_str) (@e_strC _ _ _ _ _ _ T.z_str (@e_mod _ _ _ _ _ _ _ (@e_fdiv _ _ _ _ _ _ _ (e_var 1) e_int) e_int) (by rfl) (by rfl) (by rfl))) (by rfl) (by first | exact Or.inl rfl | exact Or.inr rfl) (by rfl) (by first | exact .inl rfl | exact .inr rfl)) (@ss_one _ _ _ _ (@s_ret _ _ _ _ _ (@e_tup _ _ _ _ _ _ (@d_cons _ _ _ _ _ _ (@e_tup _ _ _ _ _ _ (@d_cons _ _ _ _ _ _ e_str (@d_cons _ _ _ _ _ _ (e_var 3) (@d_cons _ _ _ _ _ _ (@e_add _ _ _ _ _ _ _ e_int (@e_mod _ _ _ _ _ _ _ (e_var 1) e_int)) (@d_cons _ _ _ _ _ _ (@e_mod _ _ _ _ _ _ _ (@e_fdiv _ _ _ _ _ _ _ (e_var 1) e_int) e_int) d_nil (by rfl)) (by rfl)) (by rfl)) (by rfl))) (@d_cons _ _ _ _ _ _ (@e_add _ _ _ _ _ _ _ (@e_add _ _ _ _ _ _ _ e_str (e_var 4)) e_str) d_nil (by rfl)) (by rfl))))))) ss_nil) (@ss_cons _ _ _ _ _ _ (@s_set _ _ _ _ _ 5 _ _ sc_law_piece.nd (@e_tup _ _ _ _ _ _ (@d_cons _ _ _ _ _ _ e_str (@d_cons _ _ _ _ _ _ (@e_tup _ _ _ _ _ _ (@d_cons _ _ _ _ _ _ (@e_call _ _ _ _ _ _ _ _ _ _ _ _ _ _ G_law_name (hr.mono (by decide)) T.m_law_name T.k_law_name B_law_name (@a_cons _ _ _ _ _ _ (e_var 1) a_nil (by rfl)) (by rfl) (by decide) (by rfl) (by rfl)) d_nil (by rfl))) d_nil (by rfl)) (by rfl))) (by rfl) (by first | exact Or.inl rfl | exact Or.inr rfl) (by rfl) (by first | exact .inl rfl | exact .inr rfl)) (@ss_cons _ _ _ _ _ _ (@s_set _ _ _ _ _ 6 _ _ sc_law_piece.nd (@e_add _ _ _ _ _ _ _ (@e_add _ _ _ _ _ _ _ e_str (@e_call _ _ _ _ _ _ _ _ _ _ _ _ _ _ G_law_name (hr.mono (by decide)) T.m_law_name T.k_law_name B_law_name (@a_cons _ _ _ _ _ _ (e_var 1) a_nil (by rfl)) (by rfl) (by decide) (by rfl) (by rfl))) e_str) (by rfl) (by first | exact Or.inl rfl | exact Or.inr rfl) (by rfl) (by first | exact .inl rfl | exact .inr rfl)) (@ss_cons _ _ _ _ _ _ (@s_if _ _ _ _ _ _ _ _ _ (@t_eqX _ _ _ _ _ _ _ hv (@e_mod _ _ _ _ _ _ _ (e_var 1) e_int) e_int) (@ss_cons _ _ _ _ _ _ (@s_set _ _ _ _ _ 5 _ _ sc_law_piece.nd (@e_tup _ _ _ _ _ _ (@d_cons _ _ _ _ _ _ e_str (@d_cons _ _ _ _ _ _ (@e_call _ _ _ _ _ _ _ _ _ _ _ _ _ _ G_law_signs (hr.mono (by decide)) T.m_law_signs T.k_law_signs B_law_signs (@a_cons _ _ _ _ _ _ (e_var 1) a_nil (by rfl)) (by rfl) (by decide) (by rfl) (by rfl)) d_nil (by rfl)) (by rfl))) (by rfl) (by first | exact Or.inl rfl | exact Or.inr rfl) (by rfl) (by first | exact .inl rfl | exact .inr rfl)) (@ss_one _ _ _ _ (@s_set _ _ _ _ _ 6 _ _ sc_law_piece.nd (@e_call _ _ _ _ _ _ _ _ _ _ _ _ _ _ G_law_signs (hr.mono (by decide)) T.m_law_signs T.k_law_signs B_law_signs (@a_cons _ _ _ _ _ _ (e_var 1) a_nil (by rfl)) (by rfl) (by decide) (by rfl) (by rfl)) (by rfl) (by first | exact Or.inl rfl | exact Or.inr rfl) (by rfl) (by first | exact .inl rfl | exact .inr rfl)))) ss_nil) (@ss_cons _ _ _ _ _ _ (@s_for _ _ _ _ _ _ _ _ _ PassesOwn.never rfl (@i_rng _ _ _ _ _ _ _ T.z_range (@e_add _ _ _ _ _ _ _ e_int (@e_mod _ _ _ _ _ _ _ (@e_fdiv _ _ _ _ _ _ _ (e_var 1) e_int) e_int)) (by rfl) (by rfl)) (@g_name _ _ _ 7 _ sc_law_piece.nd (by rfl) (by first | exact Or.inl rfl | exact Or.inr rfl) (by first | exact .inl rfl | exact .inr rfl)) (@ss_cons _ _ _ _ _ _ (@s_set _ _ _ _ _ 5 _ _ sc_law_piece.nd (@e_tup _ _ _ _ _ _ (@d_cons _ _ _ _ _ _ e_str (@d_cons _ _ _ _ _ _ (@e_tup _ _ _ _ _ _ (@d_cons _ _ _ _ _ _ (e_var 5) d_nil (by rfl))) d_nil (by rfl)) (by rfl))) (by rfl) (by first | exact Or.inl rfl | exact Or.inr rfl) (by rfl) (by first | exact .inl rfl | exact .inr rfl)) (@ss_one _ _ _ _ (@s_set _ _ _ _ _ 6 _ _ sc_law_piece.nd (@e_add _ _ _ _ _ _ _ (@e_add _ _ _ _ _ _ _ e_str (e_var 6)) e_str) (by rfl) (by first | exact Or.inl rfl | exact Or.inr rfl) (by rfl) (by first | exact .inl rfl | exact .inr rfl)))) (by intro _; rfl)) (@ss_one _ _ _ _ (@s_ret _ _ _ _ _ (@e_tup _ _ _ _ _ _ (@d_cons _ _ _ _ _ _ (e_var 5) (@d_cons _ _ _ _ _ _ (e_var 6) d_nil (by rfl)) (by rfl)))))))))))))
theorem sc_signs_end : FnScope ["text", "place", "end"] ["text", "place"] (defScope st_signs_end) := ⟨rfl, rfl, rfl, by decide +kernel, rfl, by decide +kernel, by decide +kernel⟩
theorem ok_signs_end {fd : FuncData} (F : Fun K "signs_end" "signs_end" st_signs_end fsigns_end fd) (T : Txt K mg tMANY_FIGURES tMOST_DEEP tMOST_NAMES tMOST_PIECES tNAME_LENGTH tSMALL_LETTERS tSTYLE_SIGNS tWAY_FIGURES flaw_numbers flaw_name flaw_signs flaw_piece fsigns_end fcut_end fcuts_of fbegin_group fend_group fis_all_of fis_text_of fis_name fcheck_name fread_hands_piece fread_piece fread_template fshow_piece fshow_template flaw_alike flaw) :
    FnOk P w K mg base CX0 1 fsigns_end fd ["text", "place"] (spOf K 2 g_signs_end) := by
  refine F.ok sc_signs_end (fun vs H Q E h => spOf_len h) (fun cdv A outer s H vs Q E hr h => ?_)
  obtain ⟨F0, h⟩ := body_out (N := ["text", "place", "end"]) (f := f_signs_end) h
  have hu := hu_of hr
  have hv := hr.units
  refine ⟨liftS (ent H F0 : Ent K) f_signs_end, ?_, h⟩
  exact (@ss_cons _ _ _ _ _ _ (@s_set _ _ _ _ _ 2 _ _ sc_signs_end.nd (e_var 1) (by rfl) (by first | exact Or.inl rfl | exact Or.inr rfl) (by rfl) (by first | exact .inl rfl | exact .inr rfl)) (@ss_cons _ _ _ _ _ _ (@s_while _ _ _ _ FUEL _ _ _ PassesOwn.never (@PW.pt _ _ _ (@w_and _ _ _ _ _ _ _ _ (@t_lt _ _ _ _ _ _ _ (e_var 2) (@e_len _ _ _ _ _ _ T.z_len (e_var 0) (by rfl) (by rfl) (by rfl))) (@w_and1 _ _ _ _ _ (@t_inW _ _ _ _ _ _ _ hu (@e_ix _ _ _ _ _ _ _ hu (e_var 0) (e_var 2) (by intro _ _; rfl)) (@e_globS _ _ _ _ _ _ T.c_STYLE_SIGNS (by rfl) (by decide)) (by rfl))))) (@ss_one _ _ _ _ (@s_aug _ _ _ 2 _ _ _ _ _ sc_signs_end.nd (by rfl) (by first | exact Or.inl rfl | exact Or.inr rfl) (by first | exact .inl rfl | exact .inr rfl)))) (@ss_one _ _ _ _ (@s_ret _ _ _ _ _ (e_var 2)))))
theorem sc_cut_end : FnScope ["text", "place", "end"] ["text", "place"] (defScope st_cut_end) := ⟨rfl, rfl, rfl, by decide +kernel, rfl, by decide +kernel, by decide +kernel⟩
theorem ok_cut_end {fd : FuncData} (F : Fun K "cut_end" "cut_end" st_cut_end fcut_end fd) (T : Txt K mg tMANY_FIGURES tMOST_DEEP tMOST_NAMES tMOST_PIECES tNAME_LENGTH tSMALL_LETTERS tSTYLE_SIGNS tWAY_FIGURES flaw_numbers flaw_name flaw_signs flaw_piece fsigns_end fcut_end fcuts_of fbegin_group fend_group fis_all_of fis_text_of fis_name fcheck_name fread_hands_piece fread_piece fread_template fshow_piece fshow_template flaw_alike flaw) {fd_signs_end : FuncData} (G_signs_end : FnOk P w K mg base CX0 1 fsigns_end fd_signs_end ["text", "place"] (spOf K 2 g_signs_end)) (B_signs_end : Binds K fd_signs_end ["text", "place"] []) :
    FnOk P w K mg base CX0 2 fcut_end fd ["text", "place"] (spOf K 2 g_cut_end) := by
  refine F.ok sc_cut_end (fun vs H Q E h => spOf_len h) (fun cdv A outer s H vs Q E hr h => ?_)
  obtain ⟨F0, h⟩ := body_out (N := ["text", "place", "end"]) (f := f_cut_end) h
  have hu := hu_of hr
  have hv := hr.units
  refine ⟨liftS (ent H F0 : Ent K) f_cut_end, ?_, h⟩
  exact (@ss_cons _ _ _ _ _ _ (@s_if _ _ _ _ _ _ _ _ _ (@t_inW _ _ _ _ _ _ _ hu (@e_ix _ _ _ _ _ _ _ hu (e_var 0) (e_var 1) (by intro _ _; rfl)) e_str (by rfl)) (@ss_one _ _ _ _ (@s_ret _ _ _ _ _ (@e_add _ _ _ _ _ _ _ (e_var 1) e_int))) ss_nil) (@ss_cons _ _ _ _ _ _ (@s_if _ _ _ _ _ _ _ _ _ (@t_eqX _ _ _ _ _ _ _ hv (@e_ix _ _ _ _ _ _ _ hu (e_var 0) (e_var 1) (by intro _ _; rfl)) e_str) (@ss_one _ _ _ _ (@s_set _ _ _ _ _ 2 _ _ sc_cut_end.nd (@e_add _ _ _ _ _ _ _ (@e_find3 _ _ _ _ _ _ _ _ _ _ (e_var 0) e_str (e_var 1) (by rfl) (by rfl) (by rfl) (by rfl) (by rfl) (by rfl)) e_int) (by rfl) (by first | exact Or.inl rfl | exact Or.inr rfl) (by rfl) (by first | exact .inl rfl | exact .inr rfl))) (@ss_one _ _ _ _ (@s_set _ _ _ _ _ 2 _ _ sc_cut_end.nd (@e_call _ _ _ _ _ _ _ _ _ _ _ _ _ _ G_signs_end (hr.mono (by decide)) T.m_signs_end T.k_signs_end B_signs_end (@a_cons _ _ _ _ _ _ (e_var 0) (@a_cons _ _ _ _ _ _ (e_var 1) a_nil (by rfl)) (by rfl)) (by rfl) (by decide) (by rfl) (by rfl)) (by rfl) (by first | exact Or.inl rfl | exact Or.inr rfl) (by rfl) (by first | exact .inl rfl | exact .inr rfl)))) (@ss_cons _ _ _ _ _ _ (@s_if _ _ _ _ _ _ _ _ _ (@t_le _ _ _ _ _ _ _ (e_var 2) (e_var 1)) (@ss_one _ _ _ _ s_never) ss_nil) (@ss_one _ _ _ _ (@s_ret _ _ _ _ _ (e_var 2))))))
theorem sc_cuts_of : FnScope ["text", "cuts", "place", "end"] ["text"] (defScope st_cuts_of) := ⟨rfl, rfl, rfl, by decide +kernel, rfl, by decide +kernel, by decide +kernel⟩
theorem ok_cuts_of {fd : FuncData} (F : Fun K "cuts_of" "cuts_of" st_cuts_of fcuts_of fd) (T : Txt K mg tMANY_FIGURES tMOST_DEEP tMOST_NAMES tMOST_PIECES tNAME_LENGTH tSMALL_LETTERS tSTYLE_SIGNS tWAY_FIGURES flaw_numbers flaw_name flaw_signs flaw_piece fsigns_end fcut_end fcuts_of fbegin_group fend_group fis_all_of fis_text_of fis_name fcheck_name fread_hands_piece fread_piece fread_template fshow_piece fshow_template flaw_alike flaw) {fd_cut_end : FuncData} (G_cut_end : FnOk P w K mg base CX0 2 fcut_end fd_cut_end ["text", "place"] (spOf K 2 g_cut_end)) (B_cut_end : Binds K fd_cut_end ["text", "place"] []) :
    FnOk P w K mg base CX0 3 fcuts_of fd ["text"] (spOf K 1 g_cuts_of) := by
  refine F.ok sc_cuts_of (fun vs H Q E h => spOf_len h) (fun cdv A outer s H vs Q E hr h => ?_)
  obtain ⟨F0, h⟩ := body_out (N := ["text", "cuts", "place", "end"]) (f := f_cuts_of) h
  have hu := hu_of hr
  have hv := hr.units
  refine ⟨liftS (ent H F0 : Ent K) f_cuts_of, ?_, h⟩
  exact (@ss_cons _ _ _ _ _ _ (@s_set _ _ _ _ _ 1 _ _ sc_cuts_of.nd (@e_lst _ _ _ _ _ d_nil) (by rfl) (by first | exact Or.inl rfl | exact Or.inr rfl) (by rfl) (by first | exact .inl rfl | exact .inr rfl)) (@ss_cons _ _ _ _ _ _ (@s_set _ _ _ _ _ 2 _ _ sc_cuts_of.nd e_int (by rfl) (by first | exact Or.inl rfl | exact Or.inr rfl) (by rfl) (by first | exact .inl rfl | exact .inr rfl)) (@ss_cons _ _ _ _ _ _ (@s_while _ _ _ _ FUEL _ _ _ PassesOwn.never (@t_lt _ _ _ _ _ _ _ (e_var 2) (@e_len _ _ _ _ _ _ T.z_len (e_var 0) (by rfl) (by rfl) (by rfl))) (@ss_cons _ _ _ _ _ _ (@s_set _ _ _ _ _ 3 _ _ sc_cuts_of.nd (@e_call _ _ _ _ _ _ _ _ _ _ _ _ _ _ G_cut_end (hr.mono (by decide)) T.m_cut_end T.k_cut_end B_cut_end (@a_cons _ _ _ _ _ _ (e_var 0) (@a_cons _ _ _ _ _ _ (e_var 2) a_nil (by rfl)) (by rfl)) (by rfl) (by decide) (by rfl) (by rfl)) (by rfl) (by first | exact Or.inl rfl | exact Or.inr rfl) (by rfl) (by first | exact .inl rfl | exact .inr rfl)) (@ss_cons _ _ _ _ _ _ (@s_app _ _ _ _ _ 1 _ _ _ _ (@e_sl _ _ _ _ _ _ _ _ _ _ (e_var 0) (@o_some _ _ _ _ (e_var 2)) (@o_some _ _ _ _ (e_var 3))) (by rfl) (by first | exact Or.inl rfl | exact Or.inr (Or.inl rfl) | exact Or.inr (Or.inr rfl)) (by decide) (by decide) (by rfl) (by rfl) (by rfl) (by rfl) (by rfl) (by rfl)) (@ss_one _ _ _ _ (@s_set _ _ _ _ _ 2 _ _ sc_cuts_of.nd (e_var 3) (by rfl) (by first | exact Or.inl rfl | exact Or.inr rfl) (by rfl) (by first | exact .inl rfl | exact .inr rfl)))))) (@ss_one _ _ _ _ (@s_ret _ _ _ _ _ (e_var 1))))))
theorem sc_begin_group : FnScope ["levels"] ["levels"] (defScope st_begin_group) := ⟨rfl, rfl, rfl, by decide +kernel, rfl, by decide +kernel, by decide +kernel⟩
theorem ok_begin_group {fd : FuncData} (F : Fun K "begin_group" "begin_group" st_begin_group fbegin_group fd) (T : Txt K mg tMANY_FIGURES tMOST_DEEP tMOST_NAMES tMOST_PIECES tNAME_LENGTH tSMALL_LETTERS tSTYLE_SIGNS tWAY_FIGURES flaw_numbers flaw_name flaw_signs flaw_piece fsigns_end fcut_end fcuts_of fbegin_group fend_group fis_all_of fis_text_of fis_name fcheck_name fread_hands_piece fread_piece fread_template fshow_piece fshow_template flaw_alike flaw) :
    FnOk P w K mg base CX0 1 fbegin_group fd ["levels"] (spM K m_begin_group) := by
  refine F.ok sc_begin_group (fun vs H Q E h => spM_len h) (fun cdv A outer s H vs Q E hr h => ?_)
  obtain ⟨G0, F0, h⟩ := body_outM (N := ["levels"]) (f := f_begin_group) (by decide) h
  have hu := hu_of hr
  have hv := hr.units
  refine ⟨liftS (ent G0 F0 : Ent K) f_begin_group, ?_, h⟩
  exact (@ss_cons _ _ _ _ _ _ (@s_if _ _ _ _ _ _ _ _ _ (@t_gt _ _ _ _ _ _ _ (@e_lenL _ _ _ _ 0 _ T.z_len (@v_var _ 0 _ _ (by rfl) (by first | exact Or.inl rfl | exact Or.inr (Or.inl rfl) | exact Or.inr (Or.inr rfl)) (by decide) (by decide)) (by rfl) (by rfl) (by rfl)) (@e_globI _ _ _ _ _ _ T.c_MOST_DEEP (by rfl) (by decide))) (@ss_one _ _ _ _ s_never) ss_nil) (@ss_one _ _ _ _ (@s_appL _ _ _ 0 _ _ _ _ _ (by rfl) (by first | exact Or.inl rfl | exact Or.inr (Or.inl rfl) | exact Or.inr (Or.inr rfl)) (by decide) (by decide) (by rfl) (by rfl) (by rfl) (by rfl) (by rfl) (by rfl))))
theorem sc_end_group : FnScope ["levels", "pieces"] ["levels"] (defScope st_end_group) := ⟨rfl, rfl, rfl, by decide +kernel, rfl, by decide +kernel, by decide +kernel⟩
theorem ok_end_group {fd : FuncData} (F : Fun K "end_group" "end_group" st_end_group fend_group fd) (T : Txt K mg tMANY_FIGURES tMOST_DEEP tMOST_NAMES tMOST_PIECES tNAME_LENGTH tSMALL_LETTERS tSTYLE_SIGNS tWAY_FIGURES flaw_numbers flaw_name flaw_signs flaw_piece fsigns_end fcut_end fcuts_of fbegin_group fend_group fis_all_of fis_text_of fis_name fcheck_name fread_hands_piece fread_piece fread_template fshow_piece fshow_template flaw_alike flaw) :
    FnOk P w K mg base CX0 1 fend_group fd ["levels"] (spM K m_end_group) := by
  refine F.ok sc_end_group (fun vs H Q E h => spM_len h) (fun cdv A outer s H vs Q E hr h => ?_)
  obtain ⟨G0, F0, h⟩ := body_outM (N := ["levels", "pieces"]) (f := f_end_group) (by decide) h
  have hu := hu_of hr
  have hv := hr.units
  refine ⟨liftS (ent G0 F0 : Ent K) f_end_group, ?_, h⟩
  exact (@ss_cons _ _ _ _ _ _ (@s_if _ _ _ _ _ _ _ _ _ (@t_eqX _ _ _ _ _ _ _ hv (@e_lenL _ _ _ _ 0 _ T.z_len (@v_var _ 0 _ _ (by rfl) (by first | exact Or.inl rfl | exact Or.inr (Or.inl rfl) | exact Or.inr (Or.inr rfl)) (by decide) (by decide)) (by rfl) (by rfl) (by rfl)) e_int) (@ss_one _ _ _ _ s_never) ss_nil) (@ss_cons _ _ _ _ _ _ (@s_popL _ _ _ 1 0 _ _ _ _ _ _ sc_end_group.nd (by rfl) (by first | exact Or.inl rfl | exact Or.inr (Or.inl rfl) | exact Or.inr (Or.inr rfl)) (by decide) (by decide) (by rfl) (by rfl) (by rfl) (by first | exact Or.inl rfl | exact Or.inr rfl) (by rfl) (by first | exact .inl rfl | exact .inr rfl)) (@ss_cons _ _ _ _ _ _ (@s_if _ _ _ _ _ _ _ _ _ (@t_eqX _ _ _ _ _ _ _ hv (@e_len _ _ _ _ _ _ T.z_len (e_var 1) (by rfl) (by rfl) (by rfl)) e_int) (@ss_one _ _ _ _ s_never) ss_nil) (@ss_one _ _ _ _ (@s_lastApp _ _ _ _ _ _ 0 _ _ (@v_top _ _ _ _ _ _ _ (@v_var _ 0 _ _ (by rfl) (by first | exact Or.inl rfl | exact Or.inr (Or.inl rfl) | exact Or.inr (Or.inr rfl)) (by decide) (by decide))) (@e_tup _ _ _ _ _ _ (@d_cons _ _ _ _ _ _ e_str (@d_cons _ _ _ _ _ _ (@e_tuple _ _ _ _ _ _ T.z_tuple (e_var 1) (by rfl) (by rfl) (by rfl)) d_nil (by rfl)) (by rfl))) (by rfl) (by rfl) (by rfl) (by rfl) (by rfl) (by rfl))))))
theorem sc_is_all_of : FnScope ["text", "signs"] ["text", "signs"] (defScope st_is_all_of) := ⟨rfl, rfl, rfl, by decide +kernel, rfl, by decide +kernel, by decide +kernel⟩
theorem ok_is_all_of {fd : FuncData} (F : Fun K "is_all_of" "is_all_of" st_is_all_of fis_all_of fd) (T : Txt K mg tMANY_FIGURES tMOST_DEEP tMOST_NAMES tMOST_PIECES tNAME_LENGTH tSMALL_LETTERS tSTYLE_SIGNS tWAY_FIGURES flaw_numbers flaw_name flaw_signs flaw_piece fsigns_end fcut_end fcuts_of fbegin_group fend_group fis_all_of fis_text_of fis_name fcheck_name fread_hands_piece fread_piece fread_template fshow_piece fshow_template flaw_alike flaw) :
    FnOk P w K mg base CX0 1 fis_all_of fd ["text", "signs"] (spOf K 2 g_is_all_of) := by
  refine F.ok sc_is_all_of (fun vs H Q E h => spOf_len h) (fun cdv A outer s H vs Q E hr h => ?_)
  obtain ⟨F0, h⟩ := body_out (N := ["text", "signs"]) (f := f_is_all_of) h
  have hu := hu_of hr
  have hv := hr.units
  refine ⟨liftS (ent H F0 : Ent K) f_is_all_of, ?_, h⟩
  exact (@ss_one _ _ _ _ (@s_ret _ _ _ _ _ (@e_all _ _ _ _ _ _ T.z_all (@e_comp _ _ _ _ _ _ _ _ _ _ _ _ _ _ _ rfl (compScope (N' := ["sign", "signs", ".acc"]) (src := [.own, .cap 1, .acc]) (by rfl) (by rfl) (by rfl) (by rfl) (by rfl) (by rfl)) (srcOk 2 (by rfl) (by rfl)) (by decide) (@i_any _ _ _ _ _ (e_var 0)) (fun _ _ _ _ => @xg _ _ _ (fun _ => (@g_name _ _ _ 0 _ (show (["sign", "signs", ".acc"] : List Str).Nodup by decide +kernel) (by rfl) (by first | exact Or.inl rfl | exact Or.inr rfl) (by first | exact .inl rfl | exact .inr rfl)))) (fun _ _ _ _ => xt0) (fun _ _ _ _ => @xe _ _ _ (fun _ => (@e_inW _ _ _ _ _ _ _ hu (e_var 0) (e_var 1) (by rfl)))) (by intro _; rfl)) (by rfl) (by rfl) (by rfl) (by rfl))))
theorem sc_is_text_of : FnScope ["value", "signs", "most"] ["value", "signs", "most"] (defScope st_is_text_of) := ⟨rfl, rfl, rfl, by decide +kernel, rfl, by decide +kernel, by decide +kernel⟩
theorem ok_is_text_of {fd : FuncData} (F : Fun K "is_text_of" "is_text_of" st_is_text_of fis_text_of fd) (T : Txt K mg tMANY_FIGURES tMOST_DEEP tMOST_NAMES tMOST_PIECES tNAME_LENGTH tSMALL_LETTERS tSTYLE_SIGNS tWAY_FIGURES flaw_numbers flaw_name flaw_signs flaw_piece fsigns_end fcut_end fcuts_of fbegin_group fend_group fis_all_of fis_text_of fis_name fcheck_name fread_hands_piece fread_piece fread_template fshow_piece fshow_template flaw_alike flaw) {fd_is_all_of : FuncData} (G_is_all_of : FnOk P w K mg base CX0 1 fis_all_of fd_is_all_of ["text", "signs"] (spOf K 2 g_is_all_of)) (B_is_all_of : Binds K fd_is_all_of ["text", "signs"] []) :
    FnOk P w K mg base CX0 2 fis_text_of fd ["value", "signs", "most"] (spOf K 3 g_is_text_of) := by
  refine F.ok sc_is_text_of (fun vs H Q E h => spOf_len h) (fun cdv A outer s H vs Q E hr h => ?_)
  obtain ⟨F0, h⟩ := body_out (N := ["value", "signs", "most"]) (f := f_is_text_of) h
  have hu := hu_of hr
  have hv := hr.units
  refine ⟨liftS (ent H F0 : Ent K) f_is_text_of, ?_, h⟩
  exact (@ss_cons _ _ _ _ _ _ (@s_if _ _ _ _ _ _ _ _ _ (@t_not _ _ _ _ _ (@t_val _ _ _ _ (@e_isi _ _ _ _ _ _ _ _ _ T.z_isinstance T.z_str boot_str (kit_str _) (e_var 0) (by rfl) (by rfl) (by decide) (by decide) (by rfl) (by rfl) (by rfl)) (by intro _; rfl))) (@ss_one _ _ _ _ (@s_ret _ _ _ _ _ e_bl)) ss_nil) (@ss_one _ _ _ _ (@s_ret _ _ _ _ _ (@e_and _ _ _ _ _ _ _ _ (@e_chain _ _ _ _ _ _ _ _ _ _ _ _ _ _ _ op_le p_le op_le p_le e_int (@e_len _ _ _ _ _ _ T.z_len (e_var 0) (by rfl) (by rfl) (by rfl)) (e_var 2) (by with_unfolding_all rfl)) (@e_one _ _ _ _ _ _ (@e_call _ _ _ _ _ _ _ _ _ _ _ _ _ _ G_is_all_of (hr.mono (by decide)) T.m_is_all_of T.k_is_all_of B_is_all_of (@a_cons _ _ _ _ _ _ (e_var 0) (@a_cons _ _ _ _ _ _ (e_var 1) a_nil (by rfl)) (by rfl)) (by rfl) (by decide) (by rfl) (by rfl)))))))
theorem sc_is_name : FnScope ["value"] ["value"] (defScope st_is_name) := ⟨rfl, rfl, rfl, by decide +kernel, rfl, by decide +kernel, by decide +kernel⟩
theorem ok_is_name {fd : FuncData} (F : Fun K "is_name" "is_name" st_is_name fis_name fd) (T : Txt K mg tMANY_FIGURES tMOST_DEEP tMOST_NAMES tMOST_PIECES tNAME_LENGTH tSMALL_LETTERS tSTYLE_SIGNS tWAY_FIGURES flaw_numbers flaw_name flaw_signs flaw_piece fsigns_end fcut_end fcuts_of fbegin_group fend_group fis_all_of fis_text_of fis_name fcheck_name fread_hands_piece fread_piece fread_template fshow_piece fshow_template flaw_alike flaw) {fd_is_text_of : FuncData} (G_is_text_of : FnOk P w K mg base CX0 2 fis_text_of fd_is_text_of ["value", "signs", "most"] (spOf K 3 g_is_text_of)) (B_is_text_of : Binds K fd_is_text_of ["value", "signs", "most"] []) :
    FnOk P w K mg base CX0 3 fis_name fd ["value"] (spOf K 1 g_is_name) := by
  refine F.ok sc_is_name (fun vs H Q E h => spOf_len h) (fun cdv A outer s H vs Q E hr h => ?_)
  obtain ⟨F0, h⟩ := body_out (N := ["value"]) (f := f_is_name) h
  have hu := hu_of hr
  have hv := hr.units
  refine ⟨liftS (ent H F0 : Ent K) f_is_name, ?_, h⟩
  exact (@ss_one _ _ _ _ (@s_ret _ _ _ _ _ (@e_call _ _ _ _ _ _ _ _ _ _ _ _ _ _ G_is_text_of (hr.mono (by decide)) T.m_is_text_of T.k_is_text_of B_is_text_of (@a_cons _ _ _ _ _ _ (e_var 0) (@a_cons _ _ _ _ _ _ (@e_globS _ _ _ _ _ _ T.c_SMALL_LETTERS (by rfl) (by decide)) (@a_cons _ _ _ _ _ _ (@e_globI _ _ _ _ _ _ T.c_NAME_LENGTH (by rfl) (by decide)) a_nil (by rfl)) (by rfl)) (by rfl)) (by rfl) (by decide) (by rfl) (by rfl))))
theorem sc_check_name : FnScope ["name"] ["name"] (defScope st_check_name) := ⟨rfl, rfl, rfl, by decide +kernel, rfl, by decide +kernel, by decide +kernel⟩
theorem ok_check_name {fd : FuncData} (F : Fun K "check_name" "check_name" st_check_name fcheck_name fd) (T : Txt K mg tMANY_FIGURES tMOST_DEEP tMOST_NAMES tMOST_PIECES tNAME_LENGTH tSMALL_LETTERS tSTYLE_SIGNS tWAY_FIGURES flaw_numbers flaw_name flaw_signs flaw_piece fsigns_end fcut_end fcuts_of fbegin_group fend_group fis_all_of fis_text_of fis_name fcheck_name fread_hands_piece fread_piece fread_template fshow_piece fshow_template flaw_alike flaw) {fd_is_name : FuncData} (G_is_name : FnOk P w K mg base CX0 3 fis_name fd_is_name ["value"] (spOf K 1 g_is_name)) (B_is_name : Binds K fd_is_name ["value"] []) :
    FnOk P w K mg base CX0 4 fcheck_name fd ["name"] (spOf K 1 g_check_name) := by
  refine F.ok sc_check_name (fun vs H Q E h => spOf_len h) (fun cdv A outer s H vs Q E hr h => ?_)
  obtain ⟨F0, h⟩ := body_out (N := ["name"]) (f := f_check_name) h
  have hu := hu_of hr
  have hv := hr.units
  refine ⟨liftS (ent H F0 : Ent K) f_check_name, ?_, h⟩
  exact (@ss_one _ _ _ _ (@s_if _ _ _ _ _ _ _ _ _ (@PW.pt _ _ _ (@w_or _ _ _ _ _ _ _ _ (@t_not _ _ _ _ _ (@t_val _ _ _ _ (@e_call _ _ _ _ _ _ _ _ _ _ _ _ _ _ G_is_name (hr.mono (by decide)) T.m_is_name T.k_is_name B_is_name (@a_cons _ _ _ _ _ _ (e_var 0) a_nil (by rfl)) (by rfl) (by decide) (by rfl) (by rfl)) (by intro _; rfl))) (@w_or1 _ _ _ _ _ (@t_eqX _ _ _ _ _ _ _ hv (e_var 0) e_str)))) (@ss_one _ _ _ _ s_never) ss_nil))
theorem sc_read_hands_piece : FnScope ["words"] ["words"] (defScope st_read_hands_piece) := ⟨rfl, rfl, rfl, by decide +kernel, rfl, by decide +kernel, by decide +kernel⟩
theorem ok_read_hands_piece {fd : FuncData} (F : Fun K "read_hands_piece" "read_hands_piece" st_read_hands_piece fread_hands_piece fd) (T : Txt K mg tMANY_FIGURES tMOST_DEEP tMOST_NAMES tMOST_PIECES tNAME_LENGTH tSMALL_LETTERS tSTYLE_SIGNS tWAY_FIGURES flaw_numbers flaw_name flaw_signs flaw_piece fsigns_end fcut_end fcuts_of fbegin_group fend_group fis_all_of fis_text_of fis_name fcheck_name fread_hands_piece fread_piece fread_template fshow_piece fshow_template flaw_alike flaw) {fd_is_text_of : FuncData} (G_is_text_of : FnOk P w K mg base CX0 2 fis_text_of fd_is_text_of ["value", "signs", "most"] (spOf K 3 g_is_text_of)) (B_is_text_of : Binds K fd_is_text_of ["value", "signs", "most"] []) {fd_check_name : FuncData} (G_check_name : FnOk P w K mg base CX0 4 fcheck_name fd_check_name ["name"] (spOf K 1 g_check_name)) (B_check_name : Binds K fd_check_name ["name"] []) :
    FnOk P w K mg base CX0 5 fread_hands_piece fd ["words"] (spOf K 1 g_read_hands_piece) := by
  refine F.ok sc_read_hands_piece (fun vs H Q E h => spOf_len h) (fun cdv A outer s H vs Q E hr h => ?_)
  obtain ⟨F0, h⟩ := body_out (N := ["words"]) (f := f_read_hands_piece) h
  have hu := hu_of hr
  have hv := hr.units
  refine ⟨liftS (ent H F0 : Ent K) f_read_hands_piece, ?_, h⟩
  exact (@ss_cons _ _ _ _ _ _ (@s_expr _ _ _ _ _ (@e_call _ _ _ _ _ _ _ _ _ _ _ _ _ _ G_check_name (hr.mono (by decide)) T.m_check_name T.k_check_name B_check_name (@a_cons _ _ _ _ _ _ (@e_ix _ _ _ _ _ _ _ hu (e_var 0) e_int (by intro _ _; rfl)) a_nil (by rfl)) (by rfl) (by decide) (by rfl) (by rfl)) (by rfl)) (@ss_cons _ _ _ _ _ _ (@s_if _ _ _ _ _ _ _ _ _ (@t_not _ _ _ _ _ (@t_val _ _ _ _ (@e_call _ _ _ _ _ _ _ _ _ _ _ _ _ _ G_is_text_of (hr.mono (by decide)) T.m_is_text_of T.k_is_text_of B_is_text_of (@a_cons _ _ _ _ _ _ (@e_ix _ _ _ _ _ _ _ hu (e_var 0) e_int (by intro _ _; rfl)) (@a_cons _ _ _ _ _ _ (@e_globS _ _ _ _ _ _ T.c_MANY_FIGURES (by rfl) (by decide)) (@a_cons _ _ _ _ _ _ e_int a_nil (by rfl)) (by rfl)) (by rfl)) (by rfl) (by decide) (by rfl) (by rfl)) (by intro _; rfl))) (@ss_one _ _ _ _ s_never) ss_nil) (@ss_cons _ _ _ _ _ _ (@s_if _ _ _ _ _ _ _ _ _ (@t_not _ _ _ _ _ (@t_val _ _ _ _ (@e_call _ _ _ _ _ _ _ _ _ _ _ _ _ _ G_is_text_of (hr.mono (by decide)) T.m_is_text_of T.k_is_text_of B_is_text_of (@a_cons _ _ _ _ _ _ (@e_ix _ _ _ _ _ _ _ hu (e_var 0) e_int (by intro _ _; rfl)) (@a_cons _ _ _ _ _ _ (@e_globS _ _ _ _ _ _ T.c_WAY_FIGURES (by rfl) (by decide)) (@a_cons _ _ _ _ _ _ e_int a_nil (by rfl)) (by rfl)) (by rfl)) (by rfl) (by decide) (by rfl) (by rfl)) (by intro _; rfl))) (@ss_one _ _ _ _ s_never) ss_nil) (@ss_one _ _ _ _ (@s_ret _ _ _ _ _ (@e_tup _ _ _ _ _ _ (@d_cons _ _ _ _ _ _ e_str (@d_cons _ _ _ _ _ _ (@e_ix _ _ _ _ _ _ _ hu (e_var 0) e_int (by intro _ _; rfl)) (@d_cons _ _ _ _ _ _ (@e_intT _ _ _ _ _ _ T.z_int (@e_ix _ _ _ _ _ _ _ hu (e_var 0) e_int (by intro _ _; rfl)) (by rfl) (by rfl) (by rfl)) (@d_cons _ _ _ _ _ _ (@e_intT _ _ _ _ _ _ T.z_int (@e_ix _ _ _ _ _ _ _ hu (e_var 0) e_int (by intro _ _; rfl)) (by rfl) (by rfl) (by rfl)) d_nil (by rfl)) (by rfl)) (by rfl)) (by rfl))))))))
theorem sc_read_piece : FnScope ["cut", "words", "names", "name"] ["cut"] (defScope st_read_piece) := ⟨rfl, rfl, rfl, by decide +kernel, rfl, by decide +kernel, by decide +kernel⟩
theorem ok_read_piece {fd : FuncData} (F : Fun K "read_piece" "read_piece" st_read_piece fread_piece fd) (T : Txt K mg tMANY_FIGURES tMOST_DEEP tMOST_NAMES tMOST_PIECES tNAME_LENGTH tSMALL_LETTERS tSTYLE_SIGNS tWAY_FIGURES flaw_numbers flaw_name flaw_signs flaw_piece fsigns_end fcut_end fcuts_of fbegin_group fend_group fis_all_of fis_text_of fis_name fcheck_name fread_hands_piece fread_piece fread_template fshow_piece fshow_template flaw_alike flaw) {fd_check_name : FuncData} (G_check_name : FnOk P w K mg base CX0 4 fcheck_name fd_check_name ["name"] (spOf K 1 g_check_name)) (B_check_name : Binds K fd_check_name ["name"] []) {fd_read_hands_piece : FuncData} (G_read_hands_piece : FnOk P w K mg base CX0 5 fread_hands_piece fd_read_hands_piece ["words"] (spOf K 1 g_read_hands_piece)) (B_read_hands_piece : Binds K fd_read_hands_piece ["words"] []) :
    FnOk P w K mg base CX0 6 fread_piece fd ["cut"] (spOf K 1 g_read_piece) := by
  refine F.ok sc_read_piece (fun vs H Q E h => spOf_len h) (fun cdv A outer s H vs Q E hr h => ?_)
  obtain ⟨F0, h⟩ := body_out (N := ["cut", "words", "names", "name"]) (f := f_read_piece) h
  have hu := hu_of hr
  have hv := hr.units
  refine ⟨liftS (ent H F0 : Ent K) f_read_piece, ?_, h⟩
  exact (@ss_cons _ _ _ _ _ _ (@s_if _ _ _ _ _ _ _ _ _ (@t_neX _ _ _ _ _ _ _ hv (@e_ix _ _ _ _ _ _ _ hu (e_var 0) e_int (by intro _ _; rfl)) e_str) (@ss_one _ _ _ _ (@s_ret _ _ _ _ _ (@e_tup _ _ _ _ _ _ (@d_cons _ _ _ _ _ _ e_str (@d_cons _ _ _ _ _ _ (e_var 0) d_nil (by rfl)) (by rfl))))) ss_nil) (@ss_cons _ _ _ _ _ _ (@s_set _ _ _ _ _ 1 _ _ sc_read_piece.nd (@e_split _ _ _ _ _ _ _ _ (@e_sl _ _ _ _ _ _ _ _ _ _ (e_var 0) (@o_some _ _ _ _ e_int) (@o_some _ _ _ _ (@e_neg _ _ _ _ _ e_int))) e_str (by rfl) (by rfl) (by rfl) (by rfl) (by rfl)) (by rfl) (by first | exact Or.inl rfl | exact Or.inr rfl) (by rfl) (by first | exact .inl rfl | exact .inr rfl)) (@ss_cons _ _ _ _ _ _ (@s_if _ _ _ _ _ _ _ _ _ (@t_eqX _ _ _ _ _ _ _ hv (@e_len _ _ _ _ _ _ T.z_len (e_var 1) (by rfl) (by rfl) (by rfl)) e_int) (@ss_one _ _ _ _ (@s_ret _ _ _ _ _ (@e_call _ _ _ _ _ _ _ _ _ _ _ _ _ _ G_read_hands_piece (hr.mono (by decide)) T.m_read_hands_piece T.k_read_hands_piece B_read_hands_piece (@a_cons _ _ _ _ _ _ (e_var 1) a_nil (by rfl)) (by rfl) (by decide) (by rfl) (by rfl)))) ss_nil) (@ss_cons _ _ _ _ _ _ (@s_set _ _ _ _ _ 2 _ _ sc_read_piece.nd (@e_tuple _ _ _ _ _ _ T.z_tuple (@e_split _ _ _ _ _ _ _ _ (@e_sl _ _ _ _ _ _ _ _ _ _ (e_var 0) (@o_some _ _ _ _ e_int) (@o_some _ _ _ _ (@e_neg _ _ _ _ _ e_int))) e_str (by rfl) (by rfl) (by rfl) (by rfl) (by rfl)) (by rfl) (by rfl) (by rfl)) (by rfl) (by first | exact Or.inl rfl | exact Or.inr rfl) (by rfl) (by first | exact .inl rfl | exact .inr rfl)) (@ss_cons _ _ _ _ _ _ (@s_if _ _ _ _ _ _ _ _ _ (@t_gt _ _ _ _ _ _ _ (@e_len _ _ _ _ _ _ T.z_len (e_var 2) (by rfl) (by rfl) (by rfl)) (@e_globI _ _ _ _ _ _ T.c_MOST_NAMES (by rfl) (by decide))) (@ss_one _ _ _ _ s_never) ss_nil) (@ss_cons _ _ _ _ _ _ (@s_for _ _ _ _ _ _ _ _ _ PassesOwn.never rfl (@i_any _ _ _ _ _ (e_var 2)) (@g_name _ _ _ 3 _ sc_read_piece.nd (by rfl) (by first | exact Or.inl rfl | exact Or.inr rfl) (by first | exact .inl rfl | exact .inr rfl)) (@ss_one _ _ _ _ (@s_expr _ _ _ _ _ (@e_call _ _ _ _ _ _ _ _ _ _ _ _ _ _ G_check_name (hr.mono (by decide)) T.m_check_name T.k_check_name B_check_name (@a_cons _ _ _ _ _ _ (e_var 3) a_nil (by rfl)) (by rfl) (by decide) (by rfl) (by rfl)) (by rfl))) (by intro _; rfl)) (@ss_one _ _ _ _ (@s_ret _ _ _ _ _ (@e_tup _ _ _ _ _ _ (@d_cons _ _ _ _ _ _ e_str (@d_cons _ _ _ _ _ _ (e_var 2) d_nil (by rfl)) (by rfl)))))))))))
theorem sc_read_template : FnScope ["text", "cuts", "levels", "cut"] ["text"] (defScope st_read_template) := ⟨rfl, rfl, rfl, by decide +kernel, rfl, by decide +kernel, by decide +kernel⟩
theorem ok_read_template {fd : FuncData} (F : Fun K "read_template" "read_template" st_read_template fread_template fd) (T : Txt K mg tMANY_FIGURES tMOST_DEEP tMOST_NAMES tMOST_PIECES tNAME_LENGTH tSMALL_LETTERS tSTYLE_SIGNS tWAY_FIGURES flaw_numbers flaw_name flaw_signs flaw_piece fsigns_end fcut_end fcuts_of fbegin_group fend_group fis_all_of fis_text_of fis_name fcheck_name fread_hands_piece fread_piece fread_template fshow_piece fshow_template flaw_alike flaw) {fd_cuts_of : FuncData} (G_cuts_of : FnOk P w K mg base CX0 3 fcuts_of fd_cuts_of ["text"] (spOf K 1 g_cuts_of)) (B_cuts_of : Binds K fd_cuts_of ["text"] []) {fd_begin_group : FuncData} (G_begin_group : FnOk P w K mg base CX0 1 fbegin_group fd_begin_group ["levels"] (spM K m_begin_group)) (B_begin_group : Binds K fd_begin_group ["levels"] []) {fd_end_group : FuncData} (G_end_group : FnOk P w K mg base CX0 1 fend_group fd_end_group ["levels"] (spM K m_end_group)) (B_end_group : Binds K fd_end_group ["levels"] []) {fd_read_piece : FuncData} (G_read_piece : FnOk P w K mg base CX0 6 fread_piece fd_read_piece ["cut"] (spOf K 1 g_read_piece)) (B_read_piece : Binds K fd_read_piece ["cut"] []) :
    FnOk P w K mg base CX0 7 fread_template fd ["text"] (spOf K 1 g_read_template) := by
  refine F.ok sc_read_template (fun vs H Q E h => spOf_len h) (fun cdv A outer s H vs Q E hr h => ?_)
  obtain ⟨F0, h⟩ := body_out (N := ["text", "cuts", "levels", "cut"]) (f := f_read_template) h
  have hu := hu_of hr
  have hv := hr.units
  refine ⟨liftS (ent H F0 : Ent K) f_read_template, ?_, h⟩
  exact (@ss_cons _ _ _ _ _ _ (@s_if _ _ _ _ _ _ _ _ _ (@t_not _ _ _ _ _ (@t_val _ _ _ _ (@e_isi _ _ _ _ _ _ _ _ _ T.z_isinstance T.z_str boot_str (kit_str _) (e_var 0) (by rfl) (by rfl) (by decide) (by decide) (by rfl) (by rfl) (by rfl)) (by intro _; rfl))) (@ss_one _ _ _ _ s_never) ss_nil) (@ss_cons _ _ _ _ _ _ (@s_set _ _ _ _ _ 1 _ _ sc_read_template.nd (@e_call _ _ _ _ _ _ _ _ _ _ _ _ _ _ G_cuts_of (hr.mono (by decide)) T.m_cuts_of T.k_cuts_of B_cuts_of (@a_cons _ _ _ _ _ _ (e_var 0) a_nil (by rfl)) (by rfl) (by decide) (by rfl) (by rfl)) (by rfl) (by first | exact Or.inl rfl | exact Or.inr rfl) (by rfl) (by first | exact .inl rfl | exact .inr rfl)) (@ss_cons _ _ _ _ _ _ (@s_if _ _ _ _ _ _ _ _ _ (@t_gt _ _ _ _ _ _ _ (@e_sub _ _ _ _ _ _ _ (@e_len _ _ _ _ _ _ T.z_len (e_var 1) (by rfl) (by rfl) (by rfl)) (@e_count _ _ _ _ _ _ _ _ (e_var 1) e_str (by rfl) (by rfl) (by rfl) (by rfl) (by rfl))) (@e_globI _ _ _ _ _ _ T.c_MOST_PIECES (by rfl) (by decide))) (@ss_one _ _ _ _ s_never) ss_nil) (@ss_cons _ _ _ _ _ _ (@s_set _ _ _ _ _ 2 _ _ sc_read_template.nd e_newL (by rfl) (by first | exact Or.inl rfl | exact Or.inr rfl) (by rfl) (by first | exact .inl rfl | exact .inr rfl)) (@ss_cons _ _ _ _ _ _ (@s_for _ _ _ _ _ _ _ _ _ PassesOwn.never rfl (@i_any _ _ _ _ _ (e_var 1)) (@g_name _ _ _ 3 _ sc_read_template.nd (by rfl) (by first | exact Or.inl rfl | exact Or.inr rfl) (by first | exact .inl rfl | exact .inr rfl)) (@ss_one _ _ _ _ (@s_if _ _ _ _ _ _ _ _ _ (@t_eqX _ _ _ _ _ _ _ hv (e_var 3) e_str) (@ss_one _ _ _ _ (@s_mut _ _ _ _ 2 _ _ _ _ _ _ _ _ G_begin_group (hr.mono (by decide)) T.m_begin_group T.k_begin_group B_begin_group (@v_var _ 2 _ _ (by rfl) (by first | exact Or.inl rfl | exact Or.inr (Or.inl rfl) | exact Or.inr (Or.inr rfl)) (by decide) (by decide)) (by rfl) (by decide) (by rfl) (by rfl) (by rfl))) (@ss_one _ _ _ _ (@s_if _ _ _ _ _ _ _ _ _ (@t_eqX _ _ _ _ _ _ _ hv (e_var 3) e_str) (@ss_one _ _ _ _ (@s_mut _ _ _ _ 2 _ _ _ _ _ _ _ _ G_end_group (hr.mono (by decide)) T.m_end_group T.k_end_group B_end_group (@v_var _ 2 _ _ (by rfl) (by first | exact Or.inl rfl | exact Or.inr (Or.inl rfl) | exact Or.inr (Or.inr rfl)) (by decide) (by decide)) (by rfl) (by decide) (by rfl) (by rfl) (by rfl))) (@ss_one _ _ _ _ (@s_lastApp _ _ _ _ _ _ 2 _ _ (@v_top _ _ _ _ _ _ _ (@v_var _ 2 _ _ (by rfl) (by first | exact Or.inl rfl | exact Or.inr (Or.inl rfl) | exact Or.inr (Or.inr rfl)) (by decide) (by decide))) (@e_call _ _ _ _ _ _ _ _ _ _ _ _ _ _ G_read_piece (hr.mono (by decide)) T.m_read_piece T.k_read_piece B_read_piece (@a_cons _ _ _ _ _ _ (e_var 3) a_nil (by rfl)) (by rfl) (by decide) (by rfl) (by rfl)) (by rfl) (by rfl) (by rfl) (by rfl) (by rfl) (by rfl))))))) (by intro _; rfl)) (@ss_cons _ _ _ _ _ _ (@s_if _ _ _ _ _ _ _ _ _ (@t_gt _ _ _ _ _ _ _ (@e_lenL _ _ _ _ 2 _ T.z_len (@v_var _ 2 _ _ (by rfl) (by first | exact Or.inl rfl | exact Or.inr (Or.inl rfl) | exact Or.inr (Or.inr rfl)) (by decide) (by decide)) (by rfl) (by rfl) (by rfl)) e_int) (@ss_one _ _ _ _ s_never) ss_nil) (@ss_one _ _ _ _ (@s_ret _ _ _ _ _ (@e_headTup _ _ _ _ 2 _ _ _ _ T.z_tuple (@v_var _ 2 _ _ (by rfl) (by first | exact Or.inl rfl | exact Or.inr (Or.inl rfl) | exact Or.inr (Or.inr rfl)) (by decide) (by decide)) (by rfl) (by rfl) (by rfl))))))))))
theorem sc_show_piece : FnScope ["piece"] ["piece"] (defScope st_show_piece) := ⟨rfl, rfl, rfl, by decide +kernel, rfl, by decide +kernel, by decide +kernel⟩
theorem ok_show_piece {fd : FuncData} {lv : Nat} {r_show_template : List D → Option SV} (hlv : 0 ≤ lv) (F : Fun K "show_piece" "show_piece" st_show_piece fshow_piece fd) (T : Txt K mg tMANY_FIGURES tMOST_DEEP tMOST_NAMES tMOST_PIECES tNAME_LENGTH tSMALL_LETTERS tSTYLE_SIGNS tWAY_FIGURES flaw_numbers flaw_name flaw_signs flaw_piece fsigns_end fcut_end fcuts_of fbegin_group fend_group fis_all_of fis_text_of fis_name fcheck_name fread_hands_piece fread_piece fread_template fshow_piece fshow_template flaw_alike flaw) {fd_show_template : FuncData} (G_show_template : FnOk P w K mg base CX0 (lv) fshow_template fd_show_template ["T"] (spOf K 1 (r_show_template))) (B_show_template : Binds K fd_show_template ["T"] []) :
    FnOk P w K mg base CX0 (lv + 1) fshow_piece fd ["piece"] (spOf K 1 (q_show_piece r_show_template)) := by
  refine F.ok sc_show_piece (fun vs H Q E h => spOf_len h) (fun cdv A outer s H vs Q E hr h => ?_)
  obtain ⟨F0, h⟩ := body_out (N := ["piece"]) (f := (f_show_piece r_show_template)) h
  have hu := hu_of hr
  have hv := hr.units
  refine ⟨liftS (ent H F0 : Ent K) (f_show_piece r_show_template), ?_, h⟩
  exact (@ss_cons _ _ _ _ _ _ (@s_if _ _ _ _ _ _ _ _ _ (@t_eqX _ _ _ _ _ _ _ hv (@e_ix _ _ _ _ _ _ _ hu (e_var 0) e_int (by intro _ _; rfl)) e_str) (@ss_one _ _ _ _ (@s_ret _ _ _ _ _ (@e_ix _ _ _ _ _ _ _ hu (e_var 0) e_int (by intro _ _; rfl)))) ss_nil) (@ss_cons _ _ _ _ _ _ (@s_if _ _ _ _ _ _ _ _ _ (@t_eqX _ _ _ _ _ _ _ hv (@e_ix _ _ _ _ _ _ _ hu (e_var 0) e_int (by intro _ _; rfl)) e_str) (@ss_one _ _ _ _ (@s_ret _ _ _ _ _ (@e_add _ _ _ _ _ _ _ (@e_add _ _ _ _ _ _ _ e_str (@e_joinX _ _ _ _ _ _ _ _ e_str (@e_ix _ _ _ _ _ _ _ hu (e_var 0) e_int (by intro _ _; rfl)) (by rfl) (by rfl) (by rfl) (by rfl) (by rfl))) e_str))) ss_nil) (@ss_cons _ _ _ _ _ _ (@s_if _ _ _ _ _ _ _ _ _ (@t_eqX _ _ _ _ _ _ _ hv (@e_ix _ _ _ _ _ _ _ hu (e_var 0) e_int (by intro _ _; rfl)) e_str) (@ss_one _ _ _ _ (@s_ret _ _ _ _ _ (@e_add _ _ _ _ _ _ _ (@e_add _ _ _ _ _ _ _ (@e_add _ _ _ _ _ _ _ (@e_add _ _ _ _ _ _ _ (@e_add _ _ _ _ _ _ _ (@e_add _ _ _ _ _ _ _ e_str (@e_ix _ _ _ _ _ _ _ hu (e_var 0) e_int (by intro _ _; rfl))) e_str) (@e_strC _ _ _ _ _ _ T.z_str (@e_ix _ _ _ _ _ _ _ hu (e_var 0) e_int (by intro _ _; rfl)) (by rfl) (by rfl) (by rfl))) e_str) (@e_strC _ _ _ _ _ _ T.z_str (@e_ix _ _ _ _ _ _ _ hu (e_var 0) e_int (by intro _ _; rfl)) (by rfl) (by rfl) (by rfl))) e_str))) ss_nil) (@ss_one _ _ _ _ (@s_ret _ _ _ _ _ (@e_add _ _ _ _ _ _ _ (@e_add _ _ _ _ _ _ _ e_str (@e_call _ _ _ _ _ _ _ _ _ _ _ _ _ _ G_show_template (hr.mono (by omega)) T.m_show_template T.k_show_template B_show_template (@a_cons _ _ _ _ _ _ (@e_ix _ _ _ _ _ _ _ hu (e_var 0) e_int (by intro _ _; rfl)) a_nil (by rfl)) (by rfl) (by decide) (by rfl) (by rfl))) e_str))))))
theorem sc_show_template : FnScope ["T"] ["T"] (defScope st_show_template) := ⟨rfl, rfl, rfl, by decide +kernel, rfl, by decide +kernel, by decide +kernel⟩
theorem ok_show_template {fd : FuncData} {lv : Nat} {r_show_template : List D → Option SV} (hlv : 0 ≤ lv) (F : Fun K "show_template" "show_template" st_show_template fshow_template fd) (T : Txt K mg tMANY_FIGURES tMOST_DEEP tMOST_NAMES tMOST_PIECES tNAME_LENGTH tSMALL_LETTERS tSTYLE_SIGNS tWAY_FIGURES flaw_numbers flaw_name flaw_signs flaw_piece fsigns_end fcut_end fcuts_of fbegin_group fend_group fis_all_of fis_text_of fis_name fcheck_name fread_hands_piece fread_piece fread_template fshow_piece fshow_template flaw_alike flaw) {fd_show_piece : FuncData} (G_show_piece : FnOk P w K mg base CX0 (lv + 1) fshow_piece fd_show_piece ["piece"] (spOf K 1 (q_show_piece r_show_template))) (B_show_piece : Binds K fd_show_piece ["piece"] []) :
    FnOk P w K mg base CX0 (lv + 2) fshow_template fd ["T"] (spOf K 1 (outOf (f_show_template r_show_template) 1)) := by
  refine F.ok sc_show_template (fun vs H Q E h => spOf_len h) (fun cdv A outer s H vs Q E hr h => ?_)
  obtain ⟨F0, h⟩ := body_out (N := ["T"]) (f := (f_show_template r_show_template)) h
  have hu := hu_of hr
  have hv := hr.units
  refine ⟨liftS (ent H F0 : Ent K) (f_show_template r_show_template), ?_, h⟩
  exact (@ss_one _ _ _ _ (@s_ret _ _ _ _ _ (@e_joinX _ _ _ _ _ _ _ _ e_str (@e_comp _ _ _ _ _ _ _ _ _ _ _ _ _ _ _ rfl (compScope (N' := ["piece", ".acc"]) (src := [.own, .acc]) (by rfl) (by rfl) (by rfl) (by rfl) (by rfl) (by rfl)) (srcOk 1 (by rfl) (by rfl)) (by decide) (@i_any _ _ _ _ _ (e_var 0)) (fun _ _ _ _ => @xg _ _ _ (fun _ => (@g_name _ _ _ 0 _ (show (["piece", ".acc"] : List Str).Nodup by decide +kernel) (by rfl) (by first | exact Or.inl rfl | exact Or.inr rfl) (by first | exact .inl rfl | exact .inr rfl)))) (fun _ _ _ _ => xt0) (fun _ _ _ _ => @xe _ _ _ (fun _ => (@e_call _ _ _ _ _ _ _ _ _ _ _ _ _ _ G_show_piece (hr.mono (by omega)) T.m_show_piece T.k_show_piece B_show_piece (@a_cons _ _ _ _ _ _ (e_var 0) a_nil (by rfl)) (by rfl) (by decide) (by rfl) (by rfl)))) (by intro _; rfl)) (by rfl) (by rfl) (by rfl) (by rfl) (by rfl))))
theorem rec_show_template {fd_show_piece : FuncData} (F_show_piece : Fun K "show_piece" "show_piece" st_show_piece fshow_piece fd_show_piece) (B_show_piece : Binds K fd_show_piece ["piece"] []) {fd_show_template : FuncData} (F_show_template : Fun K "show_template" "show_template" st_show_template fshow_template fd_show_template) (B_show_template : Binds K fd_show_template ["T"] []) (T : Txt K mg tMANY_FIGURES tMOST_DEEP tMOST_NAMES tMOST_PIECES tNAME_LENGTH tSMALL_LETTERS tSTYLE_SIGNS tWAY_FIGURES flaw_numbers flaw_name flaw_signs flaw_piece fsigns_end fcut_end fcuts_of fbegin_group fend_group fis_all_of fis_text_of fis_name fcheck_name fread_hands_piece fread_piece fread_template fshow_piece fshow_template flaw_alike flaw) :
    ∀ n : Nat, FnOk P w K mg base CX0 (0 + 2 * n) fshow_template fd_show_template ["T"] (spOf K 1 (n_show_template n))
  | 0 => fnOk_none
  | n + 1 => by
    have G_show_template := rec_show_template F_show_piece B_show_piece F_show_template B_show_template T n
    have G_show_piece := ok_show_piece (lv := 0 + 2 * n) (by omega) F_show_piece T G_show_template B_show_template
    exact (ok_show_template (lv := 0 + 2 * n) (by omega) F_show_template T G_show_piece B_show_piece).mono (by omega)
theorem sc_law_alike : FnScope ["_law_found", "_law_due"] ["_law_found", "_law_due"] (defScope st_law_alike) := ⟨rfl, rfl, rfl, by decide +kernel, rfl, by decide +kernel, by decide +kernel⟩
theorem ok_law_alike {fd : FuncData} {lv : Nat} {r_law_alike : List D → Option SV} (hlv : 0 ≤ lv) (F : Fun K "_law_alike" "_law_alike" st_law_alike flaw_alike fd) (T : Txt K mg tMANY_FIGURES tMOST_DEEP tMOST_NAMES tMOST_PIECES tNAME_LENGTH tSMALL_LETTERS tSTYLE_SIGNS tWAY_FIGURES flaw_numbers flaw_name flaw_signs flaw_piece fsigns_end fcut_end fcuts_of fbegin_group fend_group fis_all_of fis_text_of fis_name fcheck_name fread_hands_piece fread_piece fread_template fshow_piece fshow_template flaw_alike flaw) {fd_law_alike : FuncData} (G_law_alike : FnOk P w K mg base CX0 (lv) flaw_alike fd_law_alike ["_law_found", "_law_due"] (spOf K 2 (r_law_alike))) (B_law_alike : Binds K fd_law_alike ["_law_found", "_law_due"] []) :
    FnOk P w K mg base CX0 (lv + 1) flaw_alike fd ["_law_found", "_law_due"] (spOf K 2 (outOf (f_law_alike r_law_alike) 2)) := by
  refine F.ok sc_law_alike (fun vs H Q E h => spOf_len h) (fun cdv A outer s H vs Q E hr h => ?_)
  obtain ⟨F0, h⟩ := body_out (N := ["_law_found", "_law_due"]) (f := (f_law_alike r_law_alike)) h
  have hu := hu_of hr
  have hv := hr.units
  refine ⟨liftS (ent H F0 : Ent K) (f_law_alike r_law_alike), ?_, h⟩
  exact (@ss_cons _ _ _ _ _ _ (@s_if _ _ _ _ _ _ _ _ _ (@t_val _ _ _ _ (@e_isi _ _ _ _ _ _ _ _ _ T.z_isinstance T.z_tuple boot_tuple (kit_tuple _) (e_var 1) (by rfl) (by rfl) (by decide) (by decide) (by rfl) (by rfl) (by rfl)) (by intro _; rfl)) (@ss_cons _ _ _ _ _ _ (@s_if _ _ _ _ _ _ _ _ _ (@PW.pt _ _ _ (@w_or _ _ _ _ _ _ _ _ (@t_not _ _ _ _ _ (@t_val _ _ _ _ (@e_isi _ _ _ _ _ _ _ _ _ T.z_isinstance T.z_tuple boot_tuple (kit_tuple _) (e_var 0) (by rfl) (by rfl) (by decide) (by decide) (by rfl) (by rfl) (by rfl)) (by intro _; rfl))) (@w_or1 _ _ _ _ _ (@t_neX _ _ _ _ _ _ _ hv (@e_len _ _ _ _ _ _ T.z_len (e_var 0) (by rfl) (by rfl) (by rfl)) (@e_len _ _ _ _ _ _ T.z_len (e_var 1) (by rfl) (by rfl) (by rfl)))))) (@ss_one _ _ _ _ (@s_ret _ _ _ _ _ e_bl)) ss_nil) (@ss_one _ _ _ _ (@s_ret _ _ _ _ _ (@e_notinW _ _ _ _ _ _ _ hu e_bl (@e_comp _ _ _ _ _ _ _ _ _ _ _ _ _ _ _ rfl (compScope (N' := ["_law_k", "_law_found", "_law_due", ".acc"]) (src := [.own, .cap 0, .cap 1, .acc]) (by rfl) (by rfl) (by rfl) (by rfl) (by rfl) (by rfl)) (srcOk 3 (by rfl) (by rfl)) (by decide) (@i_rng _ _ _ _ _ _ _ T.z_range (@e_len _ _ _ _ _ _ T.z_len (e_var 1) (by rfl) (by rfl) (by rfl)) (by rfl) (by rfl)) (fun _ _ _ _ => @xg _ _ _ (fun _ => (@g_name _ _ _ 0 _ (show (["_law_k", "_law_found", "_law_due", ".acc"] : List Str).Nodup by decide +kernel) (by rfl) (by first | exact Or.inl rfl | exact Or.inr rfl) (by first | exact .inl rfl | exact .inr rfl)))) (fun _ _ _ _ => xt0) (fun _ _ _ _ => @xe _ _ _ (fun _ => (@e_call _ _ _ _ _ _ _ _ _ _ _ _ _ _ G_law_alike (hr.mono (by omega)) T.m_law_alike T.k_law_alike B_law_alike (@a_cons _ _ _ _ _ _ (@e_ix _ _ _ _ _ _ _ hu (e_var 1) (e_var 0) (by intro _ _; rfl)) (@a_cons _ _ _ _ _ _ (@e_ix _ _ _ _ _ _ _ hu (e_var 2) (e_var 0) (by intro _ _; rfl)) a_nil (by rfl)) (by rfl)) (by rfl) (by decide) (by rfl) (by rfl)))) (by intro _; rfl)) (by rfl))))) ss_nil) (@ss_cons _ _ _ _ _ _ (@s_if _ _ _ _ _ _ _ _ _ (@t_val _ _ _ _ (@e_isi _ _ _ _ _ _ _ _ _ T.z_isinstance T.z_str boot_str (kit_str _) (e_var 1) (by rfl) (by rfl) (by decide) (by decide) (by rfl) (by rfl) (by rfl)) (by intro _; rfl)) (@ss_one _ _ _ _ (@s_ret _ _ _ _ _ (@e_and _ _ _ _ _ _ _ _ (@e_isi _ _ _ _ _ _ _ _ _ T.z_isinstance T.z_str boot_str (kit_str _) (e_var 0) (by rfl) (by rfl) (by decide) (by decide) (by rfl) (by rfl) (by rfl)) (@e_one _ _ _ _ _ _ (@e_eqX _ _ _ _ _ _ _ hv (e_var 0) (e_var 1)))))) ss_nil) (@ss_one _ _ _ _ (@s_ret _ _ _ _ _ (@e_and _ _ _ _ _ _ _ _ (@e_isi _ _ _ _ _ _ _ _ _ T.z_isinstance T.z_int boot_int (kit_int _) (e_var 0) (by rfl) (by rfl) (by decide) (by decide) (by rfl) (by rfl) (by rfl)) (@e_and _ _ _ _ _ _ _ _ (@e_not _ _ _ _ _ (@e_isi _ _ _ _ _ _ _ _ _ T.z_isinstance T.z_bool boot_bool (kit_bool _) (e_var 0) (by rfl) (by rfl) (by decide) (by decide) (by rfl) (by rfl) (by rfl))) (@e_one _ _ _ _ _ _ (@e_eqX _ _ _ _ _ _ _ hv (e_var 0) (e_var 1)))))))))
theorem rec_law_alike {fd_law_alike : FuncData} (F_law_alike : Fun K "_law_alike" "_law_alike" st_law_alike flaw_alike fd_law_alike) (B_law_alike : Binds K fd_law_alike ["_law_found", "_law_due"] []) (T : Txt K mg tMANY_FIGURES tMOST_DEEP tMOST_NAMES tMOST_PIECES tNAME_LENGTH tSMALL_LETTERS tSTYLE_SIGNS tWAY_FIGURES flaw_numbers flaw_name flaw_signs flaw_piece fsigns_end fcut_end fcuts_of fbegin_group fend_group fis_all_of fis_text_of fis_name fcheck_name fread_hands_piece fread_piece fread_template fshow_piece fshow_template flaw_alike flaw) :
    ∀ n : Nat, FnOk P w K mg base CX0 (0 + 1 * n) flaw_alike fd_law_alike ["_law_found", "_law_due"] (spOf K 2 (n_law_alike n))
  | 0 => fnOk_none
  | n + 1 => by
    have G_law_alike := rec_law_alike F_law_alike B_law_alike T n
    exact (ok_law_alike (lv := 0 + 1 * n) (by omega) F_law_alike T G_law_alike B_law_alike).mono (by omega)
theorem sc_law : FnScope ["_law_script", "_law_cell", "_law_piece_here", "_law_text"] ["_law_script"] (defScope st_law) := ⟨rfl, rfl, rfl, by decide +kernel, rfl, by decide +kernel, by decide +kernel⟩
theorem ok_law {fd : FuncData} (F : Fun K "law" "law" st_law flaw fd) (T : Txt K mg tMANY_FIGURES tMOST_DEEP tMOST_NAMES tMOST_PIECES tNAME_LENGTH tSMALL_LETTERS tSTYLE_SIGNS tWAY_FIGURES flaw_numbers flaw_name flaw_signs flaw_piece fsigns_end fcut_end fcuts_of fbegin_group fend_group fis_all_of fis_text_of fis_name fcheck_name fread_hands_piece fread_piece fread_template fshow_piece fshow_template flaw_alike flaw) {fd_law_piece : FuncData} (G_law_piece : FnOk P w K mg base CX0 3 flaw_piece fd_law_piece ["_law_cell"] (spOf K 1 g_law_piece)) (B_law_piece : Binds K fd_law_piece ["_law_cell"] []) {fd_read_template : FuncData} (G_read_template : FnOk P w K mg base CX0 7 fread_template fd_read_template ["text"] (spOf K 1 g_read_template)) (B_read_template : Binds K fd_read_template ["text"] []) {fd_show_template : FuncData} (G_show_template : FnOk P w K mg base CX0 24 fshow_template fd_show_template ["T"] (spOf K 1 g_show_template)) (B_show_template : Binds K fd_show_template ["T"] []) {fd_law_alike : FuncData} (G_law_alike : FnOk P w K mg base CX0 12 flaw_alike fd_law_alike ["_law_found", "_law_due"] (spOf K 2 g_law_alike)) (B_law_alike : Binds K fd_law_alike ["_law_found", "_law_due"] []) :
    FnOk P w K mg base CX0 25 flaw fd ["_law_script"] (spOf K 1 g_law) := by
  refine F.ok sc_law (fun vs H Q E h => spOf_len h) (fun cdv A outer s H vs Q E hr h => ?_)
  obtain ⟨F0, h⟩ := body_out (N := ["_law_script", "_law_cell", "_law_piece_here", "_law_text"]) (f := f_law) h
  have hu := hu_of hr
  have hv := hr.units
  refine ⟨liftS (ent H F0 : Ent K) f_law, ?_, h⟩
  exact (@ss_cons _ _ _ _ _ _ (@s_if _ _ _ _ _ _ _ _ _ (@PW.pt _ _ _ (@w_or _ _ _ _ _ _ _ _ (@t_neX _ _ _ _ _ _ _ hv (@e_call _ _ _ _ _ _ _ _ _ _ _ _ _ _ G_read_template (hr.mono (by decide)) T.m_read_template T.k_read_template B_read_template (@a_cons _ _ _ _ _ _ e_str a_nil (by rfl)) (by rfl) (by decide) (by rfl) (by rfl)) (@e_tup _ _ _ _ _ _ d_nil)) (@w_or1 _ _ _ _ _ (@t_neX _ _ _ _ _ _ _ hv (@e_call _ _ _ _ _ _ _ _ _ _ _ _ _ _ G_show_template (hr.mono (by decide)) T.m_show_template T.k_show_template B_show_template (@a_cons _ _ _ _ _ _ (@e_tup _ _ _ _ _ _ d_nil) a_nil (by rfl)) (by rfl) (by decide) (by rfl) (by rfl)) e_str)))) (@ss_one _ _ _ _ (@s_ret _ _ _ _ _ e_bl)) ss_nil) (@ss_cons _ _ _ _ _ _ (@s_for _ _ _ _ _ _ _ _ _ PassesOwn.never rfl (@i_any _ _ _ _ _ (@e_sl _ _ _ _ _ _ _ _ _ _ (e_var 0) o_none (@o_some _ _ _ _ e_int))) (@g_name _ _ _ 1 _ sc_law.nd (by rfl) (by first | exact Or.inl rfl | exact Or.inr rfl) (by first | exact .inl rfl | exact .inr rfl)) (@ss_cons _ _ _ _ _ _ (@s_unpack _ _ _ _ _ _ _ (@e_call _ _ _ _ _ _ _ _ _ _ _ _ _ _ G_law_piece (hr.mono (by decide)) T.m_law_piece T.k_law_piece B_law_piece (@a_cons _ _ _ _ _ _ (e_var 1) a_nil (by rfl)) (by rfl) (by decide) (by rfl) (by rfl)) (@g_tup _ _ _ _ _ _ _ rfl (@gs_cons _ _ _ _ _ _ (@g_name _ _ _ 2 _ sc_law.nd (by rfl) (by first | exact Or.inl rfl | exact Or.inr rfl) (by first | exact .inl rfl | exact .inr rfl)) (@gs_cons _ _ _ _ _ _ (@g_name _ _ _ 3 _ sc_law.nd (by rfl) (by first | exact Or.inl rfl | exact Or.inr rfl) (by first | exact .inl rfl | exact .inr rfl)) gs_nil (by rfl)) (by rfl)) (by rfl) (by rfl)) (by rfl) (by rfl) (by rfl)) (@ss_one _ _ _ _ (@s_if _ _ _ _ _ _ _ _ _ (@PW.pt _ _ _ (@w_or _ _ _ _ _ _ _ _ (@t_not _ _ _ _ _ (@t_val _ _ _ _ (@e_call _ _ _ _ _ _ _ _ _ _ _ _ _ _ G_law_alike (hr.mono (by decide)) T.m_law_alike T.k_law_alike B_law_alike (@a_cons _ _ _ _ _ _ (@e_call _ _ _ _ _ _ _ _ _ _ _ _ _ _ G_read_template (hr.mono (by decide)) T.m_read_template T.k_read_template B_read_template (@a_cons _ _ _ _ _ _ (e_var 3) a_nil (by rfl)) (by rfl) (by decide) (by rfl) (by rfl)) (@a_cons _ _ _ _ _ _ (@e_tup _ _ _ _ _ _ (@d_cons _ _ _ _ _ _ (e_var 2) d_nil (by rfl))) a_nil (by rfl)) (by rfl)) (by rfl) (by decide) (by rfl) (by rfl)) (by intro _; rfl))) (@w_or1 _ _ _ _ _ (@t_neX _ _ _ _ _ _ _ hv (@e_call _ _ _ _ _ _ _ _ _ _ _ _ _ _ G_show_template (hr.mono (by decide)) T.m_show_template T.k_show_template B_show_template (@a_cons _ _ _ _ _ _ (@e_tup _ _ _ _ _ _ (@d_cons _ _ _ _ _ _ (e_var 2) d_nil (by rfl))) a_nil (by rfl)) (by rfl) (by decide) (by rfl) (by rfl)) (e_var 3))))) (@ss_one _ _ _ _ (@s_ret _ _ _ _ _ e_bl)) ss_nil))) (by intro _; rfl)) (@ss_one _ _ _ _ (@s_ret _ _ _ _ _ e_bl))))
end
theorem all_mk {l : PySem.W.OpenLaw} {w : World} {K : PySem.W.Frag} {h : Heap} {mg : Str → Option Value} {tMANY_FIGURES : Tok} {tMOST_DEEP : Tok} {tMOST_NAMES : Tok} {tMOST_PIECES : Tok} {tNAME_LENGTH : Tok} {tSMALL_LETTERS : Tok} {tSTYLE_SIGNS : Tok} {tWAY_FIGURES : Tok} {fa flaw_numbers flaw_name flaw_signs flaw_piece fsigns_end fcut_end fcuts_of fbegin_group fend_group fis_all_of fis_text_of fis_name fcheck_name fread_hands_piece fread_piece fread_template fshow_piece fshow_template flaw_alike flaw : Addr} (X : K.In h) (G : h.Ns mainGlobals mg) (hfa : mg "law" = some (.ref fa))
    {odlaw_numbers anlaw_numbers : Option Addr} {sllaw_numbers : Array (Option Value)} {oclaw_numbers kVlaw_numbers dclaw_numbers pmlaw_numbers cdlaw_numbers ctlaw_numbers : Value}
    {odlaw_name anlaw_name : Option Addr} {sllaw_name : Array (Option Value)} {oclaw_name kVlaw_name dclaw_name pmlaw_name cdlaw_name ctlaw_name : Value}
    {odlaw_signs anlaw_signs : Option Addr} {sllaw_signs : Array (Option Value)} {oclaw_signs kVlaw_signs dclaw_signs pmlaw_signs cdlaw_signs ctlaw_signs : Value}
    {odlaw_piece anlaw_piece : Option Addr} {sllaw_piece : Array (Option Value)} {oclaw_piece kVlaw_piece dclaw_piece pmlaw_piece cdlaw_piece ctlaw_piece : Value}
    {odsigns_end ansigns_end : Option Addr} {slsigns_end : Array (Option Value)} {ocsigns_end kVsigns_end dcsigns_end pmsigns_end cdsigns_end ctsigns_end : Value}
    {odcut_end ancut_end : Option Addr} {slcut_end : Array (Option Value)} {occut_end kVcut_end dccut_end pmcut_end cdcut_end ctcut_end : Value}
    {odcuts_of ancuts_of : Option Addr} {slcuts_of : Array (Option Value)} {occuts_of kVcuts_of dccuts_of pmcuts_of cdcuts_of ctcuts_of : Value}
    {odbegin_group anbegin_group : Option Addr} {slbegin_group : Array (Option Value)} {ocbegin_group kVbegin_group dcbegin_group pmbegin_group cdbegin_group ctbegin_group : Value}
    {odend_group anend_group : Option Addr} {slend_group : Array (Option Value)} {ocend_group kVend_group dcend_group pmend_group cdend_group ctend_group : Value}
    {odis_all_of anis_all_of : Option Addr} {slis_all_of : Array (Option Value)} {ocis_all_of kVis_all_of dcis_all_of pmis_all_of cdis_all_of ctis_all_of : Value}
    {odis_text_of anis_text_of : Option Addr} {slis_text_of : Array (Option Value)} {ocis_text_of kVis_text_of dcis_text_of pmis_text_of cdis_text_of ctis_text_of : Value}
    {odis_name anis_name : Option Addr} {slis_name : Array (Option Value)} {ocis_name kVis_name dcis_name pmis_name cdis_name ctis_name : Value}
    {odcheck_name ancheck_name : Option Addr} {slcheck_name : Array (Option Value)} {occheck_name kVcheck_name dccheck_name pmcheck_name cdcheck_name ctcheck_name : Value}
    {odread_hands_piece anread_hands_piece : Option Addr} {slread_hands_piece : Array (Option Value)} {ocread_hands_piece kVread_hands_piece dcread_hands_piece pmread_hands_piece cdread_hands_piece ctread_hands_piece : Value}
    {odread_piece anread_piece : Option Addr} {slread_piece : Array (Option Value)} {ocread_piece kVread_piece dcread_piece pmread_piece cdread_piece ctread_piece : Value}
    {odread_template anread_template : Option Addr} {slread_template : Array (Option Value)} {ocread_template kVread_template dcread_template pmread_template cdread_template ctread_template : Value}
    {odshow_piece anshow_piece : Option Addr} {slshow_piece : Array (Option Value)} {ocshow_piece kVshow_piece dcshow_piece pmshow_piece cdshow_piece ctshow_piece : Value}
    {odshow_template anshow_template : Option Addr} {slshow_template : Array (Option Value)} {ocshow_template kVshow_template dcshow_template pmshow_template cdshow_template ctshow_template : Value}
    {odlaw_alike anlaw_alike : Option Addr} {sllaw_alike : Array (Option Value)} {oclaw_alike kVlaw_alike dclaw_alike pmlaw_alike cdlaw_alike ctlaw_alike : Value}
    {odlaw anlaw : Option Addr} {sllaw : Array (Option Value)} {oclaw kVlaw dclaw pmlaw cdlaw ctlaw : Value}
    (alaw_numbers : PySem.W.nsIn K mainGlobals "_law_numbers" = some (some (.ref flaw_numbers))) (llaw_numbers : K.lookup flaw_numbers = some ⟨oclaw_numbers, odlaw_numbers, .func (PySem.W.fnOf "_law_numbers" "_law_numbers" (defArgs st_law_numbers) (defBody st_law_numbers) (defScope st_law_numbers) .none kVlaw_numbers dclaw_numbers pmlaw_numbers anlaw_numbers cdlaw_numbers ctlaw_numbers), sllaw_numbers⟩) (claw_numbers : PySem.W.codeIn K cdlaw_numbers "_law_numbers" = true) (klaw_numbers : PySem.W.keepIn K (.ref flaw_numbers) = true)
    (alaw_name : PySem.W.nsIn K mainGlobals "_law_name" = some (some (.ref flaw_name))) (llaw_name : K.lookup flaw_name = some ⟨oclaw_name, odlaw_name, .func (PySem.W.fnOf "_law_name" "_law_name" (defArgs st_law_name) (defBody st_law_name) (defScope st_law_name) .none kVlaw_name dclaw_name pmlaw_name anlaw_name cdlaw_name ctlaw_name), sllaw_name⟩) (claw_name : PySem.W.codeIn K cdlaw_name "_law_name" = true) (klaw_name : PySem.W.keepIn K (.ref flaw_name) = true)
    (alaw_signs : PySem.W.nsIn K mainGlobals "_law_signs" = some (some (.ref flaw_signs))) (llaw_signs : K.lookup flaw_signs = some ⟨oclaw_signs, odlaw_signs, .func (PySem.W.fnOf "_law_signs" "_law_signs" (defArgs st_law_signs) (defBody st_law_signs) (defScope st_law_signs) .none kVlaw_signs dclaw_signs pmlaw_signs anlaw_signs cdlaw_signs ctlaw_signs), sllaw_signs⟩) (claw_signs : PySem.W.codeIn K cdlaw_signs "_law_signs" = true) (klaw_signs : PySem.W.keepIn K (.ref flaw_signs) = true)
    (alaw_piece : PySem.W.nsIn K mainGlobals "_law_piece" = some (some (.ref flaw_piece))) (llaw_piece : K.lookup flaw_piece = some ⟨oclaw_piece, odlaw_piece, .func (PySem.W.fnOf "_law_piece" "_law_piece" (defArgs st_law_piece) (defBody st_law_piece) (defScope st_law_piece) .none kVlaw_piece dclaw_piece pmlaw_piece anlaw_piece cdlaw_piece ctlaw_piece), sllaw_piece⟩) (claw_piece : PySem.W.codeIn K cdlaw_piece "_law_piece" = true) (klaw_piece : PySem.W.keepIn K (.ref flaw_piece) = true)
    (asigns_end : PySem.W.nsIn K mainGlobals "signs_end" = some (some (.ref fsigns_end))) (lsigns_end : K.lookup fsigns_end = some ⟨ocsigns_end, odsigns_end, .func (PySem.W.fnOf "signs_end" "signs_end" (defArgs st_signs_end) (defBody st_signs_end) (defScope st_signs_end) .none kVsigns_end dcsigns_end pmsigns_end ansigns_end cdsigns_end ctsigns_end), slsigns_end⟩) (csigns_end : PySem.W.codeIn K cdsigns_end "signs_end" = true) (ksigns_end : PySem.W.keepIn K (.ref fsigns_end) = true)
    (acut_end : PySem.W.nsIn K mainGlobals "cut_end" = some (some (.ref fcut_end))) (lcut_end : K.lookup fcut_end = some ⟨occut_end, odcut_end, .func (PySem.W.fnOf "cut_end" "cut_end" (defArgs st_cut_end) (defBody st_cut_end) (defScope st_cut_end) .none kVcut_end dccut_end pmcut_end ancut_end cdcut_end ctcut_end), slcut_end⟩) (ccut_end : PySem.W.codeIn K cdcut_end "cut_end" = true) (kcut_end : PySem.W.keepIn K (.ref fcut_end) = true)
    (acuts_of : PySem.W.nsIn K mainGlobals "cuts_of" = some (some (.ref fcuts_of))) (lcuts_of : K.lookup fcuts_of = some ⟨occuts_of, odcuts_of, .func (PySem.W.fnOf "cuts_of" "cuts_of" (defArgs st_cuts_of) (defBody st_cuts_of) (defScope st_cuts_of) .none kVcuts_of dccuts_of pmcuts_of ancuts_of cdcuts_of ctcuts_of), slcuts_of⟩) (ccuts_of : PySem.W.codeIn K cdcuts_of "cuts_of" = true) (kcuts_of : PySem.W.keepIn K (.ref fcuts_of) = true)
    (abegin_group : PySem.W.nsIn K mainGlobals "begin_group" = some (some (.ref fbegin_group))) (lbegin_group : K.lookup fbegin_group = some ⟨ocbegin_group, odbegin_group, .func (PySem.W.fnOf "begin_group" "begin_group" (defArgs st_begin_group) (defBody st_begin_group) (defScope st_begin_group) .none kVbegin_group dcbegin_group pmbegin_group anbegin_group cdbegin_group ctbegin_group), slbegin_group⟩) (cbegin_group : PySem.W.codeIn K cdbegin_group "begin_group" = true) (kbegin_group : PySem.W.keepIn K (.ref fbegin_group) = true)
    (aend_group : PySem.W.nsIn K mainGlobals "end_group" = some (some (.ref fend_group))) (lend_group : K.lookup fend_group = some ⟨ocend_group, odend_group, .func (PySem.W.fnOf "end_group" "end_group" (defArgs st_end_group) (defBody st_end_group) (defScope st_end_group) .none kVend_group dcend_group pmend_group anend_group cdend_group ctend_group), slend_group⟩) (cend_group : PySem.W.codeIn K cdend_group "end_group" = true) (kend_group : PySem.W.keepIn K (.ref fend_group) = true)
    (ais_all_of : PySem.W.nsIn K mainGlobals "is_all_of" = some (some (.ref fis_all_of))) (lis_all_of : K.lookup fis_all_of = some ⟨ocis_all_of, odis_all_of, .func (PySem.W.fnOf "is_all_of" "is_all_of" (defArgs st_is_all_of) (defBody st_is_all_of) (defScope st_is_all_of) .none kVis_all_of dcis_all_of pmis_all_of anis_all_of cdis_all_of ctis_all_of), slis_all_of⟩) (cis_all_of : PySem.W.codeIn K cdis_all_of "is_all_of" = true) (kis_all_of : PySem.W.keepIn K (.ref fis_all_of) = true)
    (ais_text_of : PySem.W.nsIn K mainGlobals "is_text_of" = some (some (.ref fis_text_of))) (lis_text_of : K.lookup fis_text_of = some ⟨ocis_text_of, odis_text_of, .func (PySem.W.fnOf "is_text_of" "is_text_of" (defArgs st_is_text_of) (defBody st_is_text_of) (defScope st_is_text_of) .none kVis_text_of dcis_text_of pmis_text_of anis_text_of cdis_text_of ctis_text_of), slis_text_of⟩) (cis_text_of : PySem.W.codeIn K cdis_text_of "is_text_of" = true) (kis_text_of : PySem.W.keepIn K (.ref fis_text_of) = true)
    (ais_name : PySem.W.nsIn K mainGlobals "is_name" = some (some (.ref fis_name))) (lis_name : K.lookup fis_name = some ⟨ocis_name, odis_name, .func (PySem.W.fnOf "is_name" "is_name" (defArgs st_is_name) (defBody st_is_name) (defScope st_is_name) .none kVis_name dcis_name pmis_name anis_name cdis_name ctis_name), slis_name⟩) (cis_name : PySem.W.codeIn K cdis_name "is_name" = true) (kis_name : PySem.W.keepIn K (.ref fis_name) = true)
    (acheck_name : PySem.W.nsIn K mainGlobals "check_name" = some (some (.ref fcheck_name))) (lcheck_name : K.lookup fcheck_name = some ⟨occheck_name, odcheck_name, .func (PySem.W.fnOf "check_name" "check_name" (defArgs st_check_name) (defBody st_check_name) (defScope st_check_name) .none kVcheck_name dccheck_name pmcheck_name ancheck_name cdcheck_name ctcheck_name), slcheck_name⟩) (ccheck_name : PySem.W.codeIn K cdcheck_name "check_name" = true) (kcheck_name : PySem.W.keepIn K (.ref fcheck_name) = true)
    (aread_hands_piece : PySem.W.nsIn K mainGlobals "read_hands_piece" = some (some (.ref fread_hands_piece))) (lread_hands_piece : K.lookup fread_hands_piece = some ⟨ocread_hands_piece, odread_hands_piece, .func (PySem.W.fnOf "read_hands_piece" "read_hands_piece" (defArgs st_read_hands_piece) (defBody st_read_hands_piece) (defScope st_read_hands_piece) .none kVread_hands_piece dcread_hands_piece pmread_hands_piece anread_hands_piece cdread_hands_piece ctread_hands_piece), slread_hands_piece⟩) (cread_hands_piece : PySem.W.codeIn K cdread_hands_piece "read_hands_piece" = true) (kread_hands_piece : PySem.W.keepIn K (.ref fread_hands_piece) = true)
    (aread_piece : PySem.W.nsIn K mainGlobals "read_piece" = some (some (.ref fread_piece))) (lread_piece : K.lookup fread_piece = some ⟨ocread_piece, odread_piece, .func (PySem.W.fnOf "read_piece" "read_piece" (defArgs st_read_piece) (defBody st_read_piece) (defScope st_read_piece) .none kVread_piece dcread_piece pmread_piece anread_piece cdread_piece ctread_piece), slread_piece⟩) (cread_piece : PySem.W.codeIn K cdread_piece "read_piece" = true) (kread_piece : PySem.W.keepIn K (.ref fread_piece) = true)
    (aread_template : PySem.W.nsIn K mainGlobals "read_template" = some (some (.ref fread_template))) (lread_template : K.lookup fread_template = some ⟨ocread_template, odread_template, .func (PySem.W.fnOf "read_template" "read_template" (defArgs st_read_template) (defBody st_read_template) (defScope st_read_template) .none kVread_template dcread_template pmread_template anread_template cdread_template ctread_template), slread_template⟩) (cread_template : PySem.W.codeIn K cdread_template "read_template" = true) (kread_template : PySem.W.keepIn K (.ref fread_template) = true)
    (ashow_piece : PySem.W.nsIn K mainGlobals "show_piece" = some (some (.ref fshow_piece))) (lshow_piece : K.lookup fshow_piece = some ⟨ocshow_piece, odshow_piece, .func (PySem.W.fnOf "show_piece" "show_piece" (defArgs st_show_piece) (defBody st_show_piece) (defScope st_show_piece) .none kVshow_piece dcshow_piece pmshow_piece anshow_piece cdshow_piece ctshow_piece), slshow_piece⟩) (cshow_piece : PySem.W.codeIn K cdshow_piece "show_piece" = true) (kshow_piece : PySem.W.keepIn K (.ref fshow_piece) = true)
    (ashow_template : PySem.W.nsIn K mainGlobals "show_template" = some (some (.ref fshow_template))) (lshow_template : K.lookup fshow_template = some ⟨ocshow_template, odshow_template, .func (PySem.W.fnOf "show_template" "show_template" (defArgs st_show_template) (defBody st_show_template) (defScope st_show_template) .none kVshow_template dcshow_template pmshow_template anshow_template cdshow_template ctshow_template), slshow_template⟩) (cshow_template : PySem.W.codeIn K cdshow_template "show_template" = true) (kshow_template : PySem.W.keepIn K (.ref fshow_template) = true)
    (alaw_alike : PySem.W.nsIn K mainGlobals "_law_alike" = some (some (.ref flaw_alike))) (llaw_alike : K.lookup flaw_alike = some ⟨oclaw_alike, odlaw_alike, .func (PySem.W.fnOf "_law_alike" "_law_alike" (defArgs st_law_alike) (defBody st_law_alike) (defScope st_law_alike) .none kVlaw_alike dclaw_alike pmlaw_alike anlaw_alike cdlaw_alike ctlaw_alike), sllaw_alike⟩) (claw_alike : PySem.W.codeIn K cdlaw_alike "_law_alike" = true) (klaw_alike : PySem.W.keepIn K (.ref flaw_alike) = true)
    (alaw : PySem.W.nsIn K mainGlobals "law" = some (some (.ref flaw))) (llaw : K.lookup flaw = some ⟨oclaw, odlaw, .func (PySem.W.fnOf "law" "law" (defArgs st_law) (defBody st_law) (defScope st_law) .none kVlaw dclaw pmlaw anlaw cdlaw ctlaw), sllaw⟩) (claw : PySem.W.codeIn K cdlaw "law" = true) (klaw : PySem.W.keepIn K (.ref flaw) = true)
    (zall : PySem.W.nsIn K mainGlobals "all" = some none)
    (zbool : PySem.W.nsIn K mainGlobals "bool" = some none)
    (zint : PySem.W.nsIn K mainGlobals "int" = some none)
    (zisinstance : PySem.W.nsIn K mainGlobals "isinstance" = some none)
    (zlen : PySem.W.nsIn K mainGlobals "len" = some none)
    (zrange : PySem.W.nsIn K mainGlobals "range" = some none)
    (zstr : PySem.W.nsIn K mainGlobals "str" = some none)
    (ztuple : PySem.W.nsIn K mainGlobals "tuple" = some none)
    (zMANY_FIGURES : PySem.W.nsIn K mainGlobals "MANY_FIGURES" = some (some (.str "123456789" tMANY_FIGURES)))
    (zMOST_DEEP : PySem.W.nsIn K mainGlobals "MOST_DEEP" = some (some (.int 3 tMOST_DEEP)))
    (zMOST_NAMES : PySem.W.nsIn K mainGlobals "MOST_NAMES" = some (some (.int 4 tMOST_NAMES)))
    (zMOST_PIECES : PySem.W.nsIn K mainGlobals "MOST_PIECES" = some (some (.int 30 tMOST_PIECES)))
    (zNAME_LENGTH : PySem.W.nsIn K mainGlobals "NAME_LENGTH" = some (some (.int 8 tNAME_LENGTH)))
    (zSMALL_LETTERS : PySem.W.nsIn K mainGlobals "SMALL_LETTERS" = some (some (.str "abcdefghijklmnopqrstuvwxyz" tSMALL_LETTERS)))
    (zSTYLE_SIGNS : PySem.W.nsIn K mainGlobals "STYLE_SIGNS" = some (some (.str "ABCDEFGHIJKLMNOPQRSTUVWXYZabcdefghijklmnopqrstuvwxyz0123456789 .,!?'-/()&+*=:;" tSTYLE_SIGNS)))
    (zWAY_FIGURES : PySem.W.nsIn K mainGlobals "WAY_FIGURES" = some (some (.str "012" tWAY_FIGURES)))
    : ∃ fd : FuncData, (∀ (s : Shared) (v : Value), BindsTo s fd ⟨[v], []⟩ [("_law_script", v)]) ∧ ∀ base : Heap, K.In base → base.Ns mainGlobals mg → FnOk l.prog w K mg base CX0 25 fa fd ["_law_script"] (spOf K 1 g_law) := by
  have e := hfa.symm.trans (PySem.W.mg_of X G alaw)
  cases e
  have T : Txt K mg tMANY_FIGURES tMOST_DEEP tMOST_NAMES tMOST_PIECES tNAME_LENGTH tSMALL_LETTERS tSTYLE_SIGNS tWAY_FIGURES flaw_numbers flaw_name flaw_signs flaw_piece fsigns_end fcut_end fcuts_of fbegin_group fend_group fis_all_of fis_text_of fis_name fcheck_name fread_hands_piece fread_piece fread_template fshow_piece fshow_template flaw_alike _ := ⟨PySem.W.mg_none_of X G zall, PySem.W.mg_none_of X G zbool, PySem.W.mg_none_of X G zint, PySem.W.mg_none_of X G zisinstance, PySem.W.mg_none_of X G zlen, PySem.W.mg_none_of X G zrange, PySem.W.mg_none_of X G zstr, PySem.W.mg_none_of X G ztuple, PySem.W.mg_of X G zMANY_FIGURES, PySem.W.mg_of X G zMOST_DEEP, PySem.W.mg_of X G zMOST_NAMES, PySem.W.mg_of X G zMOST_PIECES, PySem.W.mg_of X G zNAME_LENGTH, PySem.W.mg_of X G zSMALL_LETTERS, PySem.W.mg_of X G zSTYLE_SIGNS, PySem.W.mg_of X G zWAY_FIGURES, PySem.W.mg_of X G alaw_numbers, klaw_numbers, PySem.W.mg_of X G alaw_name, klaw_name, PySem.W.mg_of X G alaw_signs, klaw_signs, PySem.W.mg_of X G alaw_piece, klaw_piece, PySem.W.mg_of X G asigns_end, ksigns_end, PySem.W.mg_of X G acut_end, kcut_end, PySem.W.mg_of X G acuts_of, kcuts_of, PySem.W.mg_of X G abegin_group, kbegin_group, PySem.W.mg_of X G aend_group, kend_group, PySem.W.mg_of X G ais_all_of, kis_all_of, PySem.W.mg_of X G ais_text_of, kis_text_of, PySem.W.mg_of X G ais_name, kis_name, PySem.W.mg_of X G acheck_name, kcheck_name, PySem.W.mg_of X G aread_hands_piece, kread_hands_piece, PySem.W.mg_of X G aread_piece, kread_piece, PySem.W.mg_of X G aread_template, kread_template, PySem.W.mg_of X G ashow_piece, kshow_piece, PySem.W.mg_of X G ashow_template, kshow_template, PySem.W.mg_of X G alaw_alike, klaw_alike, PySem.W.mg_of X G alaw, klaw⟩
  have Flaw_numbers := fun_mk (st := st_law_numbers) llaw_numbers claw_numbers klaw_numbers
  have Flaw_name := fun_mk (st := st_law_name) llaw_name claw_name klaw_name
  have Flaw_signs := fun_mk (st := st_law_signs) llaw_signs claw_signs klaw_signs
  have Flaw_piece := fun_mk (st := st_law_piece) llaw_piece claw_piece klaw_piece
  have Fsigns_end := fun_mk (st := st_signs_end) lsigns_end csigns_end ksigns_end
  have Fcut_end := fun_mk (st := st_cut_end) lcut_end ccut_end kcut_end
  have Fcuts_of := fun_mk (st := st_cuts_of) lcuts_of ccuts_of kcuts_of
  have Fbegin_group := fun_mk (st := st_begin_group) lbegin_group cbegin_group kbegin_group
  have Fend_group := fun_mk (st := st_end_group) lend_group cend_group kend_group
  have Fis_all_of := fun_mk (st := st_is_all_of) lis_all_of cis_all_of kis_all_of
  have Fis_text_of := fun_mk (st := st_is_text_of) lis_text_of cis_text_of kis_text_of
  have Fis_name := fun_mk (st := st_is_name) lis_name cis_name kis_name
  have Fcheck_name := fun_mk (st := st_check_name) lcheck_name ccheck_name kcheck_name
  have Fread_hands_piece := fun_mk (st := st_read_hands_piece) lread_hands_piece cread_hands_piece kread_hands_piece
  have Fread_piece := fun_mk (st := st_read_piece) lread_piece cread_piece kread_piece
  have Fread_template := fun_mk (st := st_read_template) lread_template cread_template kread_template
  have Fshow_piece := fun_mk (st := st_show_piece) lshow_piece cshow_piece kshow_piece
  have Fshow_template := fun_mk (st := st_show_template) lshow_template cshow_template kshow_template
  have Flaw_alike := fun_mk (st := st_law_alike) llaw_alike claw_alike klaw_alike
  have Flaw := fun_mk (st := st_law) llaw claw klaw
  have blaw_numbers := Flaw_numbers.binds (ps := ["_law_cell", "_law_many"]) fun _ _ _ _ _ _ us hl => of2 (fun _ _ => rfl) us hl
  have blaw_name := Flaw_name.binds (ps := ["_law_cell"]) fun _ _ _ _ _ _ us hl => of1 (fun _ => rfl) us hl
  have blaw_signs := Flaw_signs.binds (ps := ["_law_cell"]) fun _ _ _ _ _ _ us hl => of1 (fun _ => rfl) us hl
  have blaw_piece := Flaw_piece.binds (ps := ["_law_cell"]) fun _ _ _ _ _ _ us hl => of1 (fun _ => rfl) us hl
  have bsigns_end := Fsigns_end.binds (ps := ["text", "place"]) fun _ _ _ _ _ _ us hl => of2 (fun _ _ => rfl) us hl
  have bcut_end := Fcut_end.binds (ps := ["text", "place"]) fun _ _ _ _ _ _ us hl => of2 (fun _ _ => rfl) us hl
  have bcuts_of := Fcuts_of.binds (ps := ["text"]) fun _ _ _ _ _ _ us hl => of1 (fun _ => rfl) us hl
  have bbegin_group := Fbegin_group.binds (ps := ["levels"]) fun _ _ _ _ _ _ us hl => of1 (fun _ => rfl) us hl
  have bend_group := Fend_group.binds (ps := ["levels"]) fun _ _ _ _ _ _ us hl => of1 (fun _ => rfl) us hl
  have bis_all_of := Fis_all_of.binds (ps := ["text", "signs"]) fun _ _ _ _ _ _ us hl => of2 (fun _ _ => rfl) us hl
  have bis_text_of := Fis_text_of.binds (ps := ["value", "signs", "most"]) fun _ _ _ _ _ _ us hl => of3 (fun _ _ _ => rfl) us hl
  have bis_name := Fis_name.binds (ps := ["value"]) fun _ _ _ _ _ _ us hl => of1 (fun _ => rfl) us hl
  have bcheck_name := Fcheck_name.binds (ps := ["name"]) fun _ _ _ _ _ _ us hl => of1 (fun _ => rfl) us hl
  have bread_hands_piece := Fread_hands_piece.binds (ps := ["words"]) fun _ _ _ _ _ _ us hl => of1 (fun _ => rfl) us hl
  have bread_piece := Fread_piece.binds (ps := ["cut"]) fun _ _ _ _ _ _ us hl => of1 (fun _ => rfl) us hl
  have bread_template := Fread_template.binds (ps := ["text"]) fun _ _ _ _ _ _ us hl => of1 (fun _ => rfl) us hl
  have bshow_piece := Fshow_piece.binds (ps := ["piece"]) fun _ _ _ _ _ _ us hl => of1 (fun _ => rfl) us hl
  have bshow_template := Fshow_template.binds (ps := ["T"]) fun _ _ _ _ _ _ us hl => of1 (fun _ => rfl) us hl
  have blaw_alike := Flaw_alike.binds (ps := ["_law_found", "_law_due"]) fun _ _ _ _ _ _ us hl => of2 (fun _ _ => rfl) us hl
  refine ⟨PySem.W.fnOf "law" "law" (defArgs st_law) (defBody st_law) (defScope st_law) .none kVlaw dclaw pmlaw anlaw cdlaw ctlaw, fun s v => .of_eq rfl, fun base kb nb => ?_⟩
  have Glaw_numbers := ok_law_numbers (P := l.prog) (w := w) (base := base) Flaw_numbers T
  have Glaw_name := ok_law_name (P := l.prog) (w := w) (base := base) Flaw_name T Glaw_numbers blaw_numbers
  have Glaw_signs := ok_law_signs (P := l.prog) (w := w) (base := base) Flaw_signs T Glaw_numbers blaw_numbers
  have Glaw_piece := ok_law_piece (P := l.prog) (w := w) (base := base) Flaw_piece T Glaw_name blaw_name Glaw_signs blaw_signs
  have Gsigns_end := ok_signs_end (P := l.prog) (w := w) (base := base) Fsigns_end T
  have Gcut_end := ok_cut_end (P := l.prog) (w := w) (base := base) Fcut_end T Gsigns_end bsigns_end
  have Gcuts_of := ok_cuts_of (P := l.prog) (w := w) (base := base) Fcuts_of T Gcut_end bcut_end
  have Gbegin_group := ok_begin_group (P := l.prog) (w := w) (base := base) Fbegin_group T
  have Gend_group := ok_end_group (P := l.prog) (w := w) (base := base) Fend_group T
  have Gis_all_of := ok_is_all_of (P := l.prog) (w := w) (base := base) Fis_all_of T
  have Gis_text_of := ok_is_text_of (P := l.prog) (w := w) (base := base) Fis_text_of T Gis_all_of bis_all_of
  have Gis_name := ok_is_name (P := l.prog) (w := w) (base := base) Fis_name T Gis_text_of bis_text_of
  have Gcheck_name := ok_check_name (P := l.prog) (w := w) (base := base) Fcheck_name T Gis_name bis_name
  have Gread_hands_piece := ok_read_hands_piece (P := l.prog) (w := w) (base := base) Fread_hands_piece T Gis_text_of bis_text_of Gcheck_name bcheck_name
  have Gread_piece := ok_read_piece (P := l.prog) (w := w) (base := base) Fread_piece T Gcheck_name bcheck_name Gread_hands_piece bread_hands_piece
  have Gread_template := ok_read_template (P := l.prog) (w := w) (base := base) Fread_template T Gcuts_of bcuts_of Gbegin_group bbegin_group Gend_group bend_group Gread_piece bread_piece
  have Gshow_template : FnOk l.prog w K mg base CX0 24 fshow_template _ ["T"] (spOf K 1 g_show_template) := rec_show_template (P := l.prog) (w := w) (base := base) Fshow_piece bshow_piece Fshow_template bshow_template T 12
  have Gshow_piece : FnOk l.prog w K mg base CX0 25 fshow_piece _ ["piece"] (spOf K 1 g_show_piece) := ok_show_piece (P := l.prog) (w := w) (base := base) (lv := 24) (by decide) Fshow_piece T Gshow_template bshow_template
  have Glaw_alike : FnOk l.prog w K mg base CX0 12 flaw_alike _ ["_law_found", "_law_due"] (spOf K 2 g_law_alike) := rec_law_alike (P := l.prog) (w := w) (base := base) Flaw_alike blaw_alike T 12
  exact ok_law Flaw T Glaw_piece blaw_piece Gread_template bread_template Gshow_template bshow_template Glaw_alike blaw_alike
theorem law_sp {K : PySem.W.Frag} {H : Hp} {a : Addr} {ns : List Int} (hn : g_law [.lst (ns.map D.int)] = some (.fz (.bl true))) (hO : Only H) (hS : SqL K H a (ns.map V.int)) : spOf K 1 g_law [.ref a] H (fun v _ => v = .bl true) fun _ _ _ => False := by
  refine ⟨H, [.lst (ns.map D.int)], .fz (.bl true), Same.refl H, .cons (.lst hS (ints_rep ns)) .nil, rfl, hn, fun v H' F' ms _ _ _ _ sh _ _ => ?_⟩
  cases shape_fz sh
  rfl
theorem walk {l : PySem.W.OpenLaw} {q : Program} {loose : List Str} {XP : (Str → Option Value) → Heap → Prop} {YP : World → Heap → Prop} {d : DefRec} {K : Params → PySem.W.Frag} (hn : l.most = some 63) (hdf : d.params.defaults = [])
    (hY : ∀ (w : World) (h : Heap), YP w h → (K w.params).In h)
    (F : ∀ (w : World) (mg : Str → Option Value) (fa : Addr) (h : Heap), (K w.params).In h → h.Ns mainGlobals mg → mg d.name = some (.ref fa) →
      ∃ fd : FuncData, (∀ (s : Shared) (u : Value), BindsTo s fd ⟨[u], []⟩ [("_law_script", u)]) ∧ ∀ base : Heap, (K w.params).In base → base.Ns mainGlobals mg → FnOk l.prog w (K w.params) mg base CX0 25 fa fd ["_law_script"] (spOf (K w.params) 1 g_law))
    (hlaw : ∀ ns : List Int, ns.length ≤ 63 → g_law [.lst (ns.map D.int)] = some (.fz (.bl true))) :
    PySem.W.WalkO q loose XP YP l.row.toRowW d [] (fun f vs => PySem.call f vs) :=
  L2.walk_ofK (n := 63) (k := 25) (x := "_law_script") (CX := CX0) (sp := fun K => spOf K 1 g_law) hn (by decide) hdf ⟨rfl, by decide, by decide⟩ hY F (fun _ _ _ ns hl hO hS => law_sp (hlaw ns hl) hO hS) fun _ _ _ _ z => z
end Gen

namespace My
open DL PySem
noncomputable abbrev STS : Str := "ABCDEFGHIJKLMNOPQRSTUVWXYZabcdefghijklmnopqrstuvwxyz0123456789 .,!?'-/()&+*=:;"
noncomputable abbrev ABC : Str := "abcdefghijklmnopqrstuvwxyz"
noncomputable def abc (c : Nat) : Bool := Nat.ble 97 c && Nat.ble c 122
noncomputable def sts (c : Nat) : Bool := (Nat.ble 65 c && Nat.ble c 90) || abc c || (Nat.ble 39 c && Nat.ble c 59) || [32, 33, 38, 61, 63].contains c
theorem in_abc : ∀ c < 128, inS ⟨#[c]⟩ ABC = abc c := by decide +kernel
theorem in_sts : ∀ c < 128, inS ⟨#[c]⟩ STS = sts c := by decide +kernel
theorem in_brk : ∀ c < 128, inS ⟨#[c]⟩ "[]" = (c == 91 || c == 93) := by decide +kernel
noncomputable def dg9 (c : Nat) : Bool := Nat.ble 49 c && Nat.ble c 57
noncomputable def dg3 (c : Nat) : Bool := Nat.ble 48 c && Nat.ble c 50
theorem in_dg9 : ∀ c < 128, inS ⟨#[c]⟩ "123456789" = dg9 c := by decide +kernel
theorem in_dg3 : ∀ c < 128, inS ⟨#[c]⟩ "012" = dg3 c := by decide +kernel
theorem abc_rng : ∀ c, abc c = true → 97 ≤ c ∧ c ≤ 122 := fun c h => by
  unfold abc at h
  rw [Bool.and_eq_true] at h
  exact ⟨Nat.le_of_ble_eq_true h.1, Nat.le_of_ble_eq_true h.2⟩
noncomputable def Asc (l : List Nat) : Prop := ∀ c ∈ l, c < 128
theorem bools_map (f : Nat → Bool) : ∀ l : List Nat, bools? (l.map fun c => D.bl (f c)) = some (l.map f)
  | [] => rfl
  | x :: r => by simp [bools_map f r]
noncomputable def sgf (sg : Str) (d : D) : D := match d with
  | .str x => .bl (inS x sg)
  | d => d
theorem allOf (sg : Str) (f : Nat → Bool) (l : List Nat) (hin : ∀ c < 128, inS ⟨#[c]⟩ sg = f c) (ha : Asc l) (hl : l.length ≤ 2000000) : Gen.g_is_all_of [.str (S l), .str sg] = some (.fz (.bl (l.all f))) := by
  have c := comp_cap (te := Gen.e_is_all_of_1) (f := sgf sg) (c := some (.fz (.str sg))) (j := 1) (signs (S l)) [] (fun x hx zs => by
    unfold signs at hx
    obtain ⟨k, hk, rfl⟩ := List.mem_map.mp hx
    unfold Gen.e_is_all_of_1 sgf
    simp [-inS]) (by unfold signs; rw [List.length_map, len_list, S_len]; simp; omega)
  rw [List.nil_append] at c
  have e : (signs (S l)).map (sgf sg) = l.map fun c => D.bl (f c) := by
    unfold signs
    rw [List.map_map, S_list]
    refine List.map_congr_left fun k hk => ?_
    show D.bl (inS ⟨#[k]⟩ sg) = _
    rw [hin k (ha k hk)]
  rw [e] at c
  have s := bools_map f l
  have sa : (l.map f).all id = l.all f := by simp
  unfold Gen.g_is_all_of Gen.f_is_all_of
  simp [c, s]
theorem textOf (sg : Str) (f : Nat → Bool) (l : List Nat) (m : Nat) (hin : ∀ c < 128, inS ⟨#[c]⟩ sg = f c) (ha : Asc l) (hl : l.length ≤ 100000) : Gen.g_is_text_of [.str (S l), .str sg, .int (m : Int)] = some (.fz (.bl (decide (1 ≤ l.length ∧ l.length ≤ m) && l.all f))) := by
  have a := allOf sg f l hin ha (by omega)
  have z : (S l).length ≤ PySem.sizeLine := line_of (by rw [S_len]; omega)
  rw [S_len] at z
  generalize l.all f = b at *
  unfold Gen.g_is_text_of Gen.f_is_text_of
  by_cases h1 : 1 ≤ l.length
  · by_cases h2 : l.length ≤ m
    · have a1 : (1 : Int) ≤ (l.length : Int) := by omega
      have a2 : (l.length : Int) ≤ (m : Int) := by omega
      simp [S_len, z, a1, a2, h1, h2, a]
    · have a1 : (1 : Int) ≤ (l.length : Int) := by omega
      have a2 : ¬ (l.length : Int) ≤ (m : Int) := by omega
      simp [S_len, z, a1, a2, h1, h2, a]
  · have a1 : ¬ (1 : Int) ≤ (l.length : Int) := by omega
    simp [S_len, z, a1, h1, a]
noncomputable def Nam (l : List Nat) : Prop := 1 ≤ l.length ∧ l.length ≤ 8 ∧ l.all abc = true ∧ l ≠ [110, 111, 116, 101]
theorem Nam.asc {l : List Nat} (h : Nam l) : Asc l := fun c hc => by
  have := abc_rng c (List.all_eq_true.mp h.2.2.1 c hc); omega
theorem Nam.no {l : List Nat} (h : Nam l) (c : Nat) (hc : c < 97 ∨ 122 < c) : c ∉ l := fun hm => by
  have := abc_rng c (List.all_eq_true.mp h.2.2.1 c hm); omega
theorem isName {l : List Nat} (h : Nam l) : Gen.g_is_name [.str (S l)] = some (.fz (.bl true)) := by
  have a := textOf ABC abc l 8 in_abc h.asc (by have := h.2.1; omega)
  have i8 : ((8 : Nat) : Int) = 8 := rfl
  have e : (decide (1 ≤ l.length ∧ l.length ≤ 8) && l.all abc) = true := by rw [h.2.2.1, decide_eq_true ⟨h.1, h.2.1⟩]; rfl
  rw [i8, e] at a
  unfold Gen.g_is_name Gen.f_is_name
  simp [a]
theorem note_S : Str.ofString "note" = S [110, 111, 116, 101] := by decide +kernel
theorem checkName {l : List Nat} (h : Nam l) : Gen.g_check_name [.str (S l)] = some (.fz .non) := by
  have a := isName h
  have n : ¬ S l = S [110, 111, 116, 101] := S_ne h.2.2.2
  unfold Gen.g_check_name Gen.f_check_name
  simp [a, note_S, n]
open PySem.StrLaws in
theorem find_at (pre l r : List Nat) (c : Nat) (hc : c ∉ l) : Txt.find3 (S (pre ++ (l ++ c :: r))) (S [c]) (pre.length : Int) = ((pre.length + l.length : Nat) : Int) := by
  have hL : (S (pre ++ (l ++ c :: r))).length = pre.length + (l.length + (r.length + 1)) := by rw [S_len]; simp
  have hf : fromIndex (S (pre ++ (l ++ c :: r))).length (pre.length : Int) = pre.length := by
    unfold fromIndex
    rw [if_neg (by omega)]
    omega
  have at1 : ∀ i, At (S (pre ++ (l ++ c :: r))) (S [c]) (S (pre ++ (l ++ c :: r))).length i ↔ (pre ++ (l ++ c :: r))[i]? = some c := fun i => by
    rw [at_stands, S_list, S_list]
    unfold stands
    constructor
    · rintro ⟨h1, h2⟩
      have h1 : i < (pre ++ (l ++ c :: r)).length := h1
      rw [List.drop_eq_getElem_cons h1] at h2
      have h2 : [(pre ++ (l ++ c :: r))[i]] = [c] := h2
      rw [List.getElem?_eq_getElem h1]
      injection h2 with h2 _
      rw [h2]
    · intro h
      obtain ⟨h1, h2⟩ := List.getElem?_eq_some_iff.mp h
      refine ⟨h1, ?_⟩
      rw [List.drop_eq_getElem_cons h1, h2]
      rfl
  have here : (pre ++ (l ++ c :: r))[pre.length + l.length]? = some c := by
    rw [List.getElem?_append_right (by omega), List.getElem?_append_right (by omega)]
    simp
  have no : ∀ i, pre.length ≤ i → i < pre.length + l.length → (pre ++ (l ++ c :: r))[i]? ≠ some c := fun i h1 h2 e => by
    rw [List.getElem?_append_right h1, List.getElem?_append_left (by omega)] at e
    exact hc (List.mem_of_getElem? e)
  unfold Txt.find3
  rw [hf, StrLaws.occ_eq]
  rcases occ_first (S (pre ++ (l ++ c :: r))) (S [c]) (S (pre ++ (l ++ c :: r))).length 1 (Nat.le_refl _) (List.range' pre.length ((S (pre ++ (l ++ c :: r))).length + 1 - pre.length)) pre.length (fun i hi => (List.mem_range'_1.mp hi).1) with ⟨_, h2⟩ | ⟨p1, a, p2, h1, h2, h3, h4⟩
  · exact absurd ((at1 _).mpr here) (h2 _ (List.mem_range'_1.mpr ⟨by omega, by omega⟩))
  · have ha : a = pre.length + l.length := by
      have hm : a ∈ List.range' pre.length ((S (pre ++ (l ++ c :: r))).length + 1 - pre.length) := by rw [h1]; exact List.mem_append_right _ List.mem_cons_self
      have hge := (List.mem_range'_1.mp hm).1
      have h3' := (at1 a).mp h3
      by_cases hlt : a < pre.length + l.length
      · exact absurd h3' (no a hge hlt)
      · by_cases hgt : pre.length + l.length < a
        · exfalso
          have hmem : pre.length + l.length ∈ p1 ++ a :: p2 := by rw [← h1]; exact List.mem_range'_1.mpr ⟨by omega, by rw [hL]; omega⟩
          have srt : (p1 ++ a :: p2).Pairwise (· < ·) := by rw [← h1]; exact List.pairwise_lt_range'
          rcases List.mem_append.mp hmem with z | z
          · exact h4 _ z ((at1 _).mpr here)
          · rcases List.mem_cons.mp z with z | z
            · omega
            · have := List.rel_of_pairwise_cons (List.pairwise_append.mp srt).2.1 z
              omega
        · omega
    subst ha
    generalize (forIn (List.range' pre.length ((S (pre ++ (l ++ c :: r))).length + 1 - pre.length)) ((#[] : Array Nat), pre.length) (occBody (S (pre ++ (l ++ c :: r))) (S [c]) (S (pre ++ (l ++ c :: r))).length 1)).run.fst = arr at *
    have h2' : arr.toList[0]? = some (pre.length + l.length) := by rw [Array.getElem?_toList]; exact h2
    cases hal : arr.toList with
    | nil => rw [hal] at h2'; cases h2'
    | cons x xs => rw [hal] at h2'; simp at h2'; subst h2'; rfl
theorem slice_mid (pre t r : List Nat) : Txt.slice (S (pre ++ (t ++ r))) (some (pre.length : Int)) (some ((pre.length + t.length : Nat) : Int)) = S t := by
  refine (StrLaws.sliceText_plain ⟨by omega, by omega, by rw [S_list]; simp; omega⟩).trans ?_
  rw [S_list, Int.toNat_natCast, show (((pre.length + t.length : Nat) : Int) - (pre.length : Int)).toNat = t.length by omega, List.drop_left, List.take_left]
theorem slice_in (a b : Nat) (l : List Nat) : Txt.slice (S (a :: (l ++ [b]))) (some 1) (some (-1)) = S l := by
  have hl : (S (a :: (l ++ [b]))).length = l.length + 2 := by rw [S_len]; simp
  have e : Txt.slice (S (a :: (l ++ [b]))) (some 1) (some (-1)) = Txt.slice (S (a :: (l ++ [b]))) (some 1) (some (-1 + ((S (a :: (l ++ [b]))).length : Int))) := StrLaws.sliceText_neg_hi _ _ (by decide) (by rw [hl]; omega)
  rw [e, hl]
  have := slice_mid [a] l [b]
  have e2 : (-1 + ((l.length + 2 : Nat) : Int)) = (([a].length + l.length : Nat) : Int) := by simp; omega
  rw [e2]
  exact this
end My

namespace My
open DL PySem
inductive Tk where
  | op | cl | sg (l : List Nat) | br (l : List Nat)
noncomputable def Tk.l : Tk → List Nat
  | .op => [91]
  | .cl => [93]
  | .sg l => l
  | .br l => 123 :: (l ++ [125])
noncomputable def Tk.isSg : Tk → Bool
  | .sg _ => true
  | _ => false
noncomputable def Tk.ok : Tk → Prop
  | .sg l => l ≠ [] ∧ l.length ≤ 100 ∧ ∀ c ∈ l, c < 128 ∧ sts c = true
  | .br l => 125 ∉ l ∧ l.length ≤ 100
  | _ => True
noncomputable def Gd : Bool → List Tk → Prop
  | _, [] => True
  | p, t :: r => t.ok ∧ ¬ (p = true ∧ t.isSg = true) ∧ Gd t.isSg r
noncomputable def flat (ts : List Tk) : List Nat := ts.flatMap Tk.l
theorem flat_cons (t : Tk) (ts : List Tk) : flat (t :: ts) = t.l ++ flat ts := rfl
theorem flat_app (a b : List Tk) : flat (a ++ b) = flat a ++ flat b := List.flatMap_append
theorem sts_no : sts 91 = false ∧ sts 93 = false ∧ sts 123 = false := by decide
theorem Tk.first (t : Tk) (h : t.ok) : ∃ c r, t.l = c :: r ∧ c < 128 ∧ (t.isSg = false → sts c = false) ∧ (t.isSg = true → sts c = true) := by
  cases t with
  | op => exact ⟨91, [], rfl, by decide, fun _ => sts_no.1, fun z => nomatch z⟩
  | cl => exact ⟨93, [], rfl, by decide, fun _ => sts_no.2.1, fun z => nomatch z⟩
  | br l => exact ⟨123, l ++ [125], rfl, by decide, fun _ => sts_no.2.2, fun z => nomatch z⟩
  | sg l =>
    cases l with
    | nil => exact absurd rfl h.1
    | cons c r => exact ⟨c, r, rfl, (h.2.2 c List.mem_cons_self).1, (fun z => nomatch z), fun _ => (h.2.2 c List.mem_cons_self).2⟩
theorem at_mid {α : Type} (pre : List α) (c : α) (r : List α) : L2.atI (pre ++ c :: r) (pre.length : Int) = some c := at_nat _ _ _ (by rw [List.getElem?_append_right (Nat.le_refl _), Nat.sub_self]; rfl)
theorem signs_loop {L : List Nat} (hL : L.length ≤ 100000) (a : Option SV) : ∀ (l pre rest : List Nat) (n : Nat), L = pre ++ (l ++ rest) → (∀ c ∈ l, c < 128 ∧ sts c = true) → (rest = [] ∨ ∃ c r, rest = c :: r ∧ c < 128 ∧ sts c = false) → l.length < n →
    whileD Gen.t_signs_end_1 Gen.b_signs_end_2 n [some (.fz (.str (S L))), a, some (.fz (.int (pre.length : Int)))] = some (.nx [some (.fz (.str (S L))), a, some (.fz (.int ((pre.length + l.length : Nat) : Int)))])
  | [], pre, rest, 0, _, _, _, h => by simp at h
  | [], pre, rest, n + 1, e, _, hr, _ => by
    have z : L.length ≤ PySem.sizeLine := line_of (by omega)
    refine whileD_end ?_
    rcases hr with h | ⟨c, r, h, h1, h2⟩
    · subst h
      have e' : L = pre := by rw [e]; simp
      subst e'
      unfold Gen.t_signs_end_1
      simp [S_len, z]
    · subst h
      have hi := in_sts c h1
      rw [h2] at hi
      have at' : L2.atI L (pre.length : Int) = some c := by rw [e]; exact at_mid pre c r
      have lt : (pre.length : Int) < (L.length : Int) := by rw [e]; simp; omega
      unfold Gen.t_signs_end_1
      simp [-inS, S_len, S_list, z, at', lt, hi]
  | c :: l, pre, rest, 0, _, _, _, h => by simp at h
  | c :: l, pre, rest, n + 1, e, hc, hr, hn => by
    have z : L.length ≤ PySem.sizeLine := line_of (by omega)
    obtain ⟨h1, h2⟩ := hc c List.mem_cons_self
    have hi := in_sts c h1
    rw [h2] at hi
    have at' : L2.atI L (pre.length : Int) = some c := by rw [e]; exact at_mid pre c _
    have lt : (pre.length : Int) < (L.length : Int) := by rw [e]; simp; omega
    have ih := signs_loop hL a l (pre ++ [c]) rest n (by rw [e]; simp) (fun d hd => hc d (List.mem_cons_of_mem _ hd)) hr (by simpa using hn)
    have el : ((pre ++ [c]).length : Int) = (pre.length : Int) + 1 := by simp
    have el2 : (pre ++ [c]).length + l.length = pre.length + (c :: l).length := by simp; omega
    rw [el, el2] at ih
    refine (whileD_go (δ1 := [some (.fz (.str (S L))), a, some (.fz (.int (pre.length : Int)))]) (δ2 := [some (.fz (.str (S L))), a, some (.fz (.int ((pre.length : Int) + 1)))]) ?_ ?_).trans ih
    · unfold Gen.t_signs_end_1
      simp [-inS, S_len, S_list, z, at', lt, hi]
    · unfold Gen.b_signs_end_2
      simp
theorem signsEnd {L l pre rest : List Nat} (hL : L.length ≤ 100000) (e : L = pre ++ (l ++ rest)) (hc : ∀ c ∈ l, c < 128 ∧ sts c = true) (hr : rest = [] ∨ ∃ c r, rest = c :: r ∧ c < 128 ∧ sts c = false) (hl : l.length ≤ 100) :
    Gen.g_signs_end [.str (S L), .int (pre.length : Int)] = some (.fz (.int ((pre.length + l.length : Nat) : Int))) := by
  have w := signs_loop hL (some (.fz (.int (pre.length : Int)))) l pre rest 1000 e hc hr (by omega)
  unfold Gen.g_signs_end Gen.f_signs_end
  simp [-Int.natCast_add, w]
theorem cutEnd {L pre rest : List Nat} (t : Tk) (hL : L.length ≤ 100000) (e : L = pre ++ (t.l ++ rest)) (ht : t.ok) (hr : t.isSg = true → rest = [] ∨ ∃ c r, rest = c :: r ∧ c < 128 ∧ sts c = false) :
    Gen.g_cut_end [.str (S L), .int (pre.length : Int)] = some (.fz (.int ((pre.length + t.l.length : Nat) : Int))) := by
  have z : L.length ≤ PySem.sizeLine := line_of (by omega)
  have ob : Str.ofString "{" = S [123] := by decide +kernel
  have cb : Str.ofString "}" = S [125] := by decide +kernel
  obtain ⟨c, r, ec, hc, f1, f2⟩ := t.first ht
  have at' : L2.atI L (pre.length : Int) = some c := by rw [e, ec]; exact at_mid pre c _
  have hin := in_brk c hc
  have hbr : Str.ofString "[]" = "[]" := rfl
  unfold Gen.g_cut_end Gen.f_cut_end
  cases t with
  | op =>
    injection ec with ec _
    subst ec
    have hin : inS ⟨#[91]⟩ "[]" = true := hin
    have e2 : (((pre.length + Tk.op.l.length : Nat)) : Int) = (pre.length : Int) + 1 := by show ((pre.length + 1 : Nat) : Int) = _; omega
    rw [e2]
    simp [-inS, S_len, S_list, z, at', hin]
  | cl =>
    injection ec with ec _
    subst ec
    have hin : inS ⟨#[93]⟩ "[]" = true := hin
    have e2 : (((pre.length + Tk.cl.l.length : Nat)) : Int) = (pre.length : Int) + 1 := by show ((pre.length + 1 : Nat) : Int) = _; omega
    rw [e2]
    simp [-inS, S_len, S_list, z, at', hin]
  | br l =>
    injection ec with ec _
    subst ec
    have hin : inS ⟨#[123]⟩ "[]" = false := hin
    have hf := find_at pre (123 :: l) rest 125 (by
      intro h
      rcases List.mem_cons.mp h with h | h
      · exact absurd h (by decide)
      · exact ht.1 h)
    have el : pre ++ (123 :: l ++ 125 :: rest) = L := by rw [e]; show _ = pre ++ (123 :: (l ++ [125]) ++ rest); simp
    rw [el] at hf
    have e2 : (((pre.length + (Tk.br l).l.length : Nat)) : Int) = ((pre.length + (123 :: l).length : Nat) : Int) + 1 := by unfold Tk.l; simp; omega
    rw [e2]
    have gt : ¬ ((pre.length + (123 :: l).length : Nat) : Int) + 1 ≤ (pre.length : Int) := by omega
    generalize ((pre.length + (123 :: l).length : Nat) : Int) = P at *
    simp [-inS, S_len, S_list, z, at', hin, ob, cb, hf, gt]
  | sg l =>
    have s := signsEnd hL e ht.2.2 (hr rfl) ht.2.1
    have hs : sts c = true := f2 rfl
    have n91 : (c == 91 || c == 93) = false := by
      have h1 : c ≠ 91 := fun z => by rw [z, sts_no.1] at hs; cases hs
      have h2 : c ≠ 93 := fun z => by rw [z, sts_no.2.1] at hs; cases hs
      simp [h1, h2]
    rw [n91] at hin
    have n123 : ¬ (⟨#[c]⟩ : Str) = S [123] := fun z => by
      have := S_inj (a := [c]) z
      injection this with this _
      rw [this, sts_no.2.2] at hs; cases hs
    have hne : 1 ≤ l.length := List.length_pos_iff.mpr ht.1
    have gt : ¬ ((pre.length + (Tk.sg l).l.length : Nat) : Int) ≤ (pre.length : Int) := by show ¬ ((pre.length + l.length : Nat) : Int) ≤ _; omega
    have s : Gen.g_signs_end [.str (S L), .int (pre.length : Int)] = some (.fz (.int ((pre.length + (Tk.sg l).l.length : Nat) : Int))) := s
    generalize ((pre.length + (Tk.sg l).l.length : Nat) : Int) = P at *
    simp [-inS, S_len, S_list, z, at', hin, ob, n123, s, gt]
theorem next_first {t : Tk} {ts : List Tk} (h : Gd t.isSg ts) (ht : t.isSg = true) : flat ts = [] ∨ ∃ c r, flat ts = c :: r ∧ c < 128 ∧ sts c = false := by
  cases ts with
  | nil => exact .inl rfl
  | cons u us =>
    obtain ⟨h1, h2, _⟩ := h
    have hu : u.isSg = false := by
      cases hz : u.isSg with
      | false => rfl
      | true => exact absurd ⟨ht, hz⟩ h2
    obtain ⟨c, r, ec, hc, f1, _⟩ := u.first h1
    exact .inr ⟨c, r ++ flat us, by rw [flat_cons, ec]; rfl, hc, f1 hu⟩
theorem cuts_loop {L : List Nat} (hL : L.length ≤ 100000) : ∀ (ts : List Tk) (p : Bool) (pre : List Nat) (cs : List D) (x : Option SV) (n : Nat), L = pre ++ flat ts → Gd p ts → ts.length < n → cs.length + ts.length ≤ 1000 →
    ∃ x', whileD Gen.t_cuts_of_1 Gen.b_cuts_of_2 n [some (.fz (.str (S L))), some (.ol cs), some (.fz (.int (pre.length : Int))), x] = some (.nx [some (.fz (.str (S L))), some (.ol (cs ++ ts.map fun t => D.str (S t.l))), some (.fz (.int (L.length : Int))), x'])
  | _, _, _, _, _, 0, _, _, h, _ => by omega
  | [], p, pre, cs, x, n + 1, e, _, _, _ => by
    have z : L.length ≤ PySem.sizeLine := line_of (by omega)
    have e' : L = pre := by rw [e]; unfold flat; simp
    refine ⟨x, ?_⟩
    rw [List.map_nil, List.append_nil, ← e']
    refine whileD_end ?_
    unfold Gen.t_cuts_of_1
    simp [S_len, z]
  | t :: ts, p, pre, cs, x, n + 1, e, g, hn, hc => by
    have z : L.length ≤ PySem.sizeLine := line_of (by omega)
    obtain ⟨g1, g2, g3⟩ := g
    obtain ⟨c, r, ec, _, _, _⟩ := t.first g1
    have e0 : L = pre ++ (t.l ++ flat ts) := e
    have ce := cutEnd (L := L) (pre := pre) (rest := flat ts) t hL e0 g1 (fun hz => next_first g3 hz)
    have sm := slice_mid pre t.l (flat ts)
    rw [← e0] at sm
    rw [List.length_cons] at hn hc
    obtain ⟨x', ih⟩ := cuts_loop hL ts t.isSg (pre ++ t.l) (cs ++ [.str (S t.l)]) (some (.fz (.int ((pre.length + t.l.length : Nat) : Int)))) n (by rw [e0, List.append_assoc]) g3 (by omega) (by rw [List.length_append, List.length_singleton]; omega)
    refine ⟨x', ?_⟩
    have lt : (pre.length : Int) < (L.length : Int) := by rw [e0, ec]; simp; omega
    have zc : cs.length < PySem.sizeLine := line_lt (by omega)
    have el : ((pre ++ t.l).length : Int) = ((pre.length + t.l.length : Nat) : Int) := by rw [List.length_append]
    rw [el] at ih
    have em : cs ++ (t :: ts).map (fun t => D.str (S t.l)) = cs ++ [.str (S t.l)] ++ ts.map (fun t => D.str (S t.l)) := by simp
    rw [em]
    refine (whileD_go (δ1 := [some (.fz (.str (S L))), some (.ol cs), some (.fz (.int (pre.length : Int))), x]) (δ2 := [some (.fz (.str (S L))), some (.ol (cs ++ [.str (S t.l)])), some (.fz (.int ((pre.length + t.l.length : Nat) : Int))), some (.fz (.int ((pre.length + t.l.length : Nat) : Int)))]) ?_ ?_).trans ih
    · unfold Gen.t_cuts_of_1
      simp [S_len, z, lt]
    · generalize ((pre.length + t.l.length : Nat) : Int) = P at *
      unfold Gen.b_cuts_of_2
      simp [S_len, z, ce, sm, zc]
theorem cutsOf (ts : List Tk) (g : Gd false ts) (hL : (flat ts).length ≤ 100000) (hn : ts.length ≤ 900) : Gen.g_cuts_of [.str (S (flat ts))] = some (.ol (ts.map fun t => D.str (S t.l))) := by
  obtain ⟨x', w⟩ := cuts_loop hL ts false [] [] none 1000 rfl g (by omega) (by simp; omega)
  rw [List.nil_append] at w
  have e0 : (([] : List Nat).length : Int) = 0 := rfl
  rw [e0] at w
  unfold Gen.g_cuts_of Gen.f_cuts_of
  simp [w]
end My

namespace My
open DL PySem
noncomputable abbrev SGS : Str := "signs"
noncomputable abbrev FLD : Str := "field"
noncomputable abbrev HDS : Str := "hands"
noncomputable abbrev GRP : Str := "group"
theorem e_sgs : Str.ofString "signs" = SGS := rfl
theorem e_fld : Str.ofString "field" = FLD := rfl
theorem e_hds : Str.ofString "hands" = HDS := rfl
theorem e_grp : Str.ofString "group" = GRP := rfl
theorem ob_S : Str.ofString "{" = S [123] := by decide +kernel
theorem cb_S : Str.ofString "}" = S [125] := by decide +kernel
theorem bl_S : Str.ofString " " = S [32] := by decide +kernel
theorem ba_S : Str.ofString "|" = S [124] := by decide +kernel
theorem op_S : Str.ofString "[" = S [91] := by decide +kernel
theorem cl_S : Str.ofString "]" = S [93] := by decide +kernel
noncomputable def sgD (l : List Nat) : D := .tup [.str SGS, .str (S l)]
noncomputable def fdD (ns : List Str) : D := .tup [.str FLD, .tup (ns.map D.str)]
noncomputable def hdD (n : List Nat) (a b : Nat) : D := .tup [.str HDS, .str (S n), .int (a : Int), .int (b : Int)]
noncomputable def grD (ds : List D) : D := .tup [.str GRP, .tup ds]
noncomputable def hdL (n : List Nat) (a b : Nat) : List Nat := jl [32] [n, [48 + a], [48 + b]]
theorem z2 : 2 ≤ PySem.sizeLine := line_of (by decide)
theorem z4 : 4 ≤ PySem.sizeLine := line_of (by decide)
theorem ne123 {c : Nat} (h : sts c = true) : ¬ (⟨#[c]⟩ : Str) = S [123] := fun z => by
  have := S_inj (a := [c]) z
  injection this with this _
  rw [this, sts_no.2.2] at h; cases h
theorem readSg {l : List Nat} (h : (Tk.sg l).ok) : Gen.g_read_piece [.str (S l)] = some (.fz (sgD l)) := by
  obtain ⟨c, r, ec, _, _, f2⟩ := (Tk.sg l).first h
  have ec : l = c :: r := ec
  have n123 := ne123 (f2 rfl)
  have z : l.length ≤ PySem.sizeLine := line_of (by have := h.2.1; omega)
  have at' : L2.atI l 0 = some c := by rw [ec]; exact at_nat (c :: r) 0 c rfl
  unfold Gen.g_read_piece Gen.f_read_piece sgD
  simp [S_len, S_list, z, z2, at', ob_S, n123]
theorem names_loop (a b c : Option SV) : ∀ (ns : List Str) (x : Option SV), (∀ n ∈ ns, ∃ l, n = S l ∧ Nam l) → ∃ x', forD (gNameF 3) Gen.b_read_piece_1 (ns.map D.str) [a, b, c, x] = some (.nx [a, b, c, x'])
  | [], x, _ => ⟨x, rfl⟩
  | n :: ns, x, h => by
    obtain ⟨l, e, hl⟩ := h n List.mem_cons_self
    have hb : Gen.b_read_piece_1 [a, b, c, some (.fz (.str n))] = some (.nx [a, b, c, some (.fz (.str n))]) := by
      have := checkName hl
      rw [← e] at this
      unfold Gen.b_read_piece_1
      simp [this]
    obtain ⟨x', e⟩ := names_loop a b c ns (some (.fz (.str n))) fun m hm => h m (List.mem_cons_of_mem _ hm)
    exact ⟨x', (forD_nx (by simp) hb).trans e⟩
theorem jl_mem {c : Nat} {y : List Nat} : ∀ ps : List (List Nat), c ∈ jl y ps → c ∈ y ∨ ∃ p ∈ ps, c ∈ p
  | [], h => nomatch h
  | [p], h => .inr ⟨p, List.mem_cons_self, h⟩
  | p :: q :: r, h => by
    have h : c ∈ p ++ y ++ jl y (q :: r) := h
    rcases List.mem_append.mp h with h | h
    · rcases List.mem_append.mp h with h | h
      · exact .inr ⟨p, List.mem_cons_self, h⟩
      · exact .inl h
    · rcases jl_mem (q :: r) h with h | ⟨p', h1, h2⟩
      · exact .inl h
      · exact .inr ⟨p', List.mem_cons_of_mem _ h1, h2⟩
theorem jl_len {y : List Nat} {B : Nat} : ∀ ps : List (List Nat), (∀ p ∈ ps, p.length ≤ B) → (jl y ps).length ≤ ps.length * (B + y.length)
  | [], _ => Nat.zero_le _
  | [p], h => by
    have := h p List.mem_cons_self
    show p.length ≤ _
    simp; omega
  | p :: q :: r, h => by
    have h1 := h p List.mem_cons_self
    have h2 := jl_len (y := y) (B := B) (q :: r) fun x hx => h x (List.mem_cons_of_mem _ hx)
    show (p ++ y ++ jl y (q :: r)).length ≤ _
    rw [List.length_append, List.length_append]
    have e : (p :: q :: r).length * (B + y.length) = (q :: r).length * (B + y.length) + (B + y.length) := by
      rw [List.length_cons, Nat.succ_mul]
    omega
theorem fd_no {ns : List (List Nat)} (hn : ∀ n ∈ ns, Nam n) (c : Nat) (h1 : c < 97 ∨ 122 < c) (h2 : c ≠ 124) : c ∉ jl [124] ns := fun h => by
  rcases jl_mem ns h with h | ⟨p, hp, h⟩
  · exact h2 (List.mem_singleton.mp h)
  · exact (hn p hp).no c h1 h
theorem fd_len {ns : List (List Nat)} (hl : ns.length ≤ 4) (hn : ∀ n ∈ ns, Nam n) : (jl [124] ns).length ≤ 36 := by
  have := jl_len (y := [124]) (B := 8) ns fun p hp => (hn p hp).2.1
  have e : ns.length * (8 + [124].length) ≤ 4 * 9 := Nat.mul_le_mul hl (Nat.le_refl _)
  omega
theorem br_head (l : List Nat) : L2.atI (Tk.br l).l 0 = some 123 := at_nat (123 :: (l ++ [125])) 0 123 rfl
theorem readFd {ns : List (List Nat)} (h0 : ns ≠ []) (hl : ns.length ≤ 4) (hn : ∀ n ∈ ns, Nam n) : Gen.g_read_piece [.str (S (Tk.br (jl [124] ns)).l)] = some (.fz (fdD (ns.map S))) := by
  have n32 := fd_no hn 32 (.inl (by decide)) (by decide)
  have n124 : ∀ p ∈ ns, 124 ∉ p := fun p hp => (hn p hp).no 124 (.inr (by decide))
  have zl := fd_len hl hn
  have sp1 : Txt.split (S (jl [124] ns)) (S [32]) = [S (jl [124] ns)] := split_join (sep_one 32) (by decide +kernel) [S (jl [124] ns)] (by simp) (fun p hp => by rw [List.mem_singleton.mp hp, S_list]; exact n32)
  have sp2 : Txt.split (S (jl [124] ns)) (S [124]) = ns.map S := split_fits _ _ (by decide) (by decide +kernel) ns (fits_words ns h0 n124) (S_list _)
  have si : Txt.slice (S (Tk.br (jl [124] ns)).l) (some 1) (some (-1)) = S (jl [124] ns) := slice_in 123 125 _
  have at' := br_head (jl [124] ns)
  have zt : (Tk.br (jl [124] ns)).l.length ≤ PySem.sizeLine := line_of (by show (123 :: (jl [124] ns ++ [125])).length ≤ _; simp; omega)
  have zl' : (jl [124] ns).length ≤ PySem.sizeLine := line_of (by omega)
  have hN : ∀ n ∈ ns.map S, ∃ l, n = S l ∧ Nam l := fun n h => by
    obtain ⟨l, hl, e⟩ := List.mem_map.mp h
    exact ⟨l, e.symm, hn l hl⟩
  have hL : (ns.map S).length ≤ 4 := by rw [List.length_map]; exact hl
  generalize (Tk.br (jl [124] ns)).l = T at *
  generalize jl [124] ns = l at *
  generalize ns.map S = N at *
  have zn : N.length ≤ PySem.sizeLine := line_of (by omega)
  have g4 : ¬ (4 : Int) < (N.length : Int) := by omega
  obtain ⟨x', lp⟩ := names_loop (some (.fz (.str (S T)))) (some (.ol [.str (S l)])) (some (.fz (.tup (N.map D.str)))) N none hN
  have z1 : 1 ≤ PySem.sizeLine := line_of (by decide)
  have h32 : ¬ (S [32]).length = 0 := by decide +kernel
  have h124 : ¬ (S [124]).length = 0 := by decide +kernel
  have e123 : (⟨#[123]⟩ : Str) = S [123] := rfl
  unfold Gen.g_read_piece Gen.f_read_piece fdD
  simp [-forD, S_len, S_list, zt, zl', at', ob_S, bl_S, ba_S, e123, si, sp1, sp2, z1, z2, zn, h32, h124, g4, lp]
theorem textInt : ∀ a < 10, PySem.intText? (S [48 + a]) = some (a : Int) := by decide +kernel
theorem dig9 : ∀ a < 10, 1 ≤ a → dg9 (48 + a) = true := by decide
theorem dig3 : ∀ a < 3, dg3 (48 + a) = true := by decide
theorem readHands {n : List Nat} {a b : Nat} (hn : Nam n) (h1 : 1 ≤ a) (h2 : a ≤ 9) (h3 : b ≤ 2) : Gen.g_read_hands_piece [.lst [.str (S n), .str (S [48 + a]), .str (S [48 + b])]] = some (.fz (hdD n a b)) := by
  have c := checkName hn
  have t1 := textOf "123456789" dg9 [48 + a] 1 in_dg9 (fun c hc => by rw [List.mem_singleton.mp hc]; omega) (by simp)
  have t2 := textOf "012" dg3 [48 + b] 1 in_dg3 (fun c hc => by rw [List.mem_singleton.mp hc]; omega) (by simp)
  have e1 : (decide (1 ≤ [48 + a].length ∧ [48 + a].length ≤ 1) && [48 + a].all dg9) = true := by simp [dig9 a (by omega) h1]
  have e2 : (decide (1 ≤ [48 + b].length ∧ [48 + b].length ≤ 1) && [48 + b].all dg3) = true := by simp [dig3 b (by omega)]
  rw [e1] at t1
  rw [e2] at t2
  have i1 : ((1 : Nat) : Int) = 1 := rfl
  rw [i1] at t1 t2
  have g1 : intTD [.str (S [48 + a])] = some (.fz (.int (a : Int))) := by unfold intTD; dsimp only; rw [if_pos (by rw [S_len]; show 1 ≤ 640; decide), textInt a (by omega)]; rfl
  have g2 : intTD [.str (S [48 + b])] = some (.fz (.int (b : Int))) := by unfold intTD; dsimp only; rw [if_pos (by rw [S_len]; show 1 ≤ 640; decide), textInt b (by omega)]; rfl
  have a0 : ∀ x y z : D, L2.atI [x, y, z] 0 = some x := fun _ _ _ => rfl
  have a1 : ∀ x y z : D, L2.atI [x, y, z] 1 = some y := fun _ _ _ => rfl
  have a2 : ∀ x y z : D, L2.atI [x, y, z] 2 = some z := fun _ _ _ => rfl
  generalize S [48 + a] = SA at *
  generalize S [48 + b] = SB at *
  unfold Gen.g_read_hands_piece Gen.f_read_hands_piece hdD
  simp [a0, a1, a2, c, t1, t2, g1, g2, z4]
theorem hd_no {n : List Nat} {a b : Nat} (hn : Nam n) (ha : a ≤ 9) (hb : b ≤ 2) (c : Nat) (h1 : 122 < c) : c ∉ hdL n a b := fun h => by
  unfold hdL at h
  rcases jl_mem _ h with h | ⟨p, hp, h'⟩
  · have := List.mem_singleton.mp h; omega
  · rcases List.mem_cons.mp hp with z | hp
    · rw [z] at h'; exact hn.no c (.inr h1) h'
    · rcases List.mem_cons.mp hp with z | hp
      · rw [z] at h'; have := List.mem_singleton.mp h'; omega
      · rw [List.mem_singleton.mp hp] at h'; have := List.mem_singleton.mp h'; omega
theorem hd_len {n : List Nat} {a b : Nat} (hn : Nam n) : (hdL n a b).length ≤ 12 := by
  have := hn.2.1
  show (n ++ [32] ++ ([48 + a] ++ [32] ++ [48 + b])).length ≤ _
  simp; omega
theorem readHd {n : List Nat} {a b : Nat} (hn : Nam n) (h1 : 1 ≤ a) (h2 : a ≤ 9) (h3 : b ≤ 2) : Gen.g_read_piece [.str (S (Tk.br (hdL n a b)).l)] = some (.fz (hdD n a b)) := by
  have zl := hd_len (a := a) (b := b) hn
  have sp1 : Txt.split (S (hdL n a b)) (S [32]) = [S n, S [48 + a], S [48 + b]] := split_fits _ _ (by decide) (by decide +kernel) [n, [48 + a], [48 + b]] (fits_words _ (by simp) (fun p hp => by
    rcases List.mem_cons.mp hp with z | hp
    · subst z; exact hn.no 32 (.inl (by decide))
    · rcases List.mem_cons.mp hp with z | hp
      · subst z; simp; omega
      · have z := List.mem_singleton.mp hp
        subst z; simp; omega)) (S_list _)
  have si : Txt.slice (S (Tk.br (hdL n a b)).l) (some 1) (some (-1)) = S (hdL n a b) := slice_in 123 125 _
  have at' := br_head (hdL n a b)
  have zt : (Tk.br (hdL n a b)).l.length ≤ PySem.sizeLine := line_of (by show (123 :: (hdL n a b ++ [125])).length ≤ _; simp; omega)
  have zl' : (hdL n a b).length ≤ PySem.sizeLine := line_of (by omega)
  have rh := readHands hn h1 h2 h3
  have z3 : 3 ≤ PySem.sizeLine := line_of (by decide)
  have h32 : ¬ (S [32]).length = 0 := by decide +kernel
  have e123 : (⟨#[123]⟩ : Str) = S [123] := rfl
  generalize (Tk.br (hdL n a b)).l = T at *
  generalize hdL n a b = l at *
  generalize S [48 + a] = SA at *
  generalize S [48 + b] = SB at *
  unfold Gen.g_read_piece Gen.f_read_piece
  simp [S_len, S_list, zt, zl', at', ob_S, bl_S, e123, si, sp1, z3, h32, rh]
end My

set_option maxHeartbeats 1000000
namespace My
open DL PySem
theorem mBegin (a : Addr) (xss : List (List D)) (h : xss.length ≤ 3) : Gen.m_begin_group a xss = some (xss ++ [[]]) := by
  have g : ¬ (3 : Int) < (xss.length : Int) := by omega
  have z : xss.length < PySem.sizeLine := line_lt (by omega)
  have l1 := lenLF_ap (i := 0) (δ := [some (.oL (some a) xss)]) (p := some a) (xss := xss) rfl
  have l2 := appLF_ap (i := 0) (δ := [some (.oL (some a) xss)]) (p := some a) (xss := xss) rfl z
  have l2 : appLF 0 [some (.oL (some a) xss)] = some (.nx [some (.oL (some a) (xss ++ [[]]))]) := l2
  unfold Gen.m_begin_group Gen.f_begin_group
  simp [l1, l2, g]
theorem mEnd (a : Addr) (yss : List (List D)) (ys xs : List D) (hx : xs ≠ []) (hz : xs.length ≤ 1000) (hy : ys.length ≤ 1000) (hl : yss.length ≤ 1000) : Gen.m_end_group a (yss ++ [ys] ++ [xs]) = some (yss ++ [ys ++ [grD xs]]) := by
  have l1 := lenLF_ap (i := 0) (δ := [some (.oL (some a) (yss ++ [ys] ++ [xs])), none]) (p := some a) (xss := yss ++ [ys] ++ [xs]) rfl
  have l2 : popLF 1 0 [some (.oL (some a) (yss ++ [ys] ++ [xs])), none] = some (.nx [some (.oL (some a) (yss ++ [ys])), some (.ol xs)]) := popLF_ap (i := 0) (j := 1) (δ := [some (.oL (some a) (yss ++ [ys] ++ [xs])), none]) rfl (by decide) (by show 1 < 2; decide)
  have zx : xs.length ≤ PySem.sizeLine := line_of (by omega)
  have l3 : lastAppF 0 (tupF (dispCons (constF (.str "group")) (dispCons (primF tupleD (argCons (nameF 1) argNil)) (dispNil)))) [some (.oL (some a) (yss ++ [ys])), some (.ol xs)] = some (.nx [some (.oL (some a) (yss ++ [ys ++ [grD xs]])), some (.ol xs)]) :=
    lastAppF_ap (i := 0) (δ := [some (.oL (some a) (yss ++ [ys])), some (.ol xs)]) (δ1 := [some (.oL (some a) (yss ++ [ys])), some (.ol xs)]) (δ2 := [some (.oL (some a) (yss ++ [ys])), some (.ol xs)]) (rv := .tmp (.fz (grD xs))) (d := grD xs) rfl (by simp) (by simp [z2, grD, e_grp]) rfl rfl (line_lt (by omega))
  have g1 : ¬ ((yss ++ [ys] ++ [xs]).length : Int) = 1 := by simp; omega
  have g2 : ¬ (xs.length : Int) = 0 := by
    have := List.length_pos_iff.mpr hx
    omega
  generalize yss ++ [ys] ++ [xs] = W at *
  unfold Gen.m_end_group Gen.f_end_group
  simp [l1, l2, l3, g1, g2, hx]
noncomputable def tokD (t : Tk) : D := .str (S t.l)
section
variable (A B : Option SV)
theorem stepOp (xss : List (List D)) (h : xss.length ≤ 3) : Gen.b_read_template_1 [A, B, some (.oL none xss), some (.fz (tokD .op))] = some (.nx [A, B, some (.oL none (xss ++ [[]])), some (.fz (tokD .op))]) := by
  have m : mutF 2 Gen.m_begin_group [A, B, some (.oL none xss), some (.fz (tokD .op))] = some (.nx [A, B, some (.oL none (xss ++ [[]])), some (.fz (tokD .op))]) := mutF_ap rfl fun a => mBegin a xss h
  unfold tokD Tk.l at *
  unfold Gen.b_read_template_1
  simp [op_S, m]
theorem stepCl (yss : List (List D)) (ys xs : List D) (hx : xs ≠ []) (hz : xs.length ≤ 1000) (hy : ys.length ≤ 1000) (hl : yss.length ≤ 1000) : Gen.b_read_template_1 [A, B, some (.oL none (yss ++ [ys] ++ [xs])), some (.fz (tokD .cl))] = some (.nx [A, B, some (.oL none (yss ++ [ys ++ [grD xs]])), some (.fz (tokD .cl))]) := by
  have m : mutF 2 Gen.m_end_group [A, B, some (.oL none (yss ++ [ys] ++ [xs])), some (.fz (tokD .cl))] = some (.nx [A, B, some (.oL none (yss ++ [ys ++ [grD xs]])), some (.fz (tokD .cl))]) := mutF_ap rfl fun a => mEnd a yss ys xs hx hz hy hl
  have n : ¬ S [93] = S [91] := by decide +kernel
  generalize yss ++ [ys] ++ [xs] = W at *
  unfold tokD Tk.l at *
  unfold Gen.b_read_template_1
  simp [op_S, cl_S, n, m]
theorem stepPc (t : Tk) (d : D) (yss : List (List D)) (xs : List D) (n1 : ¬ S t.l = S [91]) (n2 : ¬ S t.l = S [93]) (hr : Gen.g_read_piece [tokD t] = some (.fz d)) (hz : xs.length ≤ 1000) : Gen.b_read_template_1 [A, B, some (.oL none (yss ++ [xs])), some (.fz (tokD t))] = some (.nx [A, B, some (.oL none (yss ++ [xs ++ [d]])), some (.fz (tokD t))]) := by
  have zz : (SV.fz d).scal = true ∨ (SV.fz d).scal = false := by cases (SV.fz d).scal <;> simp
  have l : lastAppF 2 (callF 1 Gen.g_read_piece (argCons (nameF 3) (argNil))) [A, B, some (.oL none (yss ++ [xs])), some (.fz (tokD t))] = some (.nx [A, B, some (.oL none (yss ++ [xs ++ [d]])), some (.fz (tokD t))]) :=
    lastAppF_ap (i := 2) (δ := [A, B, some (.oL none (yss ++ [xs])), some (.fz (tokD t))]) (δ1 := [A, B, some (.oL none (yss ++ [xs])), some (.fz (tokD t))]) (δ2 := [A, B, some (.oL none (yss ++ [xs])), some (.fz (tokD t))]) (rv := .tmp (.fz d)) (d := d) rfl (by simp) (by simp [hr]; exact ite_self _) rfl rfl (line_lt (by omega))
  generalize yss ++ [xs] = W at *
  unfold tokD at *
  unfold Gen.b_read_template_1
  simp [op_S, cl_S, n1, n2, l]
end
noncomputable def Pie : Nat → D → List Tk → Prop
  | 0, _, _ => False
  | n + 1, d, ts => (∃ l, (Tk.sg l).ok ∧ d = sgD l ∧ ts = [.sg l])
    ∨ (∃ ns : List (List Nat), ns ≠ [] ∧ ns.length ≤ 4 ∧ (∀ m ∈ ns, Nam m) ∧ d = fdD (ns.map S) ∧ ts = [.br (jl [124] ns)])
    ∨ (∃ nm a b, Nam nm ∧ 1 ≤ a ∧ a ≤ 9 ∧ b ≤ 2 ∧ d = hdD nm a b ∧ ts = [.br (hdL nm a b)])
    ∨ ∃ qs : List (D × List Tk), qs ≠ [] ∧ qs.length ≤ 100 ∧ (∀ q ∈ qs, Pie n q.1 q.2) ∧ d = grD (qs.map (·.1)) ∧ ts = .op :: (qs.flatMap (·.2) ++ [.cl])
theorem Pie.mono : ∀ {n : Nat} {d : D} {ts : List Tk}, Pie n d ts → Pie (n + 1) d ts
  | 0, _, _, h => h.elim
  | n + 1, d, ts, h => by
    rcases h with h | h | h | ⟨qs, h1, h2, h3, h4⟩
    · exact .inl h
    · exact .inr (.inl h)
    · exact .inr (.inr (.inl h))
    · exact .inr (.inr (.inr ⟨qs, h1, h2, fun q hq => (h3 q hq).mono, h4⟩))
theorem br_ne (l : List Nat) : ¬ S (Tk.br l).l = S [91] ∧ ¬ S (Tk.br l).l = S [93] := by
  constructor
  · intro z
    have := S_inj z
    injection this with this _
    exact absurd this (by decide)
  · intro z
    have := S_inj z
    injection this with this _
    exact absurd this (by decide)
theorem sg_ne {l : List Nat} (h : (Tk.sg l).ok) : ¬ S (Tk.sg l).l = S [91] ∧ ¬ S (Tk.sg l).l = S [93] := by
  obtain ⟨c, r, ec, _, _, f2⟩ := (Tk.sg l).first h
  have hs := f2 rfl
  rw [ec]
  constructor
  · intro z
    have := S_inj z
    injection this with this _
    rw [this, sts_no.1] at hs; cases hs
  · intro z
    have := S_inj z
    injection this with this _
    rw [this, sts_no.2.1] at hs; cases hs
theorem runs_of {n : Nat} (A B : Option SV) (run : ∀ (d : D) (ts : List Tk), Pie n d ts → ∀ (yss : List (List D)) (xs : List D) (x : Option SV) (rest : List D), yss.length + n ≤ 4 → xs.length ≤ 900 → ∃ x', forD (gNameF 3) Gen.b_read_template_1 (ts.map tokD ++ rest) [A, B, some (.oL none (yss ++ [xs])), x] = forD (gNameF 3) Gen.b_read_template_1 rest [A, B, some (.oL none (yss ++ [xs ++ [d]])), x']) :
    ∀ (qs : List (D × List Tk)) (yss : List (List D)) (xs : List D) (x : Option SV) (rest : List D), (∀ q ∈ qs, Pie n q.1 q.2) → yss.length + n ≤ 4 → xs.length + qs.length ≤ 900 → ∃ x', forD (gNameF 3) Gen.b_read_template_1 ((qs.flatMap (·.2)).map tokD ++ rest) [A, B, some (.oL none (yss ++ [xs])), x] = forD (gNameF 3) Gen.b_read_template_1 rest [A, B, some (.oL none (yss ++ [xs ++ qs.map (·.1)])), x']
  | [], yss, xs, x, rest, _, _, _ => ⟨x, by simp⟩
  | q :: qs, yss, xs, x, rest, h, hn, hl => by
    rw [List.length_cons] at hl
    obtain ⟨x1, e1⟩ := run q.1 q.2 (h q List.mem_cons_self) yss xs x ((qs.flatMap (·.2)).map tokD ++ rest) hn (by omega)
    obtain ⟨x2, e2⟩ := runs_of A B run qs yss (xs ++ [q.1]) x1 rest (fun p hp => h p (List.mem_cons_of_mem _ hp)) hn (by rw [List.length_append, List.length_singleton]; omega)
    refine ⟨x2, ?_⟩
    have ea : ((q :: qs).flatMap (·.2)).map tokD ++ rest = q.2.map tokD ++ ((qs.flatMap (·.2)).map tokD ++ rest) := by simp
    have eb : xs ++ (q :: qs).map (·.1) = xs ++ [q.1] ++ qs.map (·.1) := by simp
    rw [ea, eb, e1, e2]
theorem run (A B : Option SV) : ∀ (n : Nat) (d : D) (ts : List Tk), Pie n d ts → ∀ (yss : List (List D)) (xs : List D) (x : Option SV) (rest : List D), yss.length + n ≤ 4 → xs.length ≤ 900 → ∃ x', forD (gNameF 3) Gen.b_read_template_1 (ts.map tokD ++ rest) [A, B, some (.oL none (yss ++ [xs])), x] = forD (gNameF 3) Gen.b_read_template_1 rest [A, B, some (.oL none (yss ++ [xs ++ [d]])), x']
  | 0, _, _, h => h.elim
  | n + 1, d, ts, h => by
    intro yss xs x rest hn hx
    rcases h with ⟨l, h1, rfl, rfl⟩ | ⟨ns, h0, h1, h2, rfl, rfl⟩ | ⟨nm, a, b, h1, h2, h3, h4, rfl, rfl⟩ | ⟨qs, h0, h1, h2, rfl, rfl⟩
    · exact ⟨_, forD_nx (by simp) (stepPc A B (.sg l) (sgD l) yss xs (sg_ne h1).1 (sg_ne h1).2 (readSg h1) (by omega))⟩
    · exact ⟨_, forD_nx (by simp) (stepPc A B (.br (jl [124] ns)) (fdD (ns.map S)) yss xs (br_ne _).1 (br_ne _).2 (readFd h0 h1 h2) (by omega))⟩
    · exact ⟨_, forD_nx (by simp) (stepPc A B (.br (hdL nm a b)) (hdD nm a b) yss xs (br_ne _).1 (br_ne _).2 (readHd h1 h2 h3 h4) (by omega))⟩
    · obtain ⟨x1, e1⟩ := runs_of A B (run A B n) qs (yss ++ [xs]) [] (some (.fz (tokD .op))) (tokD .cl :: rest) h2 (by rw [List.length_append, List.length_singleton]; omega) (by simp; omega)
      have hq : qs.map (·.1) ≠ [] := by simpa using h0
      have n1 : 1 ≤ n := by
        cases n with
        | succ k => omega
        | zero =>
          cases qs with
          | nil => exact absurd rfl h0
          | cons q r => exact (h2 q List.mem_cons_self).elim
      have hql : (qs.map (·.1)).length ≤ 1000 := by rw [List.length_map]; omega
      refine ⟨some (.fz (tokD .cl)), ?_⟩
      have ea : (Tk.op :: (qs.flatMap (·.2) ++ [.cl])).map tokD ++ rest = tokD .op :: ((qs.flatMap (·.2)).map tokD ++ (tokD .cl :: rest)) := by simp
      rw [ea]
      refine (forD_nx (δ1 := [A, B, some (.oL none (yss ++ [xs])), some (.fz (tokD .op))]) (by simp) (stepOp A B (yss ++ [xs]) (by rw [List.length_append, List.length_singleton]; omega))).trans ?_
      rw [List.nil_append] at e1
      refine e1.trans ?_
      have st := stepCl A B yss xs (qs.map (·.1)) hq hql (by omega) (by omega)
      generalize qs.map (·.1) = DS at *
      exact forD_nx (d := tokD .cl) (ds := rest) (δ := [A, B, some (.oL none (yss ++ [xs] ++ [DS])), x1]) (δ1 := [A, B, some (.oL none (yss ++ [xs] ++ [DS])), some (.fz (tokD .cl))]) (by simp) st
noncomputable def Tk.isCl : Tk → Bool
  | .cl => true
  | _ => false
theorem count_cl : ∀ ts : List Tk, (∀ t ∈ ts, t.ok) → ((ts.map tokD).countP fun y => eqFl y (.str (S [93]))) = ts.countP Tk.isCl
  | [], _ => rfl
  | t :: ts, h => by
    have ih := count_cl ts fun u hu => h u (List.mem_cons_of_mem _ hu)
    have ht := h t List.mem_cons_self
    rw [List.map_cons, List.countP_cons, List.countP_cons, ih]
    congr 1
    unfold tokD
    rw [eqFl_str]
    cases t with
    | op => rw [decide_eq_false (S_ne (by decide))]; rfl
    | cl => rw [decide_eq_true (show S Tk.cl.l = S [93] from rfl)]; rfl
    | br l => rw [decide_eq_false (br_ne l).2]; rfl
    | sg l => rw [decide_eq_false (sg_ne ht).2]; rfl
theorem Gd.ok : ∀ {p : Bool} {ts : List Tk}, Gd p ts → ∀ t ∈ ts, t.ok
  | _, [], _, _, h => nomatch h
  | _, t :: ts, g, u, h => by
    rcases List.mem_cons.mp h with z | z
    · subst z; exact g.1
    · exact g.2.2.ok u z
theorem tok_flat (ts : List Tk) : (ts.map tokD).all D.isFlat = true := by
  rw [List.all_map]
  exact List.all_eq_true.mpr fun t _ => rfl
theorem readT {qs : List (D × List Tk)} (h : ∀ q ∈ qs, Pie 4 q.1 q.2) (g : Gd false (qs.flatMap (·.2))) (hL : (flat (qs.flatMap (·.2))).length ≤ 100000) (hq : qs.length ≤ 100) (ht : (qs.flatMap (·.2)).length ≤ 900) (hc : (qs.flatMap (·.2)).length ≤ 30 + (qs.flatMap (·.2)).countP Tk.isCl) :
    Gen.g_read_template [.str (S (flat (qs.flatMap (·.2))))] = some (.fz (.tup (qs.map (·.1)))) := by
  have cc := count_cl (qs.flatMap (·.2)) g.ok
  have fl := tok_flat (qs.flatMap (·.2))
  obtain ⟨x', r⟩ := runs_of (some (.fz (.str (S (flat (qs.flatMap (·.2))))))) (some (.fz (.lst ((qs.flatMap (·.2)).map tokD)))) (run _ _ 4) qs [] [] none [] h (by simp) (by simp; omega)
  rw [List.append_nil, List.nil_append, List.nil_append] at r
  have c0 := cutsOf (qs.flatMap (·.2)) g hL ht
  have c : Gen.g_cuts_of [.str (S (flat (qs.flatMap (·.2))))] = some (.ol ((qs.flatMap (·.2)).map tokD)) := c0
  clear c0
  have hlen : ((qs.flatMap (·.2)).map tokD).length = (qs.flatMap (·.2)).length := by rw [List.length_map]
  generalize (qs.flatMap (·.2)).map tokD = C at *
  generalize flat (qs.flatMap (·.2)) = T at *
  generalize (qs.flatMap (·.2)) = ts at *
  have le := List.countP_le_length (p := Tk.isCl) (l := ts)
  have g30 : ¬ (30 : Int) < (C.length : Int) - (ts.countP Tk.isCl : Int) := by omega
  have r : forD (gNameF 3) Gen.b_read_template_1 C [some (.fz (.str (S T))), some (.fz (.lst C)), some (.oL none [[]]), none] = some (.nx [some (.fz (.str (S T))), some (.fz (.lst C)), some (.oL none [qs.map (·.1)]), x']) := r
  have l1 := lenLF_ap (i := 2) (δ := [some (.fz (.str (S T))), some (.fz (.lst C)), some (.oL none [qs.map (·.1)]), x']) (p := none) (xss := [qs.map (·.1)]) rfl
  have l2 := headTupF_ap (i := 2) (δ := [some (.fz (.str (S T))), some (.fz (.lst C)), some (.oL none [qs.map (·.1)]), x']) (p := none) (xss := []) (xs := qs.map (·.1)) rfl
  generalize qs.map (·.1) = DS at *
  have k : bmF "list" countD (nameF 1) (argCons (constF (.str "]")) argNil) [some (.fz (.str (S T))), some (.ol C), none, none] = some (.tmp (.fz (.int (ts.countP Tk.isCl : Nat))), [some (.fz (.str (S T))), some (.ol C), none, none]) := by
    have e : countD [.lst C, .str "]"] = some (.fz (.int (ts.countP Tk.isCl : Nat))) := by
      show (if _ then _ else _) = _
      rw [if_pos ⟨rfl, fl⟩, ← cc, ← cl_S]
    simp [-countD, e]
  have tt : testF (binF gtD (binF subD (primF lenD (argCons (nameF 1) argNil)) (bmF "list" countD (nameF 1) (argCons (constF (.str "]")) argNil))) (constF (.int 30))) [some (.fz (.str (S T))), some (.ol C), none, none] = some (false, [some (.fz (.str (S T))), some (.ol C), none, none]) := by
    generalize bmF "list" countD (nameF 1) (argCons (constF (.str "]")) argNil) = KF at *
    generalize hP : (C.length : Int) - (ts.countP Tk.isCl : Nat) = P at *
    simp [k, hP, g30]
  unfold Gen.g_read_template Gen.f_read_template
  generalize testF (binF gtD (binF subD (primF lenD (argCons (nameF 1) argNil)) (bmF "list" countD (nameF 1) (argCons (constF (.str "]")) argNil))) (constF (.int 30))) = TF at *
  simp [-forD, c, r, l1, l2, tt]
end My

namespace My
open DL PySem
noncomputable def Num (x : Int) : Prop := 0 ≤ x ∧ x < 2147483647
theorem num_mod (x : Int) : Num (x % 2147483647) := ⟨Int.emod_nonneg _ (by decide), Int.emod_lt_of_pos _ (by decide)⟩
theorem numbers_loop (a b : Option SV) : ∀ (n s : Nat) (ms : List Int) (x : Int) (y : Option SV), (∀ m ∈ ms, Num m) → ms.length + n ≤ 1000 →
    ∃ (ms' : List Int) (x' : Int) (y' : Option SV), forD (gNameF 4) Gen.b_law_numbers_1 (nats s n) [a, b, some (.ol (ms.map D.int)), some (.fz (.int x)), y] = some (.nx [a, b, some (.ol (ms'.map D.int)), some (.fz (.int x')), y']) ∧ (∀ m ∈ ms', Num m) ∧ ms'.length = ms.length + n
  | 0, s, ms, x, y, h, _ => ⟨ms, x, y, rfl, h, rfl⟩
  | n + 1, s, ms, x, y, h, hl => by
    have z : ms.length < PySem.sizeLine := line_lt (by omega)
    have hb : Gen.b_law_numbers_1 [a, b, some (.ol (ms.map D.int)), some (.fz (.int x)), some (.fz (.int (s : Int)))] = some (.nx [a, b, some (.ol ((ms ++ [(x + (s : Int) + 1) * 48271 % 2147483647]).map D.int)), some (.fz (.int ((x + (s : Int) + 1) * 48271 % 2147483647))), some (.fz (.int (s : Int)))]) := by
      have hm := mulI_r (i := x + (s : Int) + 1) (j := 48271) (by omega)
      unfold Gen.b_law_numbers_1
      simp [hm, z]
    obtain ⟨ms', x', y', e, h1, h2⟩ := numbers_loop a b n (s + 1) (ms ++ [(x + (s : Int) + 1) * 48271 % 2147483647]) ((x + (s : Int) + 1) * 48271 % 2147483647) (some (.fz (.int (s : Int)))) (fun m hm => by
      rcases List.mem_append.mp hm with hm | hm
      · exact h m hm
      · rw [List.mem_singleton.mp hm]; exact num_mod _) (by rw [List.length_append, List.length_singleton]; omega)
    refine ⟨ms', x', y', (forD_nx (ds := nats (s + 1) n) (by simp) hb).trans e, h1, by rw [h2, List.length_append, List.length_singleton]; omega⟩
theorem numbers_ok (c : Int) (n : Nat) (h : n ≤ 1000) : ∃ ms : List Int, Gen.g_law_numbers [.int c, .int (n : Int)] = some (.ol (ms.map D.int)) ∧ (∀ m ∈ ms, Num m) ∧ ms.length = n := by
  obtain ⟨ms, x', y', e, h1, h2⟩ := numbers_loop (some (.fz (.int c))) (some (.fz (.int (n : Int)))) n 0 [] (c % 2147483647) none (fun _ h => nomatch h) (by simpa using h)
  refine ⟨ms, ?_, h1, by simpa using h2⟩
  have g1 : rngP (n : Int) := rngP_nat (by omega)
  have et : ((n : Int)).toNat = n := by omega
  have z0 : 0 ≤ PySem.sizeLine := Nat.zero_le _
  simp only [List.map_nil] at e
  unfold Gen.g_law_numbers Gen.f_law_numbers
  simp [-forD, g1, et, ints_nats, e]
noncomputable def OneIn (P : Nat → Prop) (s : Str) : Prop := ∃ c, P c ∧ s = ⟨#[c]⟩
theorem cat_ones {P : Nat → Prop} : ∀ ts : List Str, (∀ t ∈ ts, OneIn P t) → ∃ l, cat ts = S l ∧ l.length = ts.length ∧ ∀ c ∈ l, P c
  | [], _ => ⟨[], by decide +kernel, rfl, (fun _ h => nomatch h)⟩
  | t :: ts, h => by
    obtain ⟨c, hc, rfl⟩ := h t List.mem_cons_self
    obtain ⟨l, e, hl, hp⟩ := cat_ones ts fun x hx => h x (List.mem_cons_of_mem _ hx)
    refine ⟨c :: l, ?_, by rw [List.length_cons, List.length_cons, hl], fun d hd => ?_⟩
    · show (⟨#[c]⟩ : Str) ++ cat ts = _
      rw [e]; exact S_app [c] l
    · rcases List.mem_cons.mp hd with z | z
      · rw [z]; exact hc
      · exact hp d z
theorem ones_join {P : Nat → Prop} (ts : List Str) (h : ∀ t ∈ ts, OneIn P t) (hl : ts.length ≤ 1000) : JoinOk (Str.ofString "") ts = true := joinOk (B := 1) (fun x hx => by obtain ⟨c, _, e⟩ := h x hx; rw [e]; exact Nat.le_refl 1) (by
  have : (Str.ofString "").length = 0 := by decide +kernel
  rw [this]; omega)
theorem abc_of : ∀ c ∈ ABC.cps.toList, abc c = true := by decide +kernel
theorem sts_of : ∀ c ∈ STS.cps.toList, c < 128 ∧ sts c = true := by decide +kernel
theorem signs_comp (sg : Str) (hl : 0 < sg.length) (hs : sg.length ≤ 1000) (ms : List Int) (hm : ms.length ≤ 1000) : ∃ ts : List Str, compD [.own, .cap 1, .acc] 2 (gNameF 0) trueT Gen.e_law_signs_1 (ms.map D.int) [none, some (.fz (.str sg)), some (.ol [])] = some [none, some (.fz (.str sg)), some (.ol (ts.map D.str))] ∧ ts.length = ms.length ∧ ∀ t ∈ ts, OneIn (fun c => c ∈ sg.cps.toList) t := by
  have zs : sg.length ≤ PySem.sizeLine := line_of (by omega)
  have hp : 0 < (sg.length : Int) := by omega
  obtain ⟨vs, e, hv, hvl⟩ := comp_ex (src := [.own, .cap 1, .acc]) (k := 2) (g := gNameF 0) (tt := trueT) (te := Gen.e_law_signs_1) (st := fun zs => [none, some (.fz (.str sg)), some (.ol zs)]) (R := fun v => ∃ s, v = .str s ∧ OneIn (fun c => c ∈ sg.cps.toList) s) (ms.map D.int) [] (fun d hd zs' ds' hz => by
    obtain ⟨i, hi, rfl⟩ := List.mem_map.mp hd
    obtain ⟨ch, hch, ha⟩ := at_mod sg.cps.toList i (sg.length : Int) (by rw [len_list]) hp
    refine ⟨.str ⟨#[ch]⟩, ⟨_, rfl, ch, hch, rfl⟩, ?_⟩
    unfold Gen.e_law_signs_1
    simp [ha, hp, hl, zs, hz]) (by simp; omega)
  obtain ⟨ts, e2, h2⟩ := strs_of vs hv
  rw [e2, List.length_map, List.length_map] at hvl
  rw [e2, List.nil_append] at e
  exact ⟨ts, e, hvl, h2⟩
theorem signsOk (c : Int) : ∃ l, Gen.g_law_signs [.int c] = some (.fz (.str (S l))) ∧ (Tk.sg l).ok := by
  have m0 : 0 ≤ c % 30 := Int.emod_nonneg _ (by decide)
  have m1 : c % 30 < 30 := Int.emod_lt_of_pos _ (by decide)
  obtain ⟨n, hn⟩ : ∃ n : Nat, (n : Int) = 1 + c % 30 := ⟨(1 + c % 30).toNat, by omega⟩
  obtain ⟨ms, e1, _, e3⟩ := numbers_ok c n (by omega)
  obtain ⟨ts, e, hl, h2⟩ := signs_comp STS (by decide +kernel) (by decide +kernel) ms (by omega)
  obtain ⟨l, el, ll, hc⟩ := cat_ones ts h2
  have j := ones_join ts h2 (by omega)
  have tj := tjoin0 ts
  rw [el] at tj
  have sm := strs_map ts
  rw [hn] at e1
  refine ⟨l, ?_, ?_, by omega, fun c hm => sts_of c (hc c hm)⟩
  · unfold Gen.g_law_signs Gen.f_law_signs
    simp [-compD, e1, e, sm, j, tj]
  · intro z
    rw [z] at ll
    simp at ll
    omega
theorem name_comp (sg : Str) (hl : (sg.cps.toList.length : Int) = 26) (hs : sg.length ≤ 1000) (ms : List Int) (n : Nat) (hm : n ≤ ms.length) (hn : n ≤ 1000) : ∃ ts : List Str, compD [.own, .cap 1, .cap 2, .acc] 3 (gNameF 0) trueT Gen.e_law_name_1 (nats 0 n) [none, some (.fz (.str sg)), some (.fz (.lst (ms.map D.int))), some (.ol [])] = some [none, some (.fz (.str sg)), some (.fz (.lst (ms.map D.int))), some (.ol (ts.map D.str))] ∧ ts.length = n ∧ ∀ t ∈ ts, OneIn (fun c => c ∈ sg.cps.toList) t := by
  have zs : sg.length ≤ PySem.sizeLine := line_of (by omega)
  obtain ⟨vs, e, hv, hvl⟩ := comp_ex (src := [.own, .cap 1, .cap 2, .acc]) (k := 3) (g := gNameF 0) (tt := trueT) (te := Gen.e_law_name_1) (st := fun zs => [none, some (.fz (.str sg)), some (.fz (.lst (ms.map D.int))), some (.ol zs)]) (R := fun v => ∃ s, v = .str s ∧ OneIn (fun c => c ∈ sg.cps.toList) s) (nats 0 n) [] (fun d hd zs' ds' hz => by
    obtain ⟨i, hi, rfl⟩ := List.mem_map.mp hd
    have hi9 : i < n := by obtain ⟨j, h1, h2⟩ := List.mem_range'.mp hi; omega
    have ai : L2.atI (ms.map D.int) (i : Int) = some (.int (ms[i]'(by omega))) := at_nat _ _ _ (by rw [List.getElem?_map, List.getElem?_eq_getElem (by omega)]; rfl)
    generalize ms[i]'(by omega) = vi at ai
    obtain ⟨ch, hch, ha⟩ := at_mod sg.cps.toList vi 26 hl (by decide)
    refine ⟨.str ⟨#[ch]⟩, ⟨_, rfl, ch, hch, rfl⟩, ?_⟩
    unfold Gen.e_law_name_1
    simp [ai, ha, zs, hz]) (by simp; omega)
  obtain ⟨ts, e2, h2⟩ := strs_of vs hv
  rw [e2, List.length_map, List.length_map, List.length_range'] at hvl
  rw [e2, List.nil_append] at e
  exact ⟨ts, e, hvl, h2⟩
theorem nam_notes : Nam [110, 111, 116, 101, 115] := ⟨by decide, by decide, by decide, by decide⟩
theorem notes_S : Str.ofString "notes" = S [110, 111, 116, 101, 115] := by decide +kernel
theorem nameOk (c : Int) : ∃ l, Gen.g_law_name [.int c] = some (.fz (.str (S l))) ∧ Nam l := by
  obtain ⟨ms, e1, _, e3⟩ := numbers_ok c 9 (by decide)
  have i9 : ((9 : Nat) : Int) = 9 := rfl
  rw [i9] at e1
  have a8 : L2.atI (ms.map D.int) 8 = some (.int (ms[8]'(by omega))) := at_nat _ 8 _ (by rw [List.getElem?_map, List.getElem?_eq_getElem (by omega)]; rfl)
  generalize ms[8]'(by omega) = v8 at a8
  have m0 : 0 ≤ v8 % 8 := Int.emod_nonneg _ (by decide)
  have m1 : v8 % 8 < 8 := Int.emod_lt_of_pos _ (by decide)
  obtain ⟨n, hn⟩ : ∃ n : Nat, (n : Int) = 1 + v8 % 8 := ⟨(1 + v8 % 8).toNat, by omega⟩
  obtain ⟨ts, e, hl, h2⟩ := name_comp ABC (by decide +kernel) (by decide +kernel) ms n (by omega) (by omega)
  obtain ⟨l, el, ll, hc⟩ := cat_ones ts h2
  have j := ones_join ts h2 (by omega)
  have tj := tjoin0 ts
  rw [el] at tj
  have sm := strs_map ts
  have g1 : rngP (n : Int) := rngP_nat (by omega)
  have et : ((n : Int)).toNat = n := by omega
  by_cases hN : l = [110, 111, 116, 101]
  · have hN' : S l = S [110, 111, 116, 101] := by rw [hN]
    refine ⟨[110, 111, 116, 101, 115], ?_, nam_notes⟩
    unfold Gen.g_law_name Gen.f_law_name
    simp [-compD, e1, a8, ← hn, g1, et, ints_nats, e, sm, j, tj, note_S, notes_S, hN']
  · have hN' : ¬ S l = S [110, 111, 116, 101] := S_ne hN
    refine ⟨l, ?_, by omega, by omega, List.all_eq_true.mpr fun c hm => abc_of c (hc c hm), hN⟩
    unfold Gen.g_law_name Gen.f_law_name
    simp [-compD, e1, a8, ← hn, g1, et, ints_nats, e, sm, j, tj, note_S, hN']
end My

namespace My
open DL PySem
theorem digStr : ∀ a < 10, strD [.int ((a : Nat) : Int)] = some (.fz (.str (S [48 + a]))) := by
  intro a ha
  have : ∀ a < 10, ((a : Nat) : Int).natAbs.log2 < 1920 ∧ (Str.ofString (toString ((a : Nat) : Int))) = S [48 + a] := by decide +kernel
  obtain ⟨h1, h2⟩ := this a ha
  show (if _ then _ else _) = _
  rw [if_pos h1]
  exact congrArg (fun s => some (SV.fz (.str s))) h2
theorem cat_flat : ∀ qs : List (D × List Tk), cat (qs.map fun q => S (flat q.2)) = S (flat (qs.flatMap (·.2)))
  | [] => by decide +kernel
  | q :: qs => by
    rw [List.map_cons, List.flatMap_cons, flat_app, ← S_app, ← cat_flat qs]; rfl
theorem flat_le : ∀ (qs : List (D × List Tk)) (q : D × List Tk), q ∈ qs → (flat q.2).length ≤ (flat (qs.flatMap (·.2))).length
  | [], _, h => nomatch h
  | p :: qs, q, h => by
    rw [List.flatMap_cons, flat_app, List.length_append]
    rcases List.mem_cons.mp h with z | z
    · rw [z]; omega
    · have := flat_le qs q z; omega
theorem show_comp (r : List D → Option SV) : ∀ (qs : List (D × List Tk)) (zs : List D), (∀ q ∈ qs, Gen.q_show_piece r [q.1] = some (.fz (.str (S (flat q.2))))) → zs.length + qs.length ≤ 1000 → compD [.own, .acc] 1 (gNameF 0) trueT (Gen.e_show_template_1 r) (qs.map (·.1)) [none, some (.ol zs)] = some [none, some (.ol (zs ++ (qs.map fun q => S (flat q.2)).map D.str))]
  | [], zs, _, _ => by simp
  | q :: qs, zs, h, hl => by
    rw [List.length_cons] at hl
    have ih := show_comp r qs (zs ++ [.str (S (flat q.2))]) (fun p hp => h p (List.mem_cons_of_mem _ hp)) (by rw [List.length_append, List.length_singleton]; omega)
    have e1 := h q List.mem_cons_self
    have z : zs.length < PySem.sizeLine := line_lt (by omega)
    have st : compD [.own, .acc] 1 (gNameF 0) trueT (Gen.e_show_template_1 r) (q.1 :: qs.map (·.1)) [none, some (.ol zs)] = compD [.own, .acc] 1 (gNameF 0) trueT (Gen.e_show_template_1 r) (qs.map (·.1)) [none, some (.ol (zs ++ [.str (S (flat q.2))]))] := by
      generalize S (flat q.2) = T at *
      generalize qs.map (·.1) = DS at *
      unfold Gen.e_show_template_1
      simp [e1, z]
    refine st.trans (ih.trans ?_)
    simp
theorem showT_of {k : Nat} (qs : List (D × List Tk)) (hall : ∀ q ∈ qs, Gen.q_show_piece (Gen.n_show_template k) [q.1] = some (.fz (.str (S (flat q.2))))) (hq : qs.length ≤ 100) (hL : (flat (qs.flatMap (·.2))).length ≤ 100000) : Gen.n_show_template (k + 1) [.tup (qs.map (·.1))] = some (.fz (.str (S (flat (qs.flatMap (·.2)))))) := by
  have c := show_comp (Gen.n_show_template k) qs [] hall (by simp; omega)
  rw [List.nil_append] at c
  have j := joinOk (sep := Str.ofString "") (xs := qs.map fun q => S (flat q.2)) (B := 100000) (fun x hx => by
    obtain ⟨q, hq, rfl⟩ := List.mem_map.mp hx
    rw [S_len]; have := flat_le qs q hq; omega) (by
    have : (Str.ofString "").length = 0 := by decide +kernel
    rw [this, List.length_map]; omega)
  have tj := tjoin0 (qs.map fun q => S (flat q.2))
  rw [cat_flat] at tj
  have sm := strs_map (qs.map fun q => S (flat q.2))
  generalize (qs.map fun q => S (flat q.2)) = TS at *
  generalize qs.map (·.1) = DS at *
  generalize flat (qs.flatMap (·.2)) = FL at *
  unfold Gen.n_show_template Gen.f_show_template
  simp [-compD, c, sm, j, tj]
theorem join_jl (y : List Nat) (ns : List (List Nat)) : Str.join (S y) (ns.map S) = S (jl y ns) := by
  have e := join_list (S y) (ns.map S)
  rw [List.map_map] at e
  have e2 : ns.map ((fun p => p.cps.toList) ∘ S) = ns := by
    conv => rhs; rw [← List.map_id ns]
    refine List.map_congr_left fun a _ => ?_
    show (S a).cps.toList = a
    rw [S_list]
  rw [e2, S_list] at e
  rw [S_of (Str.join (S y) (ns.map S)), e]
theorem nam_join {ns : List (List Nat)} (hl : ns.length ≤ 4) (hn : ∀ n ∈ ns, Nam n) : JoinOk (S [124]) (ns.map S) = true := joinOk (B := 8) (fun x hx => by
  obtain ⟨n, h, rfl⟩ := List.mem_map.mp hx
  rw [S_len]; exact (hn n h).2.1) (by
  have : (S [124]).length = 1 := by decide +kernel
  rw [this, List.length_map]; omega)
theorem two1 (x y : D) : L2.atI [x, y] 1 = some y := rfl
theorem two0 (x y : D) : L2.atI [x, y] 0 = some x := rfl
theorem four0 (x y z u : D) : L2.atI [x, y, z, u] 0 = some x := rfl
theorem four1 (x y z u : D) : L2.atI [x, y, z, u] 1 = some y := rfl
theorem four2 (x y z u : D) : L2.atI [x, y, z, u] 2 = some z := rfl
theorem four3 (x y z u : D) : L2.atI [x, y, z, u] 3 = some u := rfl
theorem fl_s : ¬ FLD = SGS := by decide +kernel
theorem hd_s : ¬ HDS = SGS := by decide +kernel
theorem hd_f : ¬ HDS = FLD := by decide +kernel
theorem gr_s : ¬ GRP = SGS := by decide +kernel
theorem gr_f : ¬ GRP = FLD := by decide +kernel
theorem gr_h : ¬ GRP = HDS := by decide +kernel
theorem brk {a b : Nat} (l : List Nat) : S [a] ++ S l ++ S [b] = S (a :: (l ++ [b])) := by rw [S_app, S_app]; simp
theorem brk_z {a b : Nat} (l : List Nat) (h : l.length ≤ 1000000) : (S [a]).length + (S l).length ≤ PySem.sizeLine ∧ (S [a] ++ S l).length + (S [b]).length ≤ PySem.sizeLine := by
  constructor
  · refine line_of ?_; rw [S_len, S_len]; simp; omega
  · refine line_of ?_; rw [S_app, S_len, S_len]; simp; omega
theorem hd_eq (n : List Nat) (a b : Nat) : S [123] ++ S n ++ S [32] ++ S [48 + a] ++ S [32] ++ S [48 + b] ++ S [125] = S (Tk.br (hdL n a b)).l := by
  rw [S_app, S_app, S_app, S_app, S_app, S_app]
  show _ = S (123 :: ((n ++ [32] ++ ([48 + a] ++ [32] ++ [48 + b])) ++ [125]))
  congr 1
  simp
theorem showP : ∀ (n : Nat) (d : D) (ts : List Tk), Pie n d ts → (flat ts).length ≤ 100000 → ∀ m, n ≤ m + 1 → Gen.q_show_piece (Gen.n_show_template m) [d] = some (.fz (.str (S (flat ts))))
  | 0, _, _, h, _, _, _ => h.elim
  | n + 1, d, ts, h, hL, m, hm => by
    rcases h with ⟨l, h1, rfl, rfl⟩ | ⟨ns, h0, h1, h2, rfl, rfl⟩ | ⟨nm, a, b, h1, h2, h3, h4, rfl, rfl⟩ | ⟨qs, h0, h1, h2, rfl, rfl⟩
    · have e : flat [Tk.sg l] = l := by show l ++ [] = l; simp
      rw [e]
      generalize Gen.n_show_template m = r
      unfold Gen.q_show_piece Gen.f_show_piece sgD
      simp [two0, two1, e_sgs]
    · have e : flat [Tk.br (jl [124] ns)] = 123 :: (jl [124] ns ++ [125]) := by show 123 :: (jl [124] ns ++ [125]) ++ [] = _; simp
      have js := join_jl [124] ns
      have jo := nam_join h1 h2
      have tj := tjoin (S [124]) (ns.map S)
      rw [js] at tj
      have sm := strs_map (ns.map S)
      have zl := fd_len h1 h2
      obtain ⟨z1, z3⟩ := brk_z (a := 123) (b := 125) (jl [124] ns) (by omega)
      rw [e, ← brk]
      unfold fdD
      generalize ns.map S = N at *
      generalize S (jl [124] ns) = J at *
      generalize Gen.n_show_template m = r
      unfold Gen.q_show_piece Gen.f_show_piece
      simp [two0, two1, e_sgs, e_fld, fl_s, ob_S, cb_S, ba_S, sm, jo, tj, z1, z3]
    · have e : flat [Tk.br (hdL nm a b)] = (Tk.br (hdL nm a b)).l := by show _ ++ [] = _; simp
      have s1 := digStr a (by omega)
      have s2 := digStr b (by omega)
      have ln := h1.2.1
      have l1 : (S [123]).length = 1 := S_len _
      have l2 : (S [32]).length = 1 := S_len _
      have l3 : (S [48 + a]).length = 1 := S_len _
      have l4 : (S [48 + b]).length = 1 := S_len _
      have l5 : (S [125]).length = 1 := S_len _
      have l6 : (S nm).length ≤ 8 := by rw [S_len]; exact ln
      rw [e, ← hd_eq]
      unfold hdD
      have oO := ob_S
      have oB := bl_S
      have oC := cb_S
      generalize S nm = N at *
      generalize S [48 + a] = SA at *
      generalize S [48 + b] = SB at *
      generalize S [123] = O at *
      have z1 : O.length + N.length ≤ PySem.sizeLine := line_of (by omega)
      have z2 : (O ++ N).length + (S [32]).length ≤ PySem.sizeLine := line_of (by rw [app_len]; omega)
      have z3 : (O ++ N ++ S [32]).length + SA.length ≤ PySem.sizeLine := line_of (by rw [app_len, app_len]; omega)
      have z4 : (O ++ N ++ S [32] ++ SA).length + (S [32]).length ≤ PySem.sizeLine := line_of (by rw [app_len, app_len, app_len]; omega)
      have z5 : (O ++ N ++ S [32] ++ SA ++ S [32]).length + SB.length ≤ PySem.sizeLine := line_of (by rw [app_len, app_len, app_len, app_len]; omega)
      have z6 : (O ++ N ++ S [32] ++ SA ++ S [32] ++ SB).length + (S [125]).length ≤ PySem.sizeLine := line_of (by rw [app_len, app_len, app_len, app_len, app_len]; omega)
      generalize S [32] = BL at *
      generalize S [125] = CB at *
      generalize Gen.n_show_template m = r
      unfold Gen.q_show_piece Gen.f_show_piece
      simp [-strD, four0, four1, four2, four3, e_sgs, e_fld, e_hds, hd_s, hd_f, oO, oC, oB, s1, s2, z1, z2, z3, z4, z5, z6]
    · have n1 : 1 ≤ n := by
        cases n with
        | succ k => omega
        | zero =>
          cases qs with
          | nil => exact absurd rfl h0
          | cons q r => exact (h2 q List.mem_cons_self).elim
      have e : flat (Tk.op :: (qs.flatMap (·.2) ++ [.cl])) = 91 :: (flat (qs.flatMap (·.2)) ++ [93]) := by
        rw [flat_cons, flat_app]; rfl
      rw [e] at hL ⊢
      rw [List.length_cons, List.length_append] at hL
      obtain ⟨k, rfl⟩ : ∃ k, m = k + 1 := ⟨m - 1, by omega⟩
      have st := showT_of (k := k) qs (fun q hq => showP n q.1 q.2 (h2 q hq) (by have := flat_le qs q hq; omega) k (by omega)) h1 (by omega)
      obtain ⟨z1, z3⟩ := brk_z (a := 91) (b := 93) (flat (qs.flatMap (·.2))) (by omega)
      rw [← brk]
      unfold grD
      generalize qs.map (·.1) = DS at *
      generalize S (flat (qs.flatMap (·.2))) = FL at *
      generalize Gen.n_show_template (k + 1) = r at *
      unfold Gen.q_show_piece Gen.f_show_piece
      simp [two0, two1, e_sgs, e_fld, e_hds, gr_s, gr_f, gr_h, op_S, cl_S, st, z1, z3]
theorem showT (qs : List (D × List Tk)) (h : ∀ q ∈ qs, Pie 4 q.1 q.2) (hq : qs.length ≤ 100) (hL : (flat (qs.flatMap (·.2))).length ≤ 100000) : Gen.g_show_template [.tup (qs.map (·.1))] = some (.fz (.str (S (flat (qs.flatMap (·.2)))))) :=
  showT_of (k := 11) qs (fun q hq => showP 4 q.1 q.2 (h q hq) (by have := flat_le qs q hq; omega) 11 (by decide)) hq hL
noncomputable def Dp : Nat → D → Prop
  | 0, _ => False
  | n + 1, d => (∃ s, d = .str s) ∨ (∃ i, d = .int i) ∨ ∃ ds : List D, ds.length ≤ 1000 ∧ (∀ x ∈ ds, Dp n x) ∧ d = .tup ds
theorem Dp.str (n : Nat) (s : Str) : Dp (n + 1) (.str s) := .inl ⟨s, rfl⟩
theorem Dp.int (n : Nat) (i : Int) : Dp (n + 1) (.int i) := .inr (.inl ⟨i, rfl⟩)
theorem Dp.tup {n : Nat} {ds : List D} (hl : ds.length ≤ 1000) (h : ∀ x ∈ ds, Dp n x) : Dp (n + 1) (.tup ds) := .inr (.inr ⟨ds, hl, h, rfl⟩)
theorem pie_dp : ∀ (n : Nat) (d : D) (ts : List Tk), Pie n d ts → Dp (2 * n + 1) d
  | 0, _, _, h => h.elim
  | n + 1, d, ts, h => by
    have e : 2 * (n + 1) + 1 = 2 * n + 3 := by omega
    rw [e]
    rcases h with ⟨l, h1, rfl, rfl⟩ | ⟨ns, h0, h1, h2, rfl, rfl⟩ | ⟨nm, a, b, h1, h2, h3, h4, rfl, rfl⟩ | ⟨qs, h0, h1, h2, rfl, rfl⟩
    · refine Dp.tup (by simp) fun x hx => ?_
      rcases List.mem_cons.mp hx with z | hx
      · rw [z]; exact Dp.str _ _
      · rw [List.mem_singleton.mp hx]; exact Dp.str _ _
    · refine Dp.tup (by simp) fun x hx => ?_
      rcases List.mem_cons.mp hx with z | hx
      · rw [z]; exact Dp.str _ _
      · rw [List.mem_singleton.mp hx]
        refine Dp.tup (by rw [List.length_map, List.length_map]; omega) fun y hy => ?_
        obtain ⟨s, _, rfl⟩ := List.mem_map.mp hy
        exact Dp.str _ _
    · refine Dp.tup (by simp) fun x hx => ?_
      rcases List.mem_cons.mp hx with z | hx
      · rw [z]; exact Dp.str _ _
      rcases List.mem_cons.mp hx with z | hx
      · rw [z]; exact Dp.str _ _
      rcases List.mem_cons.mp hx with z | hx
      · rw [z]; exact Dp.int _ _
      rw [List.mem_singleton.mp hx]; exact Dp.int _ _
    · refine Dp.tup (by simp) fun x hx => ?_
      rcases List.mem_cons.mp hx with z | hx
      · rw [z]; exact Dp.str _ _
      · rw [List.mem_singleton.mp hx]
        refine Dp.tup (by rw [List.length_map]; omega) fun y hy => ?_
        obtain ⟨q, hq, rfl⟩ := List.mem_map.mp hy
        exact pie_dp n q.1 q.2 (h2 q hq)
theorem trues_in (n : Nat) : inFl (.bl false) ((nats 0 n).filterMap fun _ => some (D.bl true)) = false := by
  unfold inFl
  rw [List.any_eq_false]
  intro x hx
  obtain ⟨_, _, e⟩ := List.mem_filterMap.mp hx
  cases e
  decide
theorem trues_flat (n : Nat) : ((nats 0 n).filterMap fun _ => some (D.bl true)).all D.isFlat = true := by
  rw [List.all_eq_true]
  intro x hx
  obtain ⟨_, _, e⟩ := List.mem_filterMap.mp hx
  cases e
  rfl
theorem alike_comp (r : List D → Option SV) (ds : List D) (hl : ds.length ≤ 1000) (h : ∀ x ∈ ds, r [x, x] = some (.fz (.bl true))) :
    compD [.own, .cap 0, .cap 1, .acc] 3 (gNameF 0) trueT (Gen.e_law_alike_1 r) (nats 0 ds.length) [none, some (.fz (.tup ds)), some (.fz (.tup ds)), some (.ol [])] = some [none, some (.fz (.tup ds)), some (.fz (.tup ds)), some (.ol ((nats 0 ds.length).filterMap fun _ => some (D.bl true)))] := by
  have := comp_fm (src := [.own, .cap 0, .cap 1, .acc]) (k := 3) (g := gNameF 0) (tt := trueT) (te := Gen.e_law_alike_1 r) (st := fun zs => [none, some (.fz (.tup ds)), some (.fz (.tup ds)), some (.ol zs)]) (f := fun _ => some (D.bl true)) (nats 0 ds.length) [] (fun d hd zs ds' hz => by
    obtain ⟨i, hi, rfl⟩ := List.mem_map.mp hd
    have hi9 : i < ds.length := by obtain ⟨j, h1, h2⟩ := List.mem_range'.mp hi; omega
    have ai : L2.atI ds (i : Int) = some (ds[i]) := at_nat _ _ _ (List.getElem?_eq_getElem hi9)
    have hr := h _ (List.getElem_mem hi9)
    generalize ds[i] = x at *
    unfold Gen.e_law_alike_1
    simp [ai, hr, hz]) (by simp; omega)
  rwa [List.nil_append] at this
theorem alike : ∀ (n : Nat) (d : D), Dp n d → ∀ m, n ≤ m → Gen.n_law_alike m [d, d] = some (.fz (.bl true))
  | 0, _, h, _, _ => h.elim
  | n + 1, d, h, m, hm => by
    obtain ⟨k, rfl⟩ : ∃ k, m = k + 1 := ⟨m - 1, by omega⟩
    rcases h with ⟨s, rfl⟩ | ⟨i, rfl⟩ | ⟨ds, h1, h2, rfl⟩
    · unfold Gen.n_law_alike Gen.f_law_alike
      generalize Gen.n_law_alike k = r
      simp
    · unfold Gen.n_law_alike Gen.f_law_alike
      generalize Gen.n_law_alike k = r
      simp
    · have c := alike_comp (Gen.n_law_alike k) ds h1 fun x hx => alike n x (h2 x hx) k (by omega)
      have t1 := trues_in ds.length
      have t2 := trues_flat ds.length
      have g1 : rngP (ds.length : Int) := rngP_nat (by omega)
      have et : ((ds.length : Int)).toNat = ds.length := by omega
      have z : ds.length ≤ PySem.sizeLine := line_of (by omega)
      rw [← ints_nats] at c t1 t2
      generalize ((intsD 0 ds.length).filterMap fun _ => some (D.bl true)) = TR at *
      unfold Gen.n_law_alike Gen.f_law_alike
      generalize Gen.n_law_alike k = r at *
      simp [-compD, -List.all_eq_true, z, g1, et, c, t1, t2]
end My

set_option maxHeartbeats 1000000
namespace My
open DL PySem
theorem gd_cl : ∀ {p : Bool} {ts : List Tk}, Gd p ts → Gd p (ts ++ [.cl])
  | _, [], _ => ⟨trivial, (fun h => nomatch h.2), trivial⟩
  | _, t :: ts, ⟨h1, h2, h3⟩ => ⟨h1, h2, gd_cl h3⟩
theorem Pie.le {n : Nat} {d : D} {ts : List Tk} (h : Pie n d ts) : ∀ {m : Nat}, n ≤ m → Pie m d ts := by
  intro m hm
  obtain ⟨k, rfl⟩ : ∃ k, m = n + k := ⟨m - n, by omega⟩
  clear hm
  induction k with
  | zero => exact h
  | succ k ih => exact ih.mono
structure Okp (j : Nat) (d : D) (ts : List Tk) : Prop where
  pie : Pie j d ts
  gd : Gd false ts
  len : (flat ts).length ≤ 100 + 2 * j
  tl : ts.length ≤ 2 * j
theorem Okp.grp {j : Nat} {d : D} {ts : List Tk} (h : Okp j d ts) : Okp (j + 1) (grD [d]) (.op :: (ts ++ [.cl])) := by
  refine ⟨.inr (.inr (.inr ⟨[(d, ts)], by simp, by simp, fun q hq => ?_, rfl, by simp⟩)), ⟨trivial, (fun z => nomatch z.1), gd_cl h.gd⟩, ?_, ?_⟩
  · rw [List.mem_singleton.mp hq]; exact h.pie
  · have := h.len
    rw [flat_cons, flat_app]
    show (91 :: (flat ts ++ [93])).length ≤ _
    simp; omega
  · have := h.tl
    simp; omega
theorem okp_sg {l : List Nat} (h : (Tk.sg l).ok) : Okp 1 (sgD l) [.sg l] := by
  refine ⟨.inl ⟨l, h, rfl, rfl⟩, ⟨h, (fun z => nomatch z.1), trivial⟩, ?_, by simp⟩
  have := h.2.1
  show (l ++ []).length ≤ _
  simp; omega
theorem okp_fd {ns : List (List Nat)} (h0 : ns ≠ []) (hl : ns.length ≤ 4) (hn : ∀ n ∈ ns, Nam n) : Okp 1 (fdD (ns.map S)) [.br (jl [124] ns)] := by
  have z := fd_len hl hn
  refine ⟨.inr (.inl ⟨ns, h0, hl, hn, rfl, rfl⟩), ⟨⟨fd_no hn 125 (.inr (by decide)) (by decide), by omega⟩, (fun z => nomatch z.1), trivial⟩, ?_, by simp⟩
  show (123 :: (jl [124] ns ++ [125]) ++ []).length ≤ _
  simp; omega
theorem okp_hd {n : List Nat} {a b : Nat} (hn : Nam n) (h1 : 1 ≤ a) (h2 : a ≤ 9) (h3 : b ≤ 2) : Okp 1 (hdD n a b) [.br (hdL n a b)] := by
  have z := hd_len (a := a) (b := b) hn
  refine ⟨.inr (.inr (.inl ⟨n, a, b, hn, h1, h2, h3, rfl, rfl⟩)), ⟨⟨hd_no hn h2 h3 125 (by decide), by omega⟩, (fun z => nomatch z.1), trivial⟩, ?_, by simp⟩
  show (123 :: (hdL n a b ++ [125]) ++ []).length ≤ _
  simp; omega
theorem fl_sg (l : List Nat) : flat [Tk.sg l] = l := by show l ++ [] = l; simp
theorem fl_br (l : List Nat) : flat [Tk.br l] = 123 :: (l ++ [125]) := by show 123 :: (l ++ [125]) ++ [] = _; simp
theorem piece_sg (c : Int) (h : c % 6 < 2) : ∃ d ts, Okp 1 d ts ∧ Gen.g_law_piece [.int c] = some (.fz (.tup [d, .str (S (flat ts))])) := by
  obtain ⟨l, e, ok⟩ := signsOk (c / 6)
  refine ⟨sgD l, [.sg l], okp_sg ok, ?_⟩
  rw [fl_sg]
  unfold Gen.g_law_piece Gen.f_law_piece sgD
  simp [h, e, z2, e_sgs]
theorem names_comp (x : Int) (n : Nat) (hn : n ≤ 4) : ∃ ns : List (List Nat), compD [.own, .cap 1, .acc] 2 (gNameF 0) trueT Gen.e_law_piece_1 (nats 0 n) [none, some (.fz (.int x)), some (.ol [])] = some [none, some (.fz (.int x)), some (.ol ((ns.map S).map D.str))] ∧ ns.length = n ∧ ∀ l ∈ ns, Nam l := by
  obtain ⟨vs, e, hv, hvl⟩ := comp_ex (src := [.own, .cap 1, .acc]) (k := 2) (g := gNameF 0) (tt := trueT) (te := Gen.e_law_piece_1) (st := fun zs => [none, some (.fz (.int x)), some (.ol zs)]) (R := fun v => ∃ s, v = .str s ∧ ∃ l, s = S l ∧ Nam l) (nats 0 n) [] (fun d hd zs' ds' hz => by
    obtain ⟨i, hi, rfl⟩ := List.mem_map.mp hd
    obtain ⟨l, e, ok⟩ := nameOk (x + 7919 * (i : Int))
    have hm := mulI_l (i := 7919) (j := (i : Int)) (by omega)
    refine ⟨.str (S l), ⟨_, rfl, l, rfl, ok⟩, ?_⟩
    generalize S l = N at *
    generalize (i : Int) = k at *
    unfold Gen.e_law_piece_1
    simp [hm, e, hz]) (by simp; omega)
  obtain ⟨ts, e2, h2⟩ := strs_of vs hv
  rw [e2, List.length_map, List.length_map, List.length_range'] at hvl
  rw [e2, List.nil_append] at e
  obtain ⟨ns, e3, h3⟩ : ∃ ns : List (List Nat), ts = ns.map S ∧ ∀ l ∈ ns, Nam l := by
    refine ⟨ts.map fun t => t.cps.toList, ?_, fun l hl => ?_⟩
    · rw [List.map_map]
      conv => lhs; rw [← List.map_id ts]
      refine List.map_congr_left fun t _ => ?_
      exact S_of t
    · obtain ⟨t, ht, rfl⟩ := List.mem_map.mp hl
      obtain ⟨l, e, ok⟩ := h2 t ht
      rw [e, S_list]; exact ok
  rw [e3] at e hvl
  rw [List.length_map] at hvl
  exact ⟨ns, e, hvl, h3⟩
theorem piece_fd (c : Int) (h : c % 6 = 2) : ∃ d ts, Okp 1 d ts ∧ Gen.g_law_piece [.int c] = some (.fz (.tup [d, .str (S (flat ts))])) := by
  have m0 : 0 ≤ c / 6 % 4 := Int.emod_nonneg _ (by decide)
  have m1 : c / 6 % 4 < 4 := Int.emod_lt_of_pos _ (by decide)
  obtain ⟨n, hn⟩ : ∃ n : Nat, (n : Int) = 1 + c / 6 % 4 := ⟨(1 + c / 6 % 4).toNat, by omega⟩
  obtain ⟨ns, e, hl, hN⟩ := names_comp (c / 6) n (by omega)
  have h0 : ns ≠ [] := fun z => by rw [z] at hl; simp at hl; omega
  have js := join_jl [124] ns
  have jo := nam_join (by omega) hN
  have tj := tjoin (S [124]) (ns.map S)
  rw [js] at tj
  have sm := strs_map (ns.map S)
  have zl := fd_len (by omega) hN
  obtain ⟨z1, z3⟩ := brk_z (a := 123) (b := 125) (jl [124] ns) (by omega)
  have g1 : rngP (n : Int) := rngP_nat (by omega)
  have et : ((n : Int)).toNat = n := by omega
  have zn : (ns.map S).length ≤ PySem.sizeLine := line_of (by rw [List.length_map]; omega)
  refine ⟨fdD (ns.map S), [.br (jl [124] ns)], okp_fd h0 (by omega) hN, ?_⟩
  rw [fl_br, ← brk]
  unfold fdD
  generalize S (jl [124] ns) = J at *
  generalize ns.map S = N at *
  unfold Gen.g_law_piece Gen.f_law_piece
  simp [-compD, h, ← hn, g1, et, ints_nats, e, z2, zn, e_fld, ob_S, cb_S, ba_S, sm, jo, tj, z1, z3]
theorem piece_hd (c : Int) (h : c % 6 = 3) : ∃ d ts, Okp 1 d ts ∧ Gen.g_law_piece [.int c] = some (.fz (.tup [d, .str (S (flat ts))])) := by
  have m0 : 0 ≤ c / 6 % 9 := Int.emod_nonneg _ (by decide)
  have m1 : c / 6 % 9 < 9 := Int.emod_lt_of_pos _ (by decide)
  have m2 : 0 ≤ c / 6 / 9 % 3 := Int.emod_nonneg _ (by decide)
  have m3 : c / 6 / 9 % 3 < 3 := Int.emod_lt_of_pos _ (by decide)
  obtain ⟨a, ha⟩ : ∃ n : Nat, (n : Int) = 1 + c / 6 % 9 := ⟨(1 + c / 6 % 9).toNat, by omega⟩
  obtain ⟨b, hb⟩ : ∃ n : Nat, (n : Int) = c / 6 / 9 % 3 := ⟨(c / 6 / 9 % 3).toNat, by omega⟩
  obtain ⟨l, e, ok⟩ := nameOk (c / 6)
  refine ⟨hdD l a b, [.br (hdL l a b)], okp_hd ok (by omega) (by omega) (by omega), ?_⟩
  have s1 := digStr a (by omega)
  have s2 := digStr b (by omega)
  have ln := ok.2.1
  have l2 : (S [32]).length = 1 := S_len _
  have l3 : (S [48 + a]).length = 1 := S_len _
  have l4 : (S [48 + b]).length = 1 := S_len _
  have l6 : (S l).length ≤ 8 := by rw [S_len]; exact ln
  have he : S l ++ S [32] ++ S [48 + a] ++ S [32] ++ S [48 + b] = S (hdL l a b) := by
    rw [S_app, S_app, S_app, S_app]
    show _ = S (l ++ [32] ++ ([48 + a] ++ [32] ++ [48 + b]))
    congr 1
    simp
  have zl := hd_len (a := a) (b := b) ok
  obtain ⟨z1, z3⟩ := brk_z (a := 123) (b := 125) (hdL l a b) (by omega)
  rw [fl_br, ← brk, ← he]
  rw [← he] at z1 z3
  unfold hdD
  have oB := bl_S
  generalize S l = N at *
  generalize S [48 + a] = SA at *
  generalize S [48 + b] = SB at *
  have y1 : N.length + (S [32]).length ≤ PySem.sizeLine := line_of (by omega)
  have y2 : (N ++ S [32]).length + SA.length ≤ PySem.sizeLine := line_of (by rw [app_len]; omega)
  have y3 : (N ++ S [32] ++ SA).length + (S [32]).length ≤ PySem.sizeLine := line_of (by rw [app_len, app_len]; omega)
  have y4 : (N ++ S [32] ++ SA ++ S [32]).length + SB.length ≤ PySem.sizeLine := line_of (by rw [app_len, app_len, app_len]; omega)
  generalize S [32] = BL at *
  unfold Gen.g_law_piece Gen.f_law_piece
  simp [-strD, h, e, ← ha, ← hb, s1, s2, z2, z4, e_hds, ob_S, cb_S, oB, y1, y2, y3, y4, z1, z3]
theorem grp_loop (a0 a1 a2 a3 a4 : Option SV) : ∀ (n s j : Nat) (d : D) (ts : List Tk) (x : Option SV), Okp j d ts → j + n ≤ 4 → ∃ d' ts' x', Okp (j + n) d' ts' ∧ forD (gNameF 7) Gen.b_law_piece_2 (nats s n) [a0, a1, a2, a3, a4, some (.fz d), some (.fz (.str (S (flat ts)))), x] = some (.nx [a0, a1, a2, a3, a4, some (.fz d'), some (.fz (.str (S (flat ts')))), x'])
  | 0, s, j, d, ts, x, h, _ => ⟨d, ts, x, h, rfl⟩
  | n + 1, s, j, d, ts, x, h, hj => by
    have hl := h.len
    obtain ⟨d', ts', x', h', e⟩ := grp_loop a0 a1 a2 a3 a4 n (s + 1) (j + 1) (grD [d]) (.op :: (ts ++ [.cl])) (some (.fz (.int (s : Int)))) h.grp (by omega)
    have hb : Gen.b_law_piece_2 [a0, a1, a2, a3, a4, some (.fz d), some (.fz (.str (S (flat ts)))), some (.fz (.int (s : Int)))] = some (.nx [a0, a1, a2, a3, a4, some (.fz (grD [d])), some (.fz (.str (S (flat (.op :: (ts ++ [.cl])))))), some (.fz (.int (s : Int)))]) := by
      have ef : flat (.op :: (ts ++ [.cl])) = 91 :: (flat ts ++ [93]) := by rw [flat_cons, flat_app]; rfl
      obtain ⟨z1, z3⟩ := brk_z (a := 91) (b := 93) (flat ts) (by omega)
      have y1 : 1 ≤ PySem.sizeLine := line_of (by decide)
      rw [ef, ← brk]
      unfold grD
      generalize S (flat ts) = T at *
      unfold Gen.b_law_piece_2
      simp [z2, y1, e_grp, op_S, cl_S, z1, z3]
    refine ⟨d', ts', x', by rw [show j + (n + 1) = j + 1 + n by omega]; exact h', (forD_nx (ds := nats (s + 1) n) (by simp) hb).trans e⟩
theorem piece_gr (c : Int) (h4 : ¬ c % 6 < 2) (h5 : ¬ c % 6 = 2) (h6 : ¬ c % 6 = 3) : ∃ d ts, Okp 4 d ts ∧ Gen.g_law_piece [.int c] = some (.fz (.tup [d, .str (S (flat ts))])) := by
  have m0 : 0 ≤ c / 6 / 2 % 3 := Int.emod_nonneg _ (by decide)
  have m1 : c / 6 / 2 % 3 < 3 := Int.emod_lt_of_pos _ (by decide)
  obtain ⟨n, hn⟩ : ∃ n : Nat, (n : Int) = 1 + c / 6 / 2 % 3 := ⟨(1 + c / 6 / 2 % 3).toNat, by omega⟩
  obtain ⟨l, e, ok⟩ := nameOk (c / 6)
  obtain ⟨sl, es, oks⟩ := signsOk (c / 6)
  have g1 : rngP (n : Int) := rngP_nat (by omega)
  have et : ((n : Int)).toNat = n := by omega
  have y1 : 1 ≤ PySem.sizeLine := line_of (by decide)
  have ln := ok.2.1
  obtain ⟨z1, z3⟩ := brk_z (a := 123) (b := 125) l (by omega)
  have wk : ∀ {d ts}, Okp (1 + n) d ts → Okp 4 d ts := fun h => ⟨h.pie.le (by omega), h.gd, by have := h.len; omega, by have := h.tl; omega⟩
  by_cases ho : c / 6 % 2 = 1
  · obtain ⟨d, ts, x', hk, lp⟩ := grp_loop (some (.fz (.int c))) (some (.fz (.int (c / 6)))) none none none n 0 1 (sgD sl) [.sg sl] none (okp_sg oks) (by omega)
    refine ⟨d, ts, wk hk, ?_⟩
    rw [fl_sg] at lp
    generalize S (flat ts) = T at *
    unfold sgD at lp
    unfold Gen.g_law_piece Gen.f_law_piece
    simp [-forD, h4, h5, h6, e, es, ho, z2, y1, e_fld, e_sgs, ob_S, cb_S, z1, z3, ← hn, g1, et, ints_nats, lp]
  · obtain ⟨d, ts, x', hk, lp⟩ := grp_loop (some (.fz (.int c))) (some (.fz (.int (c / 6)))) none none none n 0 1 (fdD ([l].map S)) [.br (jl [124] [l])] none (okp_fd (by simp) (by simp) (fun m hm => by rw [List.mem_singleton.mp hm]; exact ok)) (by omega)
    refine ⟨d, ts, wk hk, ?_⟩
    have ej : jl [124] [l] = l := rfl
    rw [ej, fl_br, ← brk] at lp
    generalize S (flat ts) = T at *
    have ef : fdD ([l].map S) = .tup [.str FLD, .tup [.str (S l)]] := rfl
    rw [ef] at lp
    unfold Gen.g_law_piece Gen.f_law_piece
    simp [-forD, h4, h5, h6, e, ho, z2, y1, e_fld, ob_S, cb_S, z1, z3, ← hn, g1, et, ints_nats, lp]
theorem pieceOk (c : Int) : ∃ d ts, Okp 4 d ts ∧ Gen.g_law_piece [.int c] = some (.fz (.tup [d, .str (S (flat ts))])) := by
  have wk : ∀ {d ts}, Okp 1 d ts → Okp 4 d ts := fun h => ⟨h.pie.le (by omega), h.gd, by have := h.len; omega, by have := h.tl; omega⟩
  by_cases h1 : c % 6 < 2
  · obtain ⟨d, ts, h, e⟩ := piece_sg c h1; exact ⟨d, ts, wk h, e⟩
  by_cases h2 : c % 6 = 2
  · obtain ⟨d, ts, h, e⟩ := piece_fd c h2; exact ⟨d, ts, wk h, e⟩
  by_cases h3 : c % 6 = 3
  · obtain ⟨d, ts, h, e⟩ := piece_hd c h3; exact ⟨d, ts, wk h, e⟩
  exact piece_gr c h1 h2 h3
theorem Okp.read {d : D} {ts : List Tk} (h : Okp 4 d ts) : Gen.g_read_template [.str (S (flat ts))] = some (.fz (.tup [d])) := by
  have hl := h.len
  have ht := h.tl
  have e : [(d, ts)].flatMap (·.2) = ts := by simp
  have := readT (qs := [(d, ts)]) (fun q hq => by rw [List.mem_singleton.mp hq]; exact h.pie) (by rw [e]; exact h.gd) (by rw [e]; omega) (by simp) (by rw [e]; omega) (by rw [e]; omega)
  rwa [e] at this
theorem Okp.shown {d : D} {ts : List Tk} (h : Okp 4 d ts) : Gen.g_show_template [.tup [d]] = some (.fz (.str (S (flat ts)))) := by
  have hl := h.len
  have e : [(d, ts)].flatMap (·.2) = ts := by simp
  have := showT [(d, ts)] (fun q hq => by rw [List.mem_singleton.mp hq]; exact h.pie) (by simp) (by rw [e]; omega)
  rwa [e] at this
theorem Okp.like {d : D} {ts : List Tk} (h : Okp 4 d ts) : Gen.g_law_alike [.tup [d], .tup [d]] = some (.fz (.bl true)) :=
  alike 10 _ (Dp.tup (by simp) fun x hx => by rw [List.mem_singleton.mp hx]; exact pie_dp 4 d ts h.pie) 12 (by decide)
theorem turn (a0 x2 x3 : Option SV) (c : Int) : ∃ y2 y3, Gen.b_law_1 [a0, some (.fz (.int c)), x2, x3] = some (.nx [a0, some (.fz (.int c)), y2, y3]) := by
  obtain ⟨d, ts, h, e⟩ := pieceOk c
  have r := h.read
  have s := h.shown
  have k := h.like
  refine ⟨some (.fz d), some (.fz (.str (S (flat ts)))), ?_⟩
  generalize S (flat ts) = T at *
  have y1 : 1 ≤ PySem.sizeLine := line_of (by decide)
  unfold Gen.b_law_1
  simp [e, r, s, k, y1]
theorem law_loop (a0 : Option SV) : ∀ (ms : List Int) (x1 x2 x3 : Option SV), ∃ y1 y2 y3, forD (gNameF 1) Gen.b_law_1 (ms.map D.int) [a0, x1, x2, x3] = some (.nx [a0, y1, y2, y3])
  | [], x1, x2, x3 => ⟨x1, x2, x3, rfl⟩
  | m :: ms, x1, x2, x3 => by
    obtain ⟨y2, y3, e⟩ := turn a0 x2 x3 m
    obtain ⟨z1, z2, z3, e2⟩ := law_loop a0 ms (some (.fz (.int m))) y2 y3
    exact ⟨z1, z2, z3, (forD_nx (by simp) e).trans e2⟩
theorem law_true (ns : List Int) (h : ns.length ≤ 63) : Gen.g_law [.lst (ns.map D.int)] = some (.fz (.bl true)) := by
  have r0 : Gen.g_read_template [.str (S [])] = some (.fz (.tup [])) := readT (qs := []) (fun _ h => nomatch h) trivial (by decide) (by decide) (by decide) (by decide)
  have s0 : Gen.g_show_template [.tup []] = some (.fz (.str (S []))) := showT [] (fun _ h => nomatch h) (by decide) (by decide)
  obtain ⟨ms, em, _⟩ := cut_map ns none (some 40)
  obtain ⟨y1, y2, y3, lp⟩ := law_loop (some (.fz (.lst (ns.map D.int)))) ms none none none
  have e0 : Str.ofString "" = S [] := by decide +kernel
  have z0 : 0 ≤ PySem.sizeLine := Nat.zero_le _
  generalize ns.map D.int = NS at *
  unfold Gen.g_law Gen.f_law
  simp [-forD, e0, r0, s0, em, lp]
end My

open PySem PySem.W PyProof.Rows
set_option maxRecDepth 100000 in
set_option maxHeartbeats 0 in
theorem PySem.Challenge.cw_citeward_k13_one_piece_holds : PySem.Challenge.rw_citeward_k13_one_piece.Holds := by
  w_on; o_law; k_head; (case hw => w_witness2)
  k_fill
  refine Gen.walk (l := PySem.Challenge.rw_citeward_k13_one_piece) rfl rfl (fun w h Y => PySem.W.kIn_of Y) ?F My.law_true
  case F =>
    intro w mg fa h KX G hmg
    refine' Gen.all_mk KX G hmg ?alaw_numbers ?llaw_numbers ?claw_numbers ?klaw_numbers ?alaw_name ?llaw_name ?claw_name ?klaw_name ?alaw_signs ?llaw_signs ?claw_signs ?klaw_signs ?alaw_piece ?llaw_piece ?claw_piece ?klaw_piece ?asigns_end ?lsigns_end ?csigns_end ?ksigns_end ?acut_end ?lcut_end ?ccut_end ?kcut_end ?acuts_of ?lcuts_of ?ccuts_of ?kcuts_of ?abegin_group ?lbegin_group ?cbegin_group ?kbegin_group ?aend_group ?lend_group ?cend_group ?kend_group ?ais_all_of ?lis_all_of ?cis_all_of ?kis_all_of ?ais_text_of ?lis_text_of ?cis_text_of ?kis_text_of ?ais_name ?lis_name ?cis_name ?kis_name ?acheck_name ?lcheck_name ?ccheck_name ?kcheck_name ?aread_hands_piece ?lread_hands_piece ?cread_hands_piece ?kread_hands_piece ?aread_piece ?lread_piece ?cread_piece ?kread_piece ?aread_template ?lread_template ?cread_template ?kread_template ?ashow_piece ?lshow_piece ?cshow_piece ?kshow_piece ?ashow_template ?lshow_template ?cshow_template ?kshow_template ?alaw_alike ?llaw_alike ?claw_alike ?klaw_alike ?alaw ?llaw ?claw ?klaw ?zall ?zbool ?zint ?zisinstance ?zlen ?zrange ?zstr ?ztuple ?zMANY_FIGURES ?zMOST_DEEP ?zMOST_NAMES ?zMOST_PIECES ?zNAME_LENGTH ?zSMALL_LETTERS ?zSTYLE_SIGNS ?zWAY_FIGURES
    (case alaw_numbers => k_is)
    (case llaw_numbers => k_is)
    (case claw_numbers => k_is)
    (case klaw_numbers => k_is)
    (case alaw_name => k_is)
    (case llaw_name => k_is)
    (case claw_name => k_is)
    (case klaw_name => k_is)
    (case alaw_signs => k_is)
    (case llaw_signs => k_is)
    (case claw_signs => k_is)
    (case klaw_signs => k_is)
    (case alaw_piece => k_is)
    (case llaw_piece => k_is)
    (case claw_piece => k_is)
    (case klaw_piece => k_is)
    (case asigns_end => k_is)
    (case lsigns_end => k_is)
    (case csigns_end => k_is)
    (case ksigns_end => k_is)
    (case acut_end => k_is)
    (case lcut_end => k_is)
    (case ccut_end => k_is)
    (case kcut_end => k_is)
    (case acuts_of => k_is)
    (case lcuts_of => k_is)
    (case ccuts_of => k_is)
    (case kcuts_of => k_is)
    (case abegin_group => k_is)
    (case lbegin_group => k_is)
    (case cbegin_group => k_is)
    (case kbegin_group => k_is)
    (case aend_group => k_is)
    (case lend_group => k_is)
    (case cend_group => k_is)
    (case kend_group => k_is)
    (case ais_all_of => k_is)
    (case lis_all_of => k_is)
    (case cis_all_of => k_is)
    (case kis_all_of => k_is)
    (case ais_text_of => k_is)
    (case lis_text_of => k_is)
    (case cis_text_of => k_is)
    (case kis_text_of => k_is)
    (case ais_name => k_is)
    (case lis_name => k_is)
    (case cis_name => k_is)
    (case kis_name => k_is)
    (case acheck_name => k_is)
    (case lcheck_name => k_is)
    (case ccheck_name => k_is)
    (case kcheck_name => k_is)
    (case aread_hands_piece => k_is)
    (case lread_hands_piece => k_is)
    (case cread_hands_piece => k_is)
    (case kread_hands_piece => k_is)
    (case aread_piece => k_is)
    (case lread_piece => k_is)
    (case cread_piece => k_is)
    (case kread_piece => k_is)
    (case aread_template => k_is)
    (case lread_template => k_is)
    (case cread_template => k_is)
    (case kread_template => k_is)
    (case ashow_piece => k_is)
    (case lshow_piece => k_is)
    (case cshow_piece => k_is)
    (case kshow_piece => k_is)
    (case ashow_template => k_is)
    (case lshow_template => k_is)
    (case cshow_template => k_is)
    (case kshow_template => k_is)
    (case alaw_alike => k_is)
    (case llaw_alike => k_is)
    (case claw_alike => k_is)
    (case klaw_alike => k_is)
    (case alaw => k_is)
    (case llaw => k_is)
    (case claw => k_is)
    (case klaw => k_is)
    (case zall => k_is)
    (case zbool => k_is)
    (case zint => k_is)
    (case zisinstance => k_is)
    (case zlen => k_is)
    (case zrange => k_is)
    (case zstr => k_is)
    (case ztuple => k_is)
    (case zMANY_FIGURES => k_is)
    (case zMOST_DEEP => k_is)
    (case zMOST_NAMES => k_is)
    (case zMOST_PIECES => k_is)
    (case zNAME_LENGTH => k_is)
    (case zSMALL_LETTERS => k_is)
    (case zSTYLE_SIGNS => k_is)
    (case zWAY_FIGURES => k_is)

