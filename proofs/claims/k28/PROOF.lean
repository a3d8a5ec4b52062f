import PyProof.Rows.All
import Wide.All
import OpenK.AllK
import Wide.FinOn
import Lean
import PyProof.EqAt
import PyProof.EqKinds
import PyProof.TupleCall
import PyProof.NeKinds
import PyProof.EnumMake
import PyProof.ConsumeWalk
import PyProof.StrWalks
import PyProof.WalksMore
import PyProof.StrLawsNeg
import PySem.Challenge.RW_citeward_k28_what_is_no_text
set_option Elab.async false
set_option linter.all false
set_option maxRecDepth 100000
set_option maxHeartbeats 4000000
/-! THE HAND LAYER, for ints, bools, texts, own classes, LISTS and tuples (index, slices, in, append, pop ..), calls, loops. Paste it whole ahead of your own text; what your proof does not reach may be deleted. -/
namespace L2
open PySem PySem.Spec PyProof.Rows

noncomputable abbrev Key := Sum Int Str
noncomputable def keyIs : Key → Value → Bool
  | .inl k, v => Value.isInt k v
  | .inr x, v => Value.isStrOf x v
noncomputable def keyH (w : World) : Key → Int
  | .inl k => hashInt k
  | .inr x => hashStr w x
theorem keyIs_shape : ∀ {k : Key} {v : Value}, keyIs k v = true → (∃ i t, k = Sum.inl i ∧ v = Value.int i t) ∨ (∃ x t, k = Sum.inr x ∧ v = Value.str x t)
  | .inl i, v, h => by
    obtain ⟨t, e⟩ := Value.isInt_shape (k := i) (v := v) h
    exact .inl ⟨i, t, rfl, e⟩
  | .inr x, v, h => by
    obtain ⟨t, e⟩ := Value.isStrOf_shape (x := x) (v := v) h
    exact .inr ⟨x, t, rfl, e⟩
theorem keyIs_int (i : Int) (t : Tok) : keyIs (.inl i) (.int i t) = true := by simp [keyIs, Value.isInt]
theorem keyIs_str (x : Str) (t : Tok) : keyIs (.inr x) (.str x t) = true := by simp [keyIs, Value.isStrOf]
theorem key_ll (a b : Int) : decide ((Sum.inl a : Key) = Sum.inl b) = (a == b) := by
  by_cases e : a = b
  · subst e; simp
  · have h : ¬ (Sum.inl a : Key) = Sum.inl b := fun q => e (Sum.inl.inj q)
    rw [decide_eq_false h]
    exact (beq_eq_false_iff_ne.mpr e).symm
theorem key_rr (a b : Str) : decide ((Sum.inr a : Key) = Sum.inr b) = decide (a = b) := by
  by_cases e : a = b
  · subst e; simp
  · have h : ¬ (Sum.inr a : Key) = Sum.inr b := fun q => e (Sum.inr.inj q)
    rw [decide_eq_false h, decide_eq_false e]
theorem key_lr (a : Int) (b : Str) : decide ((Sum.inl a : Key) = Sum.inr b) = false := decide_eq_false (fun q => nomatch q)
theorem key_rl (a : Str) (b : Int) : decide ((Sum.inr a : Key) = Sum.inl b) = false := decide_eq_false (fun q => nomatch q)

noncomputable def mixKind (prog : Program) (w : World) : PySem.KeyKind prog w Key where
  is := keyIs
  hash := keyH w
  inj := fun v a b ha hb => by
    rcases keyIs_shape ha with ⟨i, t, rfl, rfl⟩ | ⟨x, t, rfl, rfl⟩
    · rcases keyIs_shape hb with ⟨j, u, rfl, e⟩ | ⟨y, u, rfl, e⟩
      · injection e with e1 _; rw [e1]
      · exact nomatch e
    · rcases keyIs_shape hb with ⟨j, u, rfl, e⟩ | ⟨y, u, rfl, e⟩
      · exact nomatch e
      · injection e with e1 _; rw [e1]
  byValue := fun k v h => by
    rcases keyIs_shape h with ⟨i, t, rfl, rfl⟩ | ⟨x, t, rfl, rfl⟩ <;> rfl
  pyHash := fun hv h => by
    rcases keyIs_shape hv with ⟨i, t, rfl, rfl⟩ | ⟨x, t, rfl, rfl⟩
    · exact wpAny_pyHash_int h
    · exact wpAny_pyHash_str h
  eqBool := fun hu hv h => by
    rcases keyIs_shape hu with ⟨i, t, rfl, rfl⟩ | ⟨x, t, rfl, rfl⟩
    · rcases keyIs_shape hv with ⟨j, u, rfl, rfl⟩ | ⟨y, u, rfl, rfl⟩
      · rw [key_ll] at h; exact wpAny_eqBool_int h
      · rw [key_lr] at h; exact SeqAt.EqAt.int_str i t y u _ _ _ _ h
    · rcases keyIs_shape hv with ⟨j, u, rfl, rfl⟩ | ⟨y, u, rfl, rfl⟩
      · rw [key_rl] at h; exact SeqAt.EqAt.str_int x t j u _ _ _ _ h
      · rw [key_rr] at h; exact wpAny_eqBool_str h
  «strs» := fun k x t v h => by
    rcases keyIs_shape h with ⟨i, u, rfl, e⟩ | ⟨y, u, rfl, e⟩
    · exact nomatch e
    · injection e with e1 _
      subst e1
      cases v <;> rfl

theorem mixKind_is (prog : Program) (w : World) (k : Key) (v : Value) : (mixKind prog w).is k v = keyIs k v := rfl
theorem mixKind_int (prog : Program) (w : World) (i : Int) (t : Tok) : (mixKind prog w).is (.inl i) (.int i t) = true := keyIs_int i t
theorem mixKind_str (prog : Program) (w : World) (x : Str) (t : Tok) : (mixKind prog w).is (.inr x) (.str x t) = true := keyIs_str x t
end L2

namespace L2
open PySem PySem.Spec PyProof.Rows

inductive V where
  | non | bl (b : Bool) | int (i : Int) | str (x : Str) | byt (b : Array UInt8) | flt (b : UInt64) | ref (a : Addr) | ty (n : String)
  deriving DecidableEq

noncomputable def RelV : V → Value → Prop
  | .non, u => u = Value.none
  | .bl b, u => u = Value.bool b
  | .int i, u => ∃ t, u = Value.int i t
  | .str x, u => ∃ t, u = Value.str x t
  | .byt b, u => ∃ t, u = Value.bytes b t
  | .flt b, u => ∃ t, u = Value.float b t
  | .ref a, u => u = Value.ref a
  | .ty n, u => u = Value.type n

noncomputable abbrev Vals : List V → List Value → Prop := Paired RelV
theorem Vals.length {xs : List V} {us : List Value} (r : Vals xs us) : xs.length = us.length := Paired.length r
theorem Vals.get : ∀ {xs : List V} {us : List Value} {i : Nat} {x : V}, Vals xs us → xs[i]? = some x → ∃ u, us[i]? = some u ∧ RelV x u
  | _, _, _, _, .nil, e => by simp at e
  | _, _, 0, _, .cons r _, e => by simp at e; subst e; exact ⟨_, rfl, r⟩
  | _, _, i + 1, x, .cons _ t, e => by
    obtain ⟨u, h1, h2⟩ := Vals.get (i := i) (x := x) t (by simpa using e)
    exact ⟨u, by simpa using h1, h2⟩
theorem Vals.append : ∀ {xs ys : List V} {us ws : List Value}, Vals xs us → Vals ys ws → Vals (xs ++ ys) (us ++ ws)
  | _, _, _, _, .nil, s => s
  | _, _, _, _, .cons r t, s => .cons r (Vals.append t s)
theorem Vals.take : ∀ {xs : List V} {us : List Value} (n : Nat), Vals xs us → Vals (xs.take n) (us.take n)
  | _, _, 0, _ => .nil
  | _, _, _ + 1, .nil => .nil
  | _, _, n + 1, .cons r t => .cons r (Vals.take n t)
theorem Vals.drop : ∀ {xs : List V} {us : List Value} (n : Nat), Vals xs us → Vals (xs.drop n) (us.drop n)
  | _, _, 0, r => r
  | _, _, _ + 1, .nil => .nil
  | _, _, n + 1, .cons _ t => Vals.drop n t
theorem Vals.none_of : ∀ {xs : List V} {us : List Value} {i : Nat}, Vals xs us → xs[i]? = none → us[i]? = none := fun {xs us i} r e => by
  have h1 := r.length
  have h2 : xs.length ≤ i := List.getElem?_eq_none_iff.mp e
  exact List.getElem?_eq_none_iff.mpr (by omega)

noncomputable def RelO : Option V → Option Value → Prop
  | some v, some u => RelV v u
  | none, none => True
  | _, _ => False
noncomputable def KV {κ : Type} : List (κ × V) → List (κ × Value) → Prop := Paired fun (p : κ × V) (q : κ × Value) => p.1 = q.1 ∧ RelV p.2 q.2

noncomputable def kV : Key → V
  | .inl i => .int i
  | .inr x => .str x

inductive HO where
  | lst (xs : List V)
  | tup (xs : List V)
  | dK (kvs : List (Key × V)) | dT (kvs : List (List Key × V))
  | set (S : Int → Bool) (n : Nat)
  | ins (C dx : Addr) (fs : List (Str × V))
  | own (x : Addr)
  | xd (fs : List (Str × V))
  | met (f x : Addr)
  | rng (lo hi : Int)
  | frz (o : Obj) (u : HO)
  | tbl (ps : Array Value)
  | ext (φ : Heap → Prop)

noncomputable abbrev Hp := Addr → Option HO
noncomputable def upd (H : Hp) (a : Addr) (o : HO) : Hp := fun b => if b = a then some o else H b
theorem upd_same {H : Hp} {a : Addr} {o : HO} : upd H a o a = some o := by unfold upd; rw [if_pos rfl]
theorem upd_ne {H : Hp} {a b : Addr} {o : HO} (h : b ≠ a) : upd H a o b = H b := by unfold upd; rw [if_neg h]
theorem upd_upd {H : Hp} {a : Addr} {o u : HO} : upd (upd H a o) a u = upd H a u := by
  funext b; unfold upd; split <;> rfl
theorem ne_of_none {H : Hp} {a b : Addr} {o : HO} (h : H a = some o) (h' : H b = none) : a ≠ b := by
  intro e; subst e; rw [h] at h'; cases h'

section
variable (P : Program) (w : World)
noncomputable def ObjOk (H : Hp) (h : Heap) (a : Addr) : HO → Prop
  | .lst xs => xs.length ≤ sizeLine ∧ ∃ (its : List Value) (n : Nat), Vals xs its ∧ h.get? a = some { cls := .type "list", data := .seq its.toArray n }
  | .tup xs => xs.length ≤ sizeLine ∧ ∃ its : List Value, Vals xs its ∧ IsTup h a its.toArray
  | .dK kvs => kvs.length ≤ sizeLine ∧ (a == sysModules) = false ∧ ∃ vs, KV kvs vs ∧ h.DictOf (mixKind P w) a vs
  | .dT kvs => kvs.length ≤ sizeLine ∧ (a == sysModules) = false ∧ ∃ xs : List (List Key × Addr × Value),
      Paired (fun (p : List Key × V) (q : List Key × Addr × Value) => p.1 = q.1 ∧ H q.2.1 = some (.tup (p.1.map kV)) ∧ RelV p.2 q.2.2) kvs xs ∧
      ∃ o es ep, h.get? a = some o ∧ o.ExactDict ∧ o.data = .dict es ep ∧ es.toList = xs.map (entryOfKey (tupleKind (mixKind P w))) ∧ (xs.map (·.1)).Nodup
  | .set S n => h.SetOf (intKind P w) a S n
  | .ins C dx fs => H dx = some (.own a) ∧ fs.length ≤ 1000 ∧ dx ≠ a ∧ h.get? a = some (PySem.W.instObj C dx) ∧
      ∃ mA, h.Ns1 dx mA ∧ (∀ f, RelO (fs.lookup f) (mA f)) ∧ PySem.Within mA (fs.map (·.1))
  | .own _ => ∃ o, h.get? a = some o
  | .xd fs => ∃ mA, h.Ns1 a mA ∧ ∀ f, RelO (fs.lookup f) (mA f)
  | .rng lo hi => ∃ t u v, h.get? a = some { cls := .type "range", data := .fields #[.int lo t, .int hi u, .int 1 v] }
  | .frz o u => h.get? a = some o ∧ ObjOk H h a u
  | .tbl ps => h.get? a = some { cls := .none, data := .fields ps }
  | .met f x => h.get? a = some (PySem.W.methodObj (.ref f) (.ref x))
  | .ext φ => φ h ∧ (∃ o, h.get? a = some o) ∧ ∀ h1 h2 : Heap, φ h1 → (∀ o, h1.get? a = some o → h2.get? a = some o) → φ h2
noncomputable def HOk (H : Hp) (h : Heap) : Prop := ∀ a o, H a = some o → ObjOk P w H h a o
end

section
variable {P : Program} {w : World} {H H' : Hp} {h h' : Heap} {a : Addr} {o : HO}
theorem ObjOk.lt (x : ObjOk P w H h a o) : a < h.objs.size := by
  cases o with
  | lst xs => obtain ⟨_, _, _, _, e⟩ := x; exact Heap.lt_size e
  | tup xs => obtain ⟨_, _, _, p⟩ := x; exact p.lt
  | dK kvs => obtain ⟨_, _, _, _, o, _, _, e, _⟩ := x; exact Heap.lt_size e
  | dT kvs => obtain ⟨_, _, _, _, o, _, _, e, _⟩ := x; exact Heap.lt_size e
  | set S n => obtain ⟨o, _, _, _, e, _⟩ := x; exact Heap.lt_size e
  | ins C dx fs => obtain ⟨_, _, _, e, _⟩ := x; exact Heap.lt_size e
  | own y => obtain ⟨_, e⟩ := x; exact Heap.lt_size e
  | xd fs => obtain ⟨_, ⟨_, _, _, e, _⟩, _⟩ := x; exact Heap.lt_size e
  | rng lo hi => obtain ⟨_, _, _, e⟩ := x; exact Heap.lt_size e
  | frz ob u => obtain ⟨e, _⟩ := x; exact Heap.lt_size e
  | tbl ps => exact Heap.lt_size (show h.get? a = some _ from x)
  | met f y => exact Heap.lt_size (show h.get? a = some _ from x)
  | ext φ => obtain ⟨_, ⟨_, e⟩, _⟩ := x; exact Heap.lt_size e
theorem Paired.mapP {α β : Type} {F G : α → β → Prop} : ∀ {l₁ : List α} {l₂ : List β}, Paired F l₁ l₂ → (∀ a b, F a b → G a b) → Paired G l₁ l₂
  | _, _, .nil, _ => .nil
  | _, _, .cons r t, f => .cons (f _ _ r) (Paired.mapP t f)
theorem ObjOk.stay (x : ObjOk P w H h a o) (k : ∀ b u, (b = a ∨ H b = some (.own a)) → h.get? b = some u → h'.get? b = some u)
    (ho : ∀ b, H b = some (.own a) → H' b = some (.own a)) (ht : ∀ b xs, H b = some (.tup xs) → H' b = some (.tup xs)) : ObjOk P w H' h' a o := by
  induction o with
  | lst xs => obtain ⟨z, its, n, r, e⟩ := x; exact ⟨z, its, n, r, k _ _ (.inl rfl) e⟩
  | tup xs => obtain ⟨z, its, r, ob, e, c⟩ := x; exact ⟨z, its, r, ob, k _ _ (.inl rfl) e, c⟩
  | dK kvs => obtain ⟨z, y, vs, r, ob, es, ep, e, c⟩ := x; exact ⟨z, y, vs, r, ob, es, ep, k _ _ (.inl rfl) e, c⟩
  | dT kvs =>
    obtain ⟨z, y, xs, r, ob, es, ep, e, c⟩ := x
    exact ⟨z, y, xs, Paired.mapP r fun p q z => ⟨z.1, ht _ _ z.2.1, z.2.2⟩, ob, es, ep, k _ _ (.inl rfl) e, c⟩
  | set S n => obtain ⟨ob, es, ep, t, e, c⟩ := x; exact ⟨ob, es, ep, t, k _ _ (.inl rfl) e, c⟩
  | ins C dx fs =>
    obtain ⟨d, z, ne, e, mA, ⟨od, es, ep, e2, c⟩, r⟩ := x
    exact ⟨ho _ d, z, ne, k _ _ (.inl rfl) e, mA, ⟨od, es, ep, k _ _ (.inr d) e2, c⟩, r⟩
  | own y => obtain ⟨ob, e⟩ := x; exact ⟨ob, k _ _ (.inl rfl) e⟩
  | xd fs => obtain ⟨mA, ⟨od, es, ep, e, c⟩, r⟩ := x; exact ⟨mA, ⟨od, es, ep, k _ _ (.inl rfl) e, c⟩, r⟩
  | rng lo hi => obtain ⟨t, u, v, e⟩ := x; exact ⟨t, u, v, k _ _ (.inl rfl) e⟩
  | frz ob u ih => obtain ⟨e, q⟩ := x; exact ⟨k _ _ (.inl rfl) e, ih q⟩
  | tbl ps =>
    have e : h.get? a = some { cls := .none, data := .fields ps } := x
    show h'.get? a = some { cls := .none, data := .fields ps }
    exact k a _ (.inl rfl) e
  | met f y =>
    have e : h.get? a = some (PySem.W.methodObj (.ref f) (.ref y)) := x
    show h'.get? a = some (PySem.W.methodObj (.ref f) (.ref y))
    exact k a _ (.inl rfl) e
  | ext φ => obtain ⟨p, ⟨o, e⟩, st⟩ := x; exact ⟨st _ _ p fun o q => k _ _ (.inl rfl) q, ⟨o, k _ _ (.inl rfl) e⟩, st⟩
theorem HOk.lt (x : HOk P w H h) (e : H a = some o) : a < h.objs.size := (x a o e).lt
theorem HOk.fresh (x : HOk P w H h) (e : h.objs.size ≤ a) : H a = none := by
  cases q : H a with
  | none => rfl
  | some u => exact absurd (Nat.lt_of_lt_of_le (x.lt q) e) (Nat.lt_irrefl _)
theorem HOk.kept (x : HOk P w H h) (k : ∀ b u, h.get? b = some u → h'.get? b = some u) : HOk P w H h' := fun a o e =>
  (x a o e).stay (fun b u _ q => k b u q) (fun _ q => q) fun _ _ q => q
theorem HOk.laid (x : HOk P w H h) (k : ∀ b u, h.get? b = some u → h'.get? b = some u) (hp : h.objs.size ≤ a) (new : ObjOk P w (upd H a o) h' a o) : HOk P w (upd H a o) h' := fun b u e => by
  have hn := x.fresh hp
  by_cases hb : b = a
  · subst hb; rw [upd_same] at e; cases e; exact new
  · rw [upd_ne hb] at e
    exact (x b u e).stay (fun c v _ q => k c v q) (fun c q => by rw [upd_ne (ne_of_none q hn)]; exact q) fun c xs q => by rw [upd_ne (ne_of_none q hn)]; exact q
end

noncomputable def Rd (H : Hp) (a : Addr) (u : HO) : Prop := H a = some u ∨ ∃ o, H a = some (.frz o u)
theorem Rd.ok {P : Program} {w : World} {H : Hp} {h : Heap} {a : Addr} {u : HO} (r : Rd H a u) (x : HOk P w H h) : ObjOk P w H h a u := by
  rcases r with r | ⟨o, r⟩
  · exact x a u r
  · obtain ⟨_, q⟩ := x a _ r
    exact q
noncomputable def Mut : Option HO → Prop
  | some (.lst _) => True
  | some (.dK _) => True
  | some (.dT _) => True
  | some (.set _ _) => True
  | some (.ins _ _ _) => True
  | some (.ext _) => True
  | _ => False
section
variable {P : Program} {w : World} {H : Hp} {h h' : Heap} {x e : Addr} {o' : HO}
theorem HOk.write (ok : HOk P w H h) (mu : Mut (H x)) (he : e = x ∨ H e = some (.own x)) (k : ∀ b u, b ≠ e → h.get? b = some u → h'.get? b = some u) (heo : ∃ u, h'.get? e = some u)
    (new : ObjOk P w (upd H x o') h' x o') : HOk P w (upd H x o') h' := fun b u q => by
  have nown : ∀ c y, H c = some (.own y) → c ≠ x := fun c y r z => by subst z; rw [r] at mu; exact mu
  have ntup : ∀ c xs, H c = some (.tup xs) → c ≠ x := fun c xs r z => by subst z; rw [r] at mu; exact mu
  by_cases hb : b = x
  · subst hb; rw [upd_same] at q; cases q; exact new
  · rw [upd_ne hb] at q
    by_cases hbe : b = e
    · have q' : H b = some (.own x) := by
        rcases he with z | z
        · exact absurd (hbe.trans z) hb
        · rw [hbe]; exact z
      rw [q] at q'; cases q'
      obtain ⟨v, hv⟩ := heo
      exact ⟨v, by rw [hbe]; exact hv⟩
    · refine (ok b u q).stay (fun c v hc r => k c v ?_ r) (fun c r => by rw [upd_ne (nown c b r)]; exact r) fun c xs r => by rw [upd_ne (ntup c xs r)]; exact r
      rcases hc with rfl | hc
      · exact hbe
      · rintro rfl
        rcases he with z | z
        · exact nown c b hc z
        · rw [hc] at z; cases z; exact hb rfl
end

/-! ### kept unless tracked; of the frames at fs (the callers') the slots may change (an exception that passes writes there); of the records at ex (iterators) nothing is said -/
structure Un (fs ex : List Addr) (H H' : Hp) (h h' : Heap) : Prop where
  keep : ∀ b o, h.get? b = some o → H b = none → b ∉ fs → b ∉ ex → h'.get? b = some o
  slot : ∀ b o, h.get? b = some o → H b = none → b ∈ fs → b ∉ ex → ∃ sl, h'.get? b = some { o with slots := sl }
  free : ∀ b o, h.get? b = some o → H b = none → b ∉ ex → H' b = none
  there : ∀ b o, h.get? b = some o → b ∉ ex → ∃ o', h'.get? b = some o'
  tups : ∀ b xs, H b = some (.tup xs) → H' b = some (.tup xs)
  frzs : ∀ b o u, H b = some (.frz o u) → H' b = some (.frz o u)
  tbls : ∀ b ps, H b = some (.tbl ps) → ∃ more, H' b = some (.tbl (ps ++ more))
section
variable {fs fs' ex ex' : List Addr} {H H1 H2 : Hp} {h h1 h2 h' : Heap} {a x e : Addr} {o : HO}
theorem Un.any (u : Un fs ex H H1 h h1) {b : Addr} {ob : Obj} (q : h.get? b = some ob) (n : H b = none) (hx : b ∉ ex) : ∃ sl, h1.get? b = some { ob with slots := sl } := by
  by_cases hb : b ∈ fs
  · exact u.slot b ob q n hb hx
  · exact ⟨ob.slots, u.keep b ob q n hb hx⟩
theorem Un.kept (k : ∀ b u, h.get? b = some u → h'.get? b = some u) : Un fs ex H H h h' :=
  ⟨fun b ob q _ _ _ => k b ob q, fun b ob q _ _ _ => ⟨ob.slots, k b ob q⟩, fun _ _ _ n _ => n, fun b ob q _ => ⟨ob, k b ob q⟩, fun _ _ q => q, fun _ _ _ q => q, fun _ ps q => ⟨#[], by rw [q]; simp⟩⟩
theorem Un.refl : Un fs ex H H h h := Un.kept fun _ _ q => q
theorem Un.laid (k : ∀ b u, h.get? b = some u → h'.get? b = some u) (hp : h.objs.size ≤ a) (hn : H a = none) : Un fs ex H (upd H a o) h h' where
  keep := fun b u q _ _ _ => k b u q
  slot := fun b u q _ _ _ => ⟨u.slots, k b u q⟩
  free := fun b u q n _ => by rw [upd_ne (Nat.ne_of_lt (Nat.lt_of_lt_of_le (Heap.lt_size q) hp))]; exact n
  there := fun b u q _ => ⟨u, k b u q⟩
  tups := fun b xs q => by rw [upd_ne (ne_of_none q hn)]; exact q
  frzs := fun b u xs q => by rw [upd_ne (ne_of_none q hn)]; exact q
  tbls := fun b ps q => ⟨#[], by rw [upd_ne (ne_of_none q hn), q]; simp⟩
theorem Un.write (mu : Mut (H x)) (he : e = x ∨ H e = some (.own x)) (k : ∀ b u, b ≠ e → h.get? b = some u → h'.get? b = some u) (heo : ∃ u, h'.get? e = some u) : Un fs ex H (upd H x o) h h' := by
  have hx : ∀ b, H b = none → b ≠ x := fun b n z => by subst z; rw [n] at mu; exact mu
  have hb : ∀ b, H b = none → b ≠ e := fun b n z => by
    subst z
    rcases he with r | r
    · exact hx b n r
    · rw [n] at r; cases r
  have hm : ∀ b u, H b = some u → ¬ Mut (some u) → b ≠ x := fun b u q nm z => by subst z; rw [q] at mu; exact nm mu
  refine ⟨fun b u q n _ _ => k b u (hb b n) q, fun b u q n _ _ => ⟨u.slots, k b u (hb b n) q⟩, fun b u q n _ => by rw [upd_ne (hx b n)]; exact n, fun b u q _ => ?_,
    fun b xs q => by rw [upd_ne (hm b _ q fun z => z)]; exact q, fun b u xs q => by rw [upd_ne (hm b _ q fun z => z)]; exact q, fun b ps q => ⟨#[], by rw [upd_ne (hm b _ q fun z => z), q]; simp⟩⟩
  by_cases hbe : b = e
  · subst hbe; exact heo
  · exact ⟨u, k b u hbe q⟩
end

/-! ### the heap without what is tracked -/
noncomputable def trk (h : Heap) (H : Hp) : List Addr := (List.range h.objs.size).filter fun a => (H a).isSome
noncomputable def hidT (h : Heap) (H : Hp) : Heap := PySem.W.hideAll h (trk h H)
theorem hidT_size (h : Heap) (H : Hp) : (hidT h H).objs.size = h.objs.size := PySem.W.hideAll_size _ _
theorem hidT_get {h : Heap} {H : Hp} {b : Addr} {o : Obj} (e : h.get? b = some o) (n : H b = none) : (hidT h H).get? b = some o :=
  PySem.W.hideAll_get _ e fun hm => by
    have q : (H b).isSome = true := (List.mem_filter.mp hm).2
    rw [n] at q; simp at q
theorem of_hidT {h : Heap} {H : Hp} {b : Addr} {o : Obj} (e : (hidT h H).get? b = some o) : h.get? b = some o ∧ H b = none := by
  have e' : h.get? b = some o := PySem.W.of_hideAll (trk h H) e
  refine ⟨e', ?_⟩
  cases q : H b with
  | none => rfl
  | some x =>
    have hm : b ∈ trk h H := List.mem_filter.mpr ⟨List.mem_range.mpr (Heap.lt_size e'), by simp [q]⟩
    have z : (hidT h H).get? b = none := PySem.W.hideAll_none (trk h H) hm
    rw [z] at e; cases e

/-! ### OpenK's ledger, filled with every new object but one -/
noncomputable def allNews (g h : Heap) (L : Addr) : List (Addr × Obj) := (List.range h.objs.size).filterMap fun a => if a = L ∨ (g.get? a).isSome = true then none else (h.get? a).map fun o => (a, o)
noncomputable def rest (g h : Heap) (L d : Addr) : List (Addr × Obj) := (allNews g h L).filter fun p => decide (p.1 ≠ d)
end L2

namespace L2
open PySem PySem.Spec PyProof.Rows

structure Mod (K : PySem.W.Frag) (mg : Str → Option Value) (base : Heap) : Prop where
  kin : K.In base
  glob : base.Ns mainGlobals mg
  blt : ∃ mb, base.Ns builtinsNs mb ∧ ∀ x : Str, x ≠ "__name__" → mb x = bootBuiltins x
  nolimit : base.NoLimit

structure Cx where
  prog : Program
  w : World
  K : PySem.W.Frag
  mg : Str → Option Value
  base : Heap
  A : Around
  N : List Str
  s₀ : Shared
  H₀ : Hp
  env : Env
  outer : List Env
  stack : List Env
  ex : List Addr
  fn : Str → Bool
  calm : Bool
  pn : List (Addr × Obj)
  xe : Value → Shared → Prop
noncomputable def frs (l : List Env) : List Addr := l.filterMap (·.frame)
noncomputable abbrev Cx.fs (X : Cx) : List Addr := frs X.outer

noncomputable def Vis (sc : Scope) (x : Str) : Prop := sc.names.lookup x = some .local ∨ sc.names.lookup x = some .cell ∨ sc.names.lookup x = some .free
noncomputable def Loc (sc : Scope) (x : Str) : Prop := sc.names.lookup x = some .local ∨ sc.names.lookup x = some .cell
noncomputable def Look (env : Env) (h : Heap) (m : Str → Option Value) (x : Str) (u : Value) : Prop :=
  (env.kindOf x = some .local ∧ m x = some u) ∨ ((env.kindOf x = some .cell ∨ env.kindOf x = some .free) ∧ ∃ c, env.cells.lookup x = some c ∧ h.IsCell c (some u))

structure Cx.Ok (X : Cx) : Prop where
  mod : Mod X.K X.mg X.base
  kind : X.env.scope.kind = .function
  glob : X.env.globals = mainGlobals
  blt : X.env.builtins = builtinsNs
  above : X.s₀.heap.objs.size ≤ X.env.locals
  inj : ∀ x y c, X.env.cells.lookup x = some c → X.env.cells.lookup y = some c → x = y
  has : ∀ x, (X.env.kindOf x = some .cell ∨ X.env.kindOf x = some .free) → ∃ c, X.env.cells.lookup x = some c
  cab : ∀ x c, X.fn x = true → X.env.cells.lookup x = some c → X.s₀.heap.objs.size ≤ c
  hd : X.calm = true → X.A.handled = none
  frames : X.A.frames = some X.stack
  stk : X.stack = X.outer ∨ (X.stack = X.env :: X.outer ∧ X.env.frame = some X.env.locals)
  exf : ∀ b ∈ X.ex, b ≠ X.env.locals ∧ ∀ x c, X.env.cells.lookup x = some c → c ≠ b
  bs : ∀ b o, X.base.get? b = some o → X.s₀.heap.get? b = some o ∧ X.H₀ b = none
  bsz : X.base.objs.size ≤ X.s₀.heap.objs.size
  noex : ∀ b o, X.base.get? b = some o → b ∉ X.ex
  exfs : ∀ b ∈ X.ex, b ∉ X.fs
  funs : X.s₀.heap.FunFrames X.base X.outer
  frf : ∀ b ∈ X.fs, X.H₀ b = none

structure Inv (X : Cx) (pins : List (Addr × Obj)) (σ : List (Option V)) (H : Hp) (s : Shared) : Prop where
  ok : X.Ok
  os : s.os = X.s₀.os
  bare : AllBare s.gens
  base : Un X.fs X.ex X.H₀ H X.s₀.heap s.heap
  loc : ∃ m, s.heap.Ns X.env.locals m ∧ ∀ (i : Nat) (x : Str) (v : V), X.N[i]? = some x → σ[i]? = some (some v) → Vis X.env.scope x → ∃ u, RelV v u ∧ Look X.env s.heap m x u
  cell : ∀ x c, X.env.cells.lookup x = some c → ∃ v, s.heap.IsCell c v
  free : H X.env.locals = none
  freeC : ∀ x c, X.env.cells.lookup x = some c → H c = none
  pin : ∀ p ∈ X.pn ++ pins, s.heap.get? p.1 = some p.2 ∧ H p.1 = none ∧ p.1 ≠ X.env.locals ∧ p.1 ∉ X.fs ∧ ∀ v, p.2.data ≠ .cell v
  hok : HOk X.prog X.w H s.heap
  len : σ.length = X.N.length

section
variable {X : Cx} {pins : List (Addr × Obj)} {σ : List (Option V)} {H H' : Hp} {s : Shared} {h' : Heap}

theorem Cx.Ok.nofr (ok : X.Ok) {b : Addr} {o : Obj} (e : X.base.get? b = some o) : b ∉ X.fs := fun hb => by
  have := (ok.funs.mem hb).1
  rw [e] at this; cases this
theorem Inv.bs (I : Inv X pins σ H s) : ∀ b o, X.base.get? b = some o → s.heap.get? b = some o ∧ H b = none := fun b o e =>
  ⟨I.base.keep b o (I.ok.bs b o e).1 (I.ok.bs b o e).2 (I.ok.nofr e) (I.ok.noex b o e), I.base.free b o (I.ok.bs b o e).1 (I.ok.bs b o e).2 (I.ok.noex b o e)⟩
theorem Inv.bk (I : Inv X pins σ H s) : ∀ b o, X.base.get? b = some o → s.heap.get? b = some o := fun b o e => (I.bs b o e).1
theorem Inv.mod (I : Inv X pins σ H s) : Mod X.K X.mg X.base := I.ok.mod
theorem Inv.kIn (I : Inv X pins σ H s) : X.K.In s.heap := I.ok.mod.kin.keeps I.bk
theorem Inv.lt (I : Inv X pins σ H s) : X.env.locals < s.heap.objs.size := let ⟨_, hn, _⟩ := I.loc; hn.lt
theorem Inv.sz (I : Inv X pins σ H s) : X.s₀.heap.objs.size ≤ s.heap.objs.size := Nat.le_trans I.ok.above (Nat.le_of_lt I.lt)
theorem Inv.nofs (I : Inv X pins σ H s) {a : Addr} (h : s.heap.objs.size ≤ a) : a ∉ X.fs := fun hb => by
  obtain ⟨_, o, ho, _⟩ := I.ok.funs.mem hb
  exact absurd (Nat.lt_of_lt_of_le (Heap.lt_size ho) (Nat.le_trans I.sz h)) (Nat.lt_irrefl _)
theorem Inv.cne (I : Inv X pins σ H s) : ∀ x c, X.env.cells.lookup x = some c → c ≠ X.env.locals := fun x c e z => by
  obtain ⟨v, o, ho, hd⟩ := I.cell x c e
  obtain ⟨m, ⟨o', es, ep, ho', hd', _⟩, _⟩ := I.loc
  rw [z, ho'] at ho; cases ho; rw [hd'] at hd; cases hd
theorem Inv.funs (I : Inv X pins σ H s) : s.heap.FunFrames X.base X.outer := by
  have all : ∀ (l : List Env), (∀ b ∈ frs l, b ∈ X.fs) → X.s₀.heap.FunFrames X.base l → s.heap.FunFrames X.base l := by
    intro l
    induction l with
    | nil => intro _ _; trivial
    | cons env r ih =>
      intro hs hl
      obtain ⟨hk, ⟨L, o, hf, hn, ho, hd⟩, hr⟩ := hl
      have hL : L ∈ X.fs := hs L (by unfold frs; rw [List.filterMap_cons, hf]; exact List.mem_cons_self)
      obtain ⟨sl, e⟩ := I.base.slot L o ho (I.ok.frf L hL) hL fun z => I.ok.exfs L z hL
      exact ⟨hk, ⟨L, _, hf, hn, e, hd⟩, ih (fun b hb => hs b (by unfold frs; rw [List.filterMap_cons, hf]; exact List.mem_cons_of_mem _ hb)) hr⟩
  exact all X.outer (fun _ hb => hb) I.ok.funs

theorem Inv.stack (I : Inv X pins σ H s) : s.heap.FunFrames X.base X.stack := by
  rcases I.ok.stk with e | ⟨e, hf⟩
  · rw [e]; exact I.funs
  · rw [e]
    obtain ⟨m, hn, _⟩ := I.loc
    refine .cons (by rw [I.ok.kind]; decide) hf hn ?_ I.funs
    exact Heap.get?_none_of_le (Nat.le_trans I.ok.bsz I.ok.above)
theorem Inv.stkSub (I : Inv X pins σ H s) : ∀ b ∈ frs X.stack, b ∈ X.env.locals :: X.fs := fun b hb => by
  rcases I.ok.stk with e | ⟨e, hf⟩
  · rw [e] at hb; exact List.mem_cons_of_mem _ hb
  · rw [e] at hb
    unfold frs at hb
    rw [List.filterMap_cons, hf] at hb
    exact hb
theorem Inv.stkFree (I : Inv X pins σ H s) : ∀ b ∈ frs X.stack, H b = none := fun b hb => by
  rcases List.mem_cons.mp (I.stkSub b hb) with e | hb
  · rw [e]; exact I.free
  · obtain ⟨_, o, ho, _⟩ := I.ok.funs.mem hb
    exact I.base.free b o ho (I.ok.frf b hb) fun z => I.ok.exfs b z hb

theorem Inv.step {g' : Array GenState} {t' : Nat} {d' : Drawn} {ch : List Addr} (I : Inv X pins σ H s)
    (hch : ∀ b ∈ ch, (b ∈ X.ex ∨ X.s₀.heap.objs.size ≤ b) ∧ b ≠ X.env.locals ∧ (∀ x c, X.env.cells.lookup x = some c → c ≠ b) ∧ ∀ p ∈ X.pn ++ pins, p.1 ≠ b)
    (keep : ∀ b o, b ≠ X.env.locals → b ∉ X.fs → b ∉ ch → s.heap.get? b = some o → H b = none → h'.get? b = some o)
    (slot : ∀ b o, b ≠ X.env.locals → b ∈ X.fs → b ∉ ch → s.heap.get? b = some o → H b = none → ∃ sl, h'.get? b = some { o with slots := sl }) (free : ∀ b o, b ∉ ch → s.heap.get? b = some o → H b = none → H' b = none)
    (there : ∀ b o, b ∉ ch → s.heap.get? b = some o → ∃ o', h'.get? b = some o')
    (tups : ∀ b xs, H b = some (.tup xs) → H' b = some (.tup xs)) (frzs : ∀ b o u, H b = some (.frz o u) → H' b = some (.frz o u)) (tbls : ∀ b ps, H b = some (.tbl ps) → ∃ more, H' b = some (.tbl (ps ++ more)))
    (ns : ∀ m, s.heap.Ns X.env.locals m → h'.Ns X.env.locals m) (hok : HOk X.prog X.w H' h') (hg : AllBare g') :
    Inv X pins σ H' { s with heap := h', gens := g', drawn := d', toks := t' } := by
  have neL : ∀ b o, X.s₀.heap.get? b = some o → b ≠ X.env.locals := fun b o e => Nat.ne_of_lt (Nat.lt_of_lt_of_le (Heap.lt_size e) I.ok.above)
  have neC : ∀ b o, X.s₀.heap.get? b = some o → b ∉ X.ex → b ∉ ch := fun b o e hx hb => by
    rcases (hch b hb).1 with z | z
    · exact hx z
    · exact absurd (Nat.lt_of_lt_of_le (Heap.lt_size e) z) (Nat.lt_irrefl _)
  have cellK : ∀ x c, X.env.cells.lookup x = some c → ∀ v, s.heap.IsCell c v → h'.IsCell c v := fun x c e v ⟨o, ho, hd⟩ => by
    have nch : c ∉ ch := fun z => (hch c z).2.2.1 x c e rfl
    by_cases hc : c ∈ X.fs
    · obtain ⟨sl, q⟩ := slot c o (I.cne x c e) hc nch ho (I.freeC x c e)
      exact ⟨_, q, hd⟩
    · exact ⟨o, keep c o (I.cne x c e) hc nch ho (I.freeC x c e), hd⟩
  refine ⟨I.ok, I.os, hg, ⟨fun b o e n hb hx => ?_, fun b o e n hb hx => ?_, fun b o e n hx => ?_, fun b o e hx => ?_, fun b xs e => tups b xs (I.base.tups b xs e), fun b o xs e => frzs b o xs (I.base.frzs b o xs e), fun b ps e => ?_⟩, ?_, fun x c e => ?_, ?_, fun x c e => ?_, fun p hp => ?_, hok, I.len⟩
  · exact keep b o (neL b o e) hb (neC b o e hx) (I.base.keep b o e n hb hx) (I.base.free b o e n hx)
  · obtain ⟨sl, e1⟩ := I.base.slot b o e n hb hx
    obtain ⟨sl', e2⟩ := slot b _ (neL b o e) hb (neC b o e hx) e1 (I.base.free b o e n hx)
    exact ⟨sl', e2⟩
  · obtain ⟨o', e1⟩ := I.base.there b o e hx
    exact free b o' (neC b o e hx) e1 (I.base.free b o e n hx)
  · obtain ⟨o', e1⟩ := I.base.there b o e hx
    exact there b o' (neC b o e hx) e1
  · obtain ⟨m1, e1⟩ := I.base.tbls b ps e
    obtain ⟨m2, e2⟩ := tbls b _ e1
    exact ⟨m1 ++ m2, by rw [e2, Array.append_assoc]⟩
  · obtain ⟨m, hn, hl⟩ := I.loc
    refine ⟨m, ns m hn, fun i x v e1 e2 e3 => ?_⟩
    obtain ⟨u, r, l⟩ := hl i x v e1 e2 e3
    refine ⟨u, r, ?_⟩
    rcases l with l | ⟨k, c, e, z⟩
    · exact .inl l
    · exact .inr ⟨k, c, e, cellK x c e _ z⟩
  · obtain ⟨v, z⟩ := I.cell x c e
    exact ⟨v, cellK x c e v z⟩
  · obtain ⟨m, ⟨o, _, _, ho, _⟩, _⟩ := I.loc
    exact free _ o (fun z => (hch _ z).2.1 rfl) ho I.free
  · obtain ⟨v, o, ho, hd⟩ := I.cell x c e
    exact free c o (fun z => (hch c z).2.2.1 x c e rfl) ho (I.freeC x c e)
  · obtain ⟨e, n, ne, nf, d⟩ := I.pin p hp
    have nch : p.1 ∉ ch := fun z => (hch p.1 z).2.2.2 p hp rfl
    exact ⟨keep p.1 p.2 ne nf nch e n, free p.1 p.2 nch e n, ne, nf, d⟩
theorem Inv.un {t' : Nat} (I : Inv X pins σ H s) (u : Un X.fs [] H H' s.heap h') (hok : HOk X.prog X.w H' h') : Inv X pins σ H' { s with heap := h', toks := t' } := by
  obtain ⟨m, ⟨o, es, ep, ho, r⟩, _⟩ := id I.loc
  obtain ⟨sl, hL⟩ := u.any ho I.free (by simp)
  exact I.step (g' := s.gens) (d' := s.drawn) (ch := []) (fun _ z => nomatch z) (fun b o _ hb _ e n => u.keep b o e n hb (by simp)) (fun b o _ hb _ e n => u.slot b o e n hb (by simp)) (fun b o _ e n => u.free b o e n (by simp)) (fun b o _ e => u.there b o e (by simp)) u.tups u.frzs u.tbls (fun m' hm => by
    obtain ⟨o', es', ep', ho', r'⟩ := hm
    rw [ho] at ho'; cases ho'
    exact ⟨_, es', ep', hL, r'⟩) hok I.bare
theorem Inv.call {g' : Array GenState} {t' : Nat} {d' : Drawn} {ch : List Addr} (I : Inv X pins σ H s) (u : Un (frs X.stack) ch H H' s.heap h') (hok : HOk X.prog X.w H' h') (hg : AllBare g')
    (hch : ∀ b ∈ ch, (b ∈ X.ex ∨ X.s₀.heap.objs.size ≤ b) ∧ b ≠ X.env.locals ∧ (∀ x c, X.env.cells.lookup x = some c → c ≠ b) ∧ ∀ p ∈ X.pn ++ pins, p.1 ≠ b) :
    Inv X pins σ H' { s with heap := h', gens := g', drawn := d', toks := t' } := by
  obtain ⟨m, ⟨o, es, ep, ho, r⟩, _⟩ := id I.loc
  obtain ⟨sl, hL⟩ := u.any ho I.free fun z => (hch _ z).2.1 rfl
  exact I.step (ch := ch) hch (fun b o hL hb hc e n => u.keep b o e n (fun z => (List.mem_cons.mp (I.stkSub b z)).elim hL hb) hc) (fun b o _ _ hc e n => u.any e n hc) (fun b o hc e n => u.free b o e n hc) (fun b o hc e => u.there b o e hc) u.tups u.frzs u.tbls (fun m' hm => by
    obtain ⟨o', es', ep', ho', r'⟩ := hm
    rw [ho] at ho'; cases ho'
    exact ⟨_, es', ep', hL, r'⟩) hok hg
theorem Inv.turned {t' : Nat} {it : Addr} (I : Inv X pins σ H s) (k : ∀ b o, b ≠ it → s.heap.get? b = some o → h'.get? b = some o) (hn : H it = none) (hL : it ≠ X.env.locals)
    (h1 : it ∈ X.ex ∨ X.s₀.heap.objs.size ≤ it) (h2 : ∀ x c, X.env.cells.lookup x = some c → c ≠ it) (h3 : ∀ p ∈ X.pn ++ pins, p.1 ≠ it) : Inv X pins σ H { s with heap := h', toks := t' } := by
  have nit : ∀ b u, H b = some u → b ≠ it := fun b u e z => by rw [z, hn] at e; cases e
  refine I.step (g' := s.gens) (d' := s.drawn) (ch := [it]) (fun b hb => ?_) (fun b o _ _ hc e _ => k b o (fun z => hc (by simp [z])) e) (fun b o _ _ hc e _ => ⟨o.slots, k b o (fun z => hc (by simp [z])) e⟩) (fun _ _ _ _ n => n)
    (fun b o hc e => ⟨o, k b o (fun z => hc (by simp [z])) e⟩) (fun _ _ e => e) (fun _ _ _ e => e) (fun b ps e => ⟨#[], by rw [e]; simp⟩) (fun m hm => ?_) (fun b u e => ?_) I.bare
  · have e : b = it := by simpa using hb
    subst e
    exact ⟨h1, hL, h2, h3⟩
  · obtain ⟨o, es, ep, ho, r⟩ := hm
    exact ⟨o, es, ep, k _ o (Ne.symm hL) ho, r⟩
  · refine (I.hok b u e).stay (fun c v hc q => k c v ?_ q) (fun _ q => q) fun _ _ q => q
    rcases hc with z | z
    · rw [z]; exact nit b u e
    · exact nit c _ z
theorem Inv.tok (I : Inv X pins σ H s) (t : Nat) : Inv X pins σ H { s with toks := t } := I.un (h' := s.heap) (t' := t) Un.refl I.hok
theorem Inv.kept {t' : Nat} (I : Inv X pins σ H s) (k : ∀ b u, s.heap.get? b = some u → h'.get? b = some u) : Inv X pins σ H { s with heap := h', toks := t' } := I.un (Un.kept k) (I.hok.kept k)
theorem Inv.laid {a : Addr} {o : HO} {t' : Nat} (I : Inv X pins σ H s) (k : ∀ b u, s.heap.get? b = some u → h'.get? b = some u) (hp : s.heap.objs.size ≤ a) (new : ObjOk X.prog X.w (upd H a o) h' a o) :
    Inv X pins σ (upd H a o) { s with heap := h', toks := t' } := I.un (Un.laid k hp (I.hok.fresh hp)) (I.hok.laid k hp new)
theorem Inv.write {x e : Addr} {o : HO} {t' : Nat} (I : Inv X pins σ H s) (mu : Mut (H x)) (he : e = x ∨ H e = some (.own x)) (k : ∀ b u, b ≠ e → s.heap.get? b = some u → h'.get? b = some u) (heo : ∃ u, h'.get? e = some u)
    (new : ObjOk X.prog X.w (upd H x o) h' x o) : Inv X pins σ (upd H x o) { s with heap := h', toks := t' } := I.un (Un.write mu he k heo) (I.hok.write mu he k heo new)
theorem Inv.pins_of {pins' : List (Addr × Obj)} (I : Inv X pins σ H s) (h : ∀ p ∈ pins', s.heap.get? p.1 = some p.2 ∧ H p.1 = none ∧ p.1 ≠ X.env.locals ∧ p.1 ∉ X.fs ∧ ∀ v, p.2.data ≠ .cell v) : Inv X pins' σ H s :=
  ⟨I.ok, I.os, I.bare, I.base, I.loc, I.cell, I.free, I.freeC, fun p hp => (List.mem_append.mp hp).elim (fun z => I.pin p (List.mem_append_left _ z)) (h p), I.hok, I.len⟩

theorem nodup_ix {N : List Str} (hN : N.Nodup) {i j : Nat} {x : Str} (a : N[i]? = some x) (b : N[j]? = some x) : i = j := by
  obtain ⟨h1, e1⟩ := List.getElem?_eq_some_iff.mp a
  obtain ⟨h2, e2⟩ := List.getElem?_eq_some_iff.mp b
  exact (List.getElem_inj hN).mp (e1.trans e2.symm)

theorem store_ok2 {M : Model} {A : Around} {E : Value → Shared → Prop} {i : Nat} {x : Str} {v : V} {u : Value} {Q : Unit → Shared → Prop} (I : Inv X pins σ H s) (hN : X.N.Nodup) (hi : X.N[i]? = some x) (hx : Loc X.env.scope x) (r : RelV v u)
    (h : ∀ s', Inv X pins (σ.set i (some v)) H s' → (∃ a, Heap.SameBut a s.heap s'.heap ∧ (a = X.env.locals ∨ X.env.cells.lookup x = some a)) → Q () s') (hf : X.fn x = true ∨ X.env.scope.names.lookup x = some .local := by first | exact .inl rfl | exact .inr rfl | assumption) : wpAny M A (storeName X.env x u) Q E s := by
  obtain ⟨m, hn, hl⟩ := id I.loc
  have hcls : (X.env.scope.kind == .class || (X.env.scope.kind == .module && X.env.locals != X.env.globals)) = false := by rw [I.ok.kind]; rfl
  have hiσ : i < σ.length := by rw [I.len]; exact (List.getElem?_eq_some_iff.mp hi).1
  have cne := I.cne
  have tracked : ∀ {a : Addr} {h' : Heap}, (∃ o, s.heap.get? a = some o ∧ H a = none) → Heap.SameBut a s.heap h' → HOk X.prog X.w H h' := fun {a h'} ha hs b ob e => by
    obtain ⟨_, _, hfree⟩ := ha
    refine (I.hok b ob e).stay (fun c w' hc q => (hs.2 c ?_).trans q) (fun _ q => q) fun _ _ q => q
    rintro rfl
    rcases hc with rfl | hc
    · rw [hfree] at e; cases e
    · rw [hfree] at hc; cases hc
  rcases hx with hk | hk
  · refine wpAny_storeName_local hk hn (fun h' hn' hs => ?_) hcls
    obtain ⟨oL, _, _, hoL, _⟩ := id hn
    refine h _ ⟨I.ok, I.os, I.bare, ⟨fun b o e n hb hx => ?_, fun b o e n hb hx => ?_, I.base.free, fun b o e hx => ?_, I.base.tups, I.base.frzs, I.base.tbls⟩, ⟨_, hn', fun j y v' e1 e2 e3 => ?_⟩, fun y c e => ?_, I.free, I.freeC, fun p hp => ?_, tracked ⟨oL, hoL, I.free⟩ hs, by simpa using I.len⟩ ⟨_, hs, .inl rfl⟩
    · exact (hs.2 b (Nat.ne_of_lt (Nat.lt_of_lt_of_le (Heap.lt_size e) I.ok.above))).trans (I.base.keep b o e n hb hx)
    · obtain ⟨sl, e1⟩ := I.base.slot b o e n hb hx
      exact ⟨sl, (hs.2 b (Nat.ne_of_lt (Nat.lt_of_lt_of_le (Heap.lt_size e) I.ok.above))).trans e1⟩
    · obtain ⟨o', e1⟩ := I.base.there b o e hx
      exact ⟨o', (hs.2 b (Nat.ne_of_lt (Nat.lt_of_lt_of_le (Heap.lt_size e) I.ok.above))).trans e1⟩
    · by_cases hj : j = i
      · subst hj
        rw [hi] at e1; cases e1
        rw [List.getElem?_set_self hiσ] at e2
        cases e2
        exact ⟨u, r, .inl ⟨hk, by simp⟩⟩
      · rw [List.getElem?_set_ne (Ne.symm hj)] at e2
        obtain ⟨u', r', q⟩ := hl j y v' e1 e2 e3
        refine ⟨u', r', ?_⟩
        rcases q with ⟨k, e⟩ | ⟨k, c, e, z⟩
        · refine .inl ⟨k, ?_⟩
          have : y ≠ x := fun e => hj (nodup_ix hN e1 (e ▸ hi))
          simp [this, e]
        · exact .inr ⟨k, c, e, z.sameBut hs (cne y c e)⟩
    · obtain ⟨w', z⟩ := I.cell y c e
      exact ⟨w', z.sameBut hs (cne y c e)⟩
    · obtain ⟨e, n, ne, nf, d⟩ := I.pin p hp
      exact ⟨(hs.2 p.1 ne).trans e, n, ne, nf, d⟩
  · have hfn : X.fn x = true := by
      rcases hf with z | z
      · exact z
      · rw [z] at hk; cases hk
    obtain ⟨c, hc⟩ := I.ok.has x (.inl hk)
    obtain ⟨w', z⟩ := I.cell x c hc
    refine wpAny_storeName_cell I.ok.kind hk hc z (fun h' hc' hs => ?_)
    obtain ⟨oc, hoc, hocd⟩ := id z
    refine h { s with heap := h' } ⟨I.ok, I.os, I.bare, ⟨fun b o e n hb hx => ?_, fun b o e n hb hx => ?_, I.base.free, fun b o e hx => ?_, I.base.tups, I.base.frzs, I.base.tbls⟩, ⟨m, hn.sameBut hs (Ne.symm (cne x c hc)), fun j y v' e1 e2 e3 => ?_⟩, fun y c' e => ?_, I.free, I.freeC, fun p hp => ?_, tracked ⟨oc, hoc, I.freeC x c hc⟩ hs, by simpa using I.len⟩ ⟨c, hs, .inr hc⟩
    · exact (hs.2 b (Nat.ne_of_lt (Nat.lt_of_lt_of_le (Heap.lt_size e) (I.ok.cab x c hfn hc)))).trans (I.base.keep b o e n hb hx)
    · obtain ⟨sl, e1⟩ := I.base.slot b o e n hb hx
      exact ⟨sl, (hs.2 b (Nat.ne_of_lt (Nat.lt_of_lt_of_le (Heap.lt_size e) (I.ok.cab x c hfn hc)))).trans e1⟩
    · obtain ⟨o', e1⟩ := I.base.there b o e hx
      exact ⟨o', (hs.2 b (Nat.ne_of_lt (Nat.lt_of_lt_of_le (Heap.lt_size e) (I.ok.cab x c hfn hc)))).trans e1⟩
    · by_cases hj : j = i
      · subst hj
        rw [hi] at e1; cases e1
        rw [List.getElem?_set_self hiσ] at e2
        cases e2
        exact ⟨u, r, .inr ⟨.inl hk, c, hc, hc'⟩⟩
      · rw [List.getElem?_set_ne (Ne.symm hj)] at e2
        obtain ⟨u', r', q⟩ := hl j y v' e1 e2 e3
        refine ⟨u', r', ?_⟩
        rcases q with q | ⟨k, c', e, z'⟩
        · exact .inl q
        · refine .inr ⟨k, c', e, z'.sameBut hs ?_⟩
          rintro rfl
          exact hj (nodup_ix hN e1 (I.ok.inj _ _ _ e hc ▸ hi))
    · by_cases hcc : c' = c
      · subst hcc; exact ⟨_, hc'⟩
      · obtain ⟨w2, z2⟩ := I.cell y c' e
        exact ⟨w2, z2.sameBut hs hcc⟩
    · obtain ⟨e, n, ne, nf, d⟩ := I.pin p hp
      refine ⟨(hs.2 p.1 ?_).trans e, n, ne, nf, d⟩
      intro q
      rw [q, hoc] at e
      have q' : oc = p.2 := Option.some.inj e
      exact d w' (by rw [← q']; exact hocd)
theorem store_ok {M : Model} {A : Around} {E : Value → Shared → Prop} {i : Nat} {x : Str} {v : V} {u : Value} {Q : Unit → Shared → Prop} (I : Inv X pins σ H s) (hN : X.N.Nodup) (hi : X.N[i]? = some x) (hx : Loc X.env.scope x) (r : RelV v u)
    (h : ∀ s', Inv X pins (σ.set i (some v)) H s' → Q () s') (hf : X.fn x = true ∨ X.env.scope.names.lookup x = some .local := by first | exact .inl rfl | exact .inr rfl | assumption) : wpAny M A (storeName X.env x u) Q E s :=
  store_ok2 I hN hi hx r (fun s' I' _ => h s' I') hf
theorem Inv.call' {s' : Shared} {ch : List Addr} (I : Inv X pins σ H s) (ho : s'.os = s.os) (u : Un (frs X.stack) ch H H' s.heap s'.heap) (hok : HOk X.prog X.w H' s'.heap) (hg : AllBare s'.gens)
    (hch : ∀ b ∈ ch, (b ∈ X.ex ∨ X.s₀.heap.objs.size ≤ b) ∧ b ≠ X.env.locals ∧ (∀ x c, X.env.cells.lookup x = some c → c ≠ b) ∧ ∀ p ∈ X.pn ++ pins, p.1 ≠ b) : Inv X pins σ H' s' := by
  obtain ⟨h', g', d', t', o'⟩ := s'
  have e : o' = s.os := ho
  subst e
  exact I.call (g' := g') (t' := t') (d' := d') u hok hg hch
end

/-! ### the judgements -/
noncomputable abbrev XK := Value → Option Addr → Hp → Prop
noncomputable abbrev St := List (Option V)
noncomputable abbrev VK := V → Hp → Prop
noncomputable abbrev TE := St → Hp → VK → Prop
noncomputable abbrev TT := St → Hp → (Bool → Hp → Prop) → Prop
noncomputable abbrev TA := St → Hp → (List V → Hp → Prop) → Prop
structure Ends where
  nx : St → Hp → Prop
  rt : VK
  bk : St → Hp → Prop := fun _ _ => False
  ct : St → Hp → Prop := fun _ _ => False
noncomputable abbrev TS := Ends → St → Hp → Prop

noncomputable def EP (X : Cx) (pins : List (Addr × Obj)) (σ : St) (Q : VK) (u : Value) (s' : Shared) : Prop := ∃ v H', Inv X pins σ H' s' ∧ RelV v u ∧ Q v H'
noncomputable def TP (X : Cx) (pins : List (Addr × Obj)) (σ : St) (Q : Bool → Hp → Prop) (b : Bool) (s' : Shared) : Prop := ∃ H', Inv X pins σ H' s' ∧ Q b H'
noncomputable def AP (X : Cx) (pins : List (Addr × Obj)) (σ : St) (Q : List V → Hp → Prop) (us : List Value) (s' : Shared) : Prop := ∃ vs H', Inv X pins σ H' s' ∧ Vals vs us ∧ Q vs H'
noncomputable def SP (X : Cx) (pins : List (Addr × Obj)) (D : Ends) (f : Flow) (s' : Shared) : Prop :=
  match f with
  | .next => ∃ σ' H', Inv X pins σ' H' s' ∧ D.nx σ' H'
  | .brk => ∃ σ' H', Inv X pins σ' H' s' ∧ D.bk σ' H'
  | .cont => ∃ σ' H', Inv X pins σ' H' s' ∧ D.ct σ' H'
  | .ret u => ∃ v σ' H', Inv X pins σ' H' s' ∧ RelV v u ∧ D.rt v H'

noncomputable def PE (X : Cx) (e : Expr) (t : TE) : Prop :=
  ∀ (pins : List (Addr × Obj)) (s : Shared) (σ : St) (H : Hp) (Q : VK), Inv X pins σ H s → t σ H Q → wpAny (model X.prog X.w) X.A (eval e X.env) (EP X pins σ Q) X.xe s
noncomputable def PT (X : Cx) (e : Expr) (t : TT) : Prop :=
  ∀ (pins : List (Addr × Obj)) (s : Shared) (σ : St) (H : Hp) (Q : Bool → Hp → Prop), Inv X pins σ H s → t σ H Q → wpAny (model X.prog X.w) X.A (isTrue e X.env (eval e X.env)) (TP X pins σ Q) X.xe s
noncomputable def PW (X : Cx) (e : Expr) (t : TT) : Prop :=
  ∀ (whole : Sem Value) (pins : List (Addr × Obj)) (s : Shared) (σ : St) (H : Hp) (Q : Bool → Hp → Prop), Inv X pins σ H s → t σ H Q → wpAny (model X.prog X.w) X.A (isTrue e X.env whole) (TP X pins σ Q) X.xe s
theorem PW.pt {X : Cx} {e : Expr} {t : TT} (h : PW X e t) : PT X e t := h _
noncomputable def PA (X : Cx) (es : List Expr) (t : TA) : Prop :=
  ∀ (pos : Pos) (pins : List (Addr × Obj)) (s : Shared) (σ : St) (H : Hp) (Q : List V → Hp → Prop), Inv X pins σ H s → t σ H Q → wpAny (model X.prog X.w) X.A (spliced (backTo pos (starEach es X.env))) (AP X pins σ Q) X.xe s
noncomputable def PS (X : Cx) (st : Stmt) (t : TS) : Prop :=
  ∀ (pins : List (Addr × Obj)) (s : Shared) (σ : St) (H : Hp) (D : Ends), Inv X pins σ H s → t D σ H → wpAny (model X.prog X.w) X.A (exec st X.env) (SP X pins D) X.xe s
noncomputable def PSs (X : Cx) (st : List Stmt) (t : TS) : Prop :=
  ∀ (pins : List (Addr × Obj)) (s : Shared) (σ : St) (H : Hp) (D : Ends), Inv X pins σ H s → t D σ H → wpAny (model X.prog X.w) X.A (execs st X.env) (SP X pins D) X.xe s
theorem thn {α : Type} {t : Sem α} {Q Q' : α → Shared → Prop} {M : Model} {A : Around} {E : Value → Shared → Prop} {s : Shared} (h : wpAny M A t Q E s) (hQ : ∀ a s, Q a s → Q' a s) : wpAny M A t Q' E s := wpAny_mono h hQ fun _ _ x => x
end L2

namespace L2
open PySem PySem.Spec PyProof.Rows
section
variable {X : Cx}


/-! ### names and constants -/
noncomputable def tVar (i : Nat) : TE := fun σ H Q => ∃ v, σ[i]? = some (some v) ∧ Q v H
noncomputable def tC (v : V) : TE := fun _ H Q => Q v H
theorem pe_var {i : Nat} {x : Str} {pos : Pos} (hN : X.N[i]? = some x) (hv : Vis X.env.scope x) (hd : (x == ("__debug__" : Str)) = false := by decide) (hcd : (x == ("__classdict__" : Str)) = false := by decide) : PE X (.Name x pos) (tVar i) := by
  intro pins s σ H Q I h
  obtain ⟨v, e, h⟩ := h
  obtain ⟨m, hn, hl⟩ := I.loc
  obtain ⟨u, r, l⟩ := hl i x v hN e hv
  have fin : EP X pins σ Q u s := ⟨v, H, I, r, h⟩
  rcases l with ⟨hk, hm⟩ | ⟨hk, c, hc, hcell⟩
  · exact wpAny_Name (wpAny_loadName_local I.ok.kind hk hn hm fin) hd
  · rcases hk with hk | hk
    · exact wpAny_Name (wpAny_loadName_cell I.ok.kind hk hc hcell fin) hd
    · exact wpAny_Name (wpAny_loadName_free I.ok.kind hk hc hcell fin hcd) hd
theorem pe_int {i j pos} : PE X (.Constant (.int i) j pos) (tC (.int i)) := fun _ _ _ H _ I h => wpAny_Constant_int ⟨.int i, H, I.tok _, ⟨_, rfl⟩, h⟩
theorem pe_bl {b j pos} : PE X (.Constant (.bool b) j pos) (tC (.bl b)) := fun _ _ _ H _ I h => Constant_bool ⟨.bl b, H, I, rfl, h⟩
theorem pe_non {j pos} : PE X (.Constant .none j pos) (tC .non) := fun _ _ _ H _ I h => Constant_none ⟨.non, H, I, rfl, h⟩
theorem pe_str {x j pos} : PE X (.Constant (.str x) j pos) (tC (.str x)) := fun _ _ _ H _ I h => Calls.Constant_str ⟨.str x, H, I.tok _, ⟨_, rfl⟩, h⟩

noncomputable def Gl (X : Cx) (x : Str) : Prop := X.env.kindOf x = some .globalImplicit
theorem ld_glob {E : Value → Shared → Prop} {pins : List (Addr × Obj)} {s : Shared} {σ : St} {H : Hp} {x : Str} {u : Value} {pos : Pos} {Q : Value → Shared → Prop} (I : Inv X pins σ H s) (hg : Gl X x) (hm : X.mg x = some u) (h : Q u s)
    (hd : (x == ("__debug__" : Str)) = false := by decide) : wpAny (model X.prog X.w) X.A (eval (.Name x pos) X.env) Q E s :=
  Calls.Name_function_global I.ok.kind hg (Calls.loadGlobal_global (by rw [I.ok.glob]; exact I.mod.glob.keeps I.bk) hm h) hd
theorem ld_blt {E : Value → Shared → Prop} {pins : List (Addr × Obj)} {s : Shared} {σ : St} {H : Hp} {x : Str} {u : Value} {pos : Pos} {Q : Value → Shared → Prop} (I : Inv X pins σ H s) (hg : Gl X x) (hm : X.mg x = none) (hv : bootBuiltins x = some u) (h : Q u s)
    (hn : x ≠ "__name__" := by decide) (hd : (x == ("__debug__" : Str)) = false := by decide) : wpAny (model X.prog X.w) X.A (eval (.Name x pos) X.env) Q E s := by
  obtain ⟨mb, h1, h2⟩ := I.mod.blt
  exact Calls.Name_function_global I.ok.kind hg (Calls.loadGlobal_builtin (by rw [I.ok.glob]; exact I.mod.glob.keeps I.bk) hm (by rw [I.ok.blt]; exact h1.keeps I.bk) ((h2 x hn).trans hv) h) hd
theorem pe_glob {x : Str} {v : V} {u : Value} {pos : Pos} (hg : Gl X x) (hm : X.mg x = some u) (r : RelV v u) (hd : (x == ("__debug__" : Str)) = false := by decide) : PE X (.Name x pos) (tC v) :=
  fun _ _ _ H _ I h => ld_glob I hg hm ⟨v, H, I, r, h⟩ hd
theorem pe_bltn {x : Str} {v : V} {u : Value} {pos : Pos} (hg : Gl X x) (hm : X.mg x = none) (hv : bootBuiltins x = some u) (r : RelV v u) (hn : x ≠ "__name__" := by decide) (hd : (x == ("__debug__" : Str)) = false := by decide) : PE X (.Name x pos) (tC v) :=
  fun _ _ _ H _ I h => ld_blt I hg hm hv ⟨v, H, I, r, h⟩ hn hd

/-! ### arithmetic -/
noncomputable def t2I (ta tb : TE) (k : Int → Int → Hp → Prop) : St → Hp → Prop := fun σ H => ta σ H fun x H1 => tb σ H1 fun y H2 => ∃ i j, x = .int i ∧ y = .int j ∧ k i j H2
noncomputable def tAdd (ta tb : TE) : TE := fun σ H Q => t2I ta tb (fun i j H2 => Q (.int (i + j)) H2) σ H
noncomputable def tSub (ta tb : TE) : TE := fun σ H Q => t2I ta tb (fun i j H2 => Q (.int (i - j)) H2) σ H
noncomputable def tMul (ta tb : TE) : TE := fun σ H Q => t2I ta tb (fun i j H2 => (-(2 ^ 64) < i ∧ i < 2 ^ 64) ∧ Q (.int (i * j)) H2) σ H
variable {a b : Expr} {ta tb : TE} {pos : Pos}

/-! ### comparisons -/
noncomputable def PC (X : Cx) (op : CmpOp) (a b : Expr) (t : TE) : Prop :=
  ∀ (pins : List (Addr × Obj)) (s : Shared) (σ : St) (H : Hp) (Q : VK), Inv X pins σ H s → t σ H Q →
    wpAny (model X.prog X.w) X.A (eval a X.env) (fun v s₁ => wpAny (model X.prog X.w) X.A (eval b X.env) (fun u s₂ => wpAny (model X.prog X.w) X.A (compareOp op v u) (EP X pins σ Q) X.xe s₂) X.xe s₁) X.xe s
noncomputable def tCmp (p : Int → Int → Bool) (ta tb : TE) : TE := fun σ H Q => t2I ta tb (fun i j H2 => Q (.bl (p i j)) H2) σ H
noncomputable abbrev tLt : TE → TE → TE := tCmp fun i j => decide (i < j)
noncomputable abbrev tLe : TE → TE → TE := tCmp fun i j => decide (i ≤ j)
noncomputable abbrev tGt : TE → TE → TE := tCmp fun i j => decide (j < i)
noncomputable abbrev tGe : TE → TE → TE := tCmp fun i j => decide (j ≤ i)
noncomputable abbrev tEqI : TE → TE → TE := tCmp fun i j => decide (i = j)
noncomputable abbrev tNeI : TE → TE → TE := tCmp fun i j => !decide (i = j)
noncomputable def tIsN (ta : TE) : TE := fun σ H Q => ta σ H fun x H1 => Q (.bl (decide (x = .non))) H1
noncomputable def tNotN (ta : TE) : TE := fun σ H Q => ta σ H fun x H1 => Q (.bl (!decide (x = .non))) H1
noncomputable def tB (t : TE) : TT := fun σ H Q => t σ H fun x H1 => ∃ c, x = .bl c ∧ Q c H1
theorem pt_val {e : Expr} {t : TE} (h : PE X e t) (he : ∀ whole, isTrue e X.env whole = (do let v ← whole; standAt e.pos; holding [v] (truthy v)) := by intro _; rfl) : PT X e (tB t) := by
  intro pins s σ H Q I hw
  refine isTrue_plain (thn (h pins s σ H _ I hw) fun v s1 ⟨x, H1, I1, r1, q1⟩ => ?_) (he _)
  obtain ⟨d, rfl, q⟩ := q1
  cases r1
  exact wpAny_truthy_bool ⟨H1, I1, q⟩

/-! ### and, or, not -/
variable {tA tB' : TT} {rest : List Expr}
noncomputable def tAnd (t u : TT) : TT := fun σ H Q => t σ H fun c H1 => if c = true then u σ H1 Q else Q false H1
noncomputable def tOr (t u : TT) : TT := fun σ H Q => t σ H fun c H1 => if c = true then Q true H1 else u σ H1 Q
noncomputable def tNot (t : TT) : TT := fun σ H Q => t σ H fun c H1 => Q (!c) H1
theorem pw_or1 (ha : PT X a tA) : PW X (.BoolOp .Or [a] pos) tA := by
  intro wh pins s σ H Q I h
  refine isTrue_or (thn (ha pins s σ H Q I h) fun c s1 e => ?_)
  cases c with
  | false => exact isTrue_or_nil e
  | true => exact e
theorem pw_or (ha : PT X a tA) (hb : PW X (.BoolOp .Or (b :: rest) pos) tB') : PW X (.BoolOp .Or (a :: b :: rest) pos) (tOr tA tB') := by
  intro wh pins s σ H Q I h
  refine isTrue_or (thn (ha pins s σ H _ I h) fun c s1 ⟨H1, I1, q1⟩ => ?_)
  cases c with
  | true => exact ⟨H1, I1, q1⟩
  | false => exact hb wh pins s1 σ H1 Q I1 q1
theorem pt_not (ha : PT X a tA) : PT X (.UnaryOp .Not a pos) (tNot tA) := by
  intro pins s σ H Q I h
  exact isTrue_not (ha pins s σ H (fun c H1 => Q (!c) H1) I h)
noncomputable def tAndV (ta tb : TE) : TE := fun σ H Q => ta σ H fun x H1 => ∃ c, x = .bl c ∧ if c = true then tb σ H1 Q else Q (.bl false) H1
noncomputable def tOrV (ta tb : TE) : TE := fun σ H Q => ta σ H fun x H1 => ∃ c, x = .bl c ∧ if c = true then Q (.bl true) H1 else tb σ H1 Q
noncomputable def tNotV (ta : TE) : TE := fun σ H Q => ta σ H fun x H1 => ∃ c, x = .bl c ∧ Q (.bl (!c)) H1
theorem pe_one {op} {t : TE} (h : PE X a t) : PE X (.BoolOp op [a] pos) t := fun pins s σ H Q I hw => BoolOp_one (h pins s σ H Q I hw)
theorem pe_and (ha : PE X a ta) (hb : PE X (.BoolOp .And (b :: rest) pos) tb) : PE X (.BoolOp .And (a :: b :: rest) pos) (tAndV ta tb) := by
  intro pins s σ H Q I h
  refine BoolOp_and (thn (ha pins s σ H _ I h) fun v s1 ⟨x, H1, I1, r1, q1⟩ => ?_)
  obtain ⟨c, rfl, q1⟩ := q1
  cases r1
  refine wpAny_truthy_bool ?_
  cases c with
  | true => exact hb pins s1 σ H1 Q I1 q1
  | false => exact ⟨.bl false, H1, I1, rfl, q1⟩
theorem pe_not (ha : PE X a ta) : PE X (.UnaryOp .Not a pos) (tNotV ta) := by
  intro pins s σ H Q I h
  refine UnaryOp_ (thn (ha pins s σ H _ I h) fun v s1 ⟨x, H1, I1, r1, q1⟩ => ?_)
  obtain ⟨c, rfl, q1⟩ := q1
  cases r1
  exact not_of (wpAny_truthy_bool ⟨.bl (!c), H1, I1, rfl, q1⟩)
noncomputable def tIf (t : TT) (ta tb : TE) : TE := fun σ H Q => t σ H fun c H1 => if c = true then ta σ H1 Q else tb σ H1 Q
theorem pe_ifExp {c : Expr} (hc : PT X c tA) (ha : PE X a ta) (hb : PE X b tb) : PE X (.IfExp c a b pos) (tIf tA ta tb) := by
  intro pins s σ H Q I h
  refine wpAny_IfExp (thn (hc pins s σ H _ I h) fun d s1 ⟨H1, I1, q1⟩ => ?_)
  cases d with
  | true => exact ha pins s1 σ H1 Q I1 q1
  | false => exact hb pins s1 σ H1 Q I1 q1
end
end L2

namespace L2
open PySem PySem.Spec PyProof.Rows

/-! ### a list, a tuple that is read: tracked, frozen, or an object of the module -/
noncomputable def SqL (K : PySem.W.Frag) (H : Hp) (a : Addr) (xs : List V) : Prop :=
  Rd H a (.lst xs) ∨
    ∃ (o : Obj) (its : Array Value) (n : Nat), K.lookup a = some o ∧ o.cls = .type "list" ∧ o.dict = none ∧ o.data = .seq its n ∧ its.size ≤ sizeLine ∧ Vals xs its.toList
noncomputable def SqT (K : PySem.W.Frag) (H : Hp) (a : Addr) (xs : List V) : Prop :=
  Rd H a (.tup xs) ∨
    ∃ (o : Obj) (its : Array Value) (n : Nat), K.lookup a = some o ∧ o.cls = .type "tuple" ∧ o.data = .seq its n ∧ its.size ≤ sizeLine ∧ Vals xs its.toList
noncomputable def absV : Value → Option V
  | .none => some .non
  | .bool b => some (.bl b)
  | .int i _ => some (.int i)
  | .str x _ => some (.str x)
  | .bytes b _ => some (.byt b)
  | .float b _ => some (.flt b)
  | .ref a => some (.ref a)
  | .type n => some (.ty n)
  | _ => none
theorem RelV.abs {x : V} {u : Value} (r : RelV x u) : absV u = some x := by
  cases x with
  | non => cases r; rfl
  | bl _ => cases r; rfl
  | int _ => obtain ⟨t, rfl⟩ := r; rfl
  | str _ => obtain ⟨t, rfl⟩ := r; rfl
  | byt _ => obtain ⟨t, rfl⟩ := r; rfl
  | flt _ => obtain ⟨t, rfl⟩ := r; rfl
  | ref _ => cases r; rfl
  | ty _ => cases r; rfl
theorem RelV.inj {x y : V} {u : Value} (r : RelV x u) (q : RelV y u) : x = y := Option.some.inj (r.abs.symm.trans q.abs)
theorem Vals.inj : ∀ {xs ys : List V} {us : List Value}, Vals xs us → Vals ys us → xs = ys
  | _, _, _, .nil, .nil => rfl
  | _, _, _, .cons r t, .cons r' t' => by rw [r.inj r', Vals.inj t t']
section
variable {X : Cx} {pins : List (Addr × Obj)} {σ : St} {H : Hp} {s : Shared} {a : Addr} {xs ys : List V}
theorem Inv.list (I : Inv X pins σ H s) (h : SqL X.K H a xs) : ∃ its : List Value, Vals xs its ∧ PlainL s.heap a its.toArray ∧ xs.length ≤ sizeLine := by
  rcases h with h | ⟨o, its, n, hk, hc, hd, hs, hz, r⟩
  · obtain ⟨z, its, n, r, e⟩ := h.ok I.hok
    exact ⟨its, r, ⟨_, n, e, rfl, rfl, rfl⟩, z⟩
  · refine ⟨its.toList, r, ⟨o, n, I.kIn a o hk, hc, hd, by simpa using hs⟩, ?_⟩
    have e := r.length
    simp only [Array.length_toList] at e
    omega
theorem Inv.tuple (I : Inv X pins σ H s) (h : SqT X.K H a xs) : ∃ its : List Value, Vals xs its ∧ IsTup s.heap a its.toArray ∧ xs.length ≤ sizeLine := by
  rcases h with h | ⟨o, its, n, hk, hc, hs, hz, r⟩
  · obtain ⟨z, its, r, p⟩ := h.ok I.hok
    exact ⟨its, r, p, z⟩
  · refine ⟨its.toList, r, ⟨o, I.kIn a o hk, hc, n, by simpa using hs⟩, ?_⟩
    have e := r.length
    simp only [Array.length_toList] at e
    omega
theorem Inv.list_inj (I : Inv X pins σ H s) (h : SqL X.K H a xs) (h' : SqL X.K H a ys) : xs = ys := by
  obtain ⟨its, r, ⟨o, n, e, _, _, d⟩, _⟩ := I.list h
  obtain ⟨its', r', ⟨o', n', e', _, _, d'⟩, _⟩ := I.list h'
  rw [e] at e'; cases e'
  rw [d] at d'
  injection d' with d1 _
  have : its = its' := by simpa using congrArg Array.toList d1
  subst this
  exact r.inj r'
theorem Inv.tuple_inj (I : Inv X pins σ H s) (h : SqT X.K H a xs) (h' : SqT X.K H a ys) : xs = ys := by
  obtain ⟨its, r, ⟨o, e, _, n, d⟩, _⟩ := I.tuple h
  obtain ⟨its', r', ⟨o', e', _, n', d'⟩, _⟩ := I.tuple h'
  rw [e] at e'; cases e'
  rw [d] at d'
  injection d' with d1 _
  have : its = its' := by simpa using congrArg Array.toList d1
  subst this
  exact r.inj r'
end

/-! ### another wish about exceptions -/
noncomputable abbrev Cx.wish (X : Cx) (E : Value → Shared → Prop) : Cx := { X with xe := E }
noncomputable abbrev Cx.nox (X : Cx) : Cx := X.wish fun _ _ => False
theorem Cx.Ok.wish {X : Cx} (ok : X.Ok) (E : Value → Shared → Prop) : (X.wish E).Ok :=
  ⟨ok.mod, ok.kind, ok.glob, ok.blt, ok.above, ok.inj, ok.has, ok.cab, ok.hd, ok.frames, ok.stk, ok.exf, ok.bs, ok.bsz, ok.noex, ok.exfs, ok.funs, ok.frf⟩
theorem Cx.Ok.unwish {X : Cx} {E : Value → Shared → Prop} (ok : (X.wish E).Ok) : X.Ok :=
  ⟨ok.mod, ok.kind, ok.glob, ok.blt, ok.above, ok.inj, ok.has, ok.cab, ok.hd, ok.frames, ok.stk, ok.exf, ok.bs, ok.bsz, ok.noex, ok.exfs, ok.funs, ok.frf⟩
section
variable {X : Cx} {pins : List (Addr × Obj)} {σ : St} {H : Hp} {s : Shared} {E : Value → Shared → Prop}
theorem Inv.wish (I : Inv X pins σ H s) (E : Value → Shared → Prop) : Inv (X.wish E) pins σ H s := ⟨I.ok.wish E, I.os, I.bare, I.base, I.loc, I.cell, I.free, I.freeC, I.pin, I.hok, I.len⟩
theorem Inv.unwish (I : Inv (X.wish E) pins σ H s) : Inv X pins σ H s := ⟨I.ok.unwish, I.os, I.bare, I.base, I.loc, I.cell, I.free, I.freeC, I.pin, I.hok, I.len⟩
theorem SP.unwish {D : Ends} {f : Flow} {s' : Shared} (h : SP (X.wish E) pins D f s') : SP X pins D f s' := by
  cases f with
  | next => obtain ⟨σ', H', I, q⟩ := h; exact ⟨σ', H', I.unwish, q⟩
  | brk => obtain ⟨σ', H', I, q⟩ := h; exact ⟨σ', H', I.unwish, q⟩
  | cont => obtain ⟨σ', H', I, q⟩ := h; exact ⟨σ', H', I.unwish, q⟩
  | ret u => obtain ⟨v, σ', H', I, r, q⟩ := h; exact ⟨v, σ', H', I.unwish, r, q⟩
theorem PSs.nox {st : List Stmt} {t : TS} (h : PSs X.nox st t) : PSs X st t := fun pins s σ H D I hw =>
  wpAny_mono (h pins s σ H D (I.wish _) hw) (fun _ _ q => q.unwish) fun _ _ z => False.elim z
end

/-! ### blocks and small statements -/
section
variable {X : Cx} {st : Stmt} {rest : List Stmt} {t u : TS} {e : Expr} {te : TE} {pos : Pos}
noncomputable def tNext : TS := fun D σ H => D.nx σ H
noncomputable def tSeq (t u : TS) : TS := fun D σ H => t { D with nx := u D } σ H
theorem pss_nil : PSs X [] tNext := fun _ _ σ H _ I h => wpAny_execs_nil ⟨σ, H, I, h⟩
theorem pss_cons (h1 : PS X st t) (h2 : PSs X rest u) : PSs X (st :: rest) (tSeq t u) := by
  intro pins s σ H D I h
  refine wpAny_execs_cons (thn (h1 pins s σ H { D with nx := u D } I h) fun f s1 q => ?_)
  cases f with
  | next =>
    obtain ⟨σ', H', I', q⟩ := q
    exact h2 pins s1 σ' H' D I' q
  | ret v => exact q
  | brk => exact q
  | cont => exact q
theorem pss_one (h1 : PS X st t) : PSs X [st] t := by
  intro pins s σ H D I h
  refine wpAny_execs_cons (thn (h1 pins s σ H D I h) fun f s1 q => ?_)
  cases f with
  | next => exact wpAny_execs_nil q
  | ret v => exact q
  | brk => exact q
  | cont => exact q
noncomputable def tBreak : TS := fun D σ H => D.bk σ H
noncomputable def tCont : TS := fun D σ H => D.ct σ H
theorem Inv.quiet {pins : List (Addr × Obj)} {σ : St} {H : Hp} {s : Shared} (I : Inv X pins σ H s) : interactive X.env = false := by simp [interactive, I.ok.kind]
noncomputable def tDrop (te : TE) : TS := fun D σ H => te σ H fun _ H1 => D.nx σ H1
theorem ps_expr (he : PE X e te) (hs : swapsWith e none pos.line X.env = pure false := by rfl) : PS X (.Expr e pos) (tDrop te) := by
  intro pins s σ H D I h
  exact wpAny_Expr_any (thn (he pins s σ H _ I h) fun v s1 ⟨x, H1, I1, r1, q1⟩ => ⟨σ, H1, I1, q1⟩) I.quiet hs
noncomputable def tRet (te : TE) : TS := fun D σ H => te σ H D.rt
theorem ps_ret (he : PE X e te) : PS X (.Return (some e) pos) (tRet te) := by
  intro pins s σ H D I h
  exact wpAny_Return_some (thn (he pins s σ H _ I h) fun v s1 ⟨x, H1, I1, r1, q1⟩ => ⟨x, σ, H1, I1, r1, q1⟩)
noncomputable def tRetN : TS := fun D _ H => D.rt .non H
noncomputable def tIfS (c : TT) (t u : TS) : TS := fun D σ H => c σ H fun b H1 => if b = true then t D σ H1 else u D σ H1
theorem ps_if {c : Expr} {a b : List Stmt} {tc : TT} (hc : PT X c tc) (ha : PSs X a t) (hb : PSs X b u) : PS X (.If c a b pos) (tIfS tc t u) := by
  intro pins s σ H D I h
  refine wpAny_If (thn (hc pins s σ H _ I h) fun d s1 ⟨H1, I1, q1⟩ => ?_)
  cases d with
  | true => exact ha pins s1 σ H1 D I1 q1
  | false => exact hb pins s1 σ H1 D I1 q1
noncomputable def tNever : TS := fun _ _ _ => False
end

/-! ### targets -/
noncomputable abbrev TG := V → St → Hp → (St → Hp → Prop) → Prop
noncomputable abbrev TGs := List V → St → Hp → (St → Hp → Prop) → Prop
noncomputable def PG (X : Cx) (target : Expr) (t : TG) : Prop :=
  ∀ (pins : List (Addr × Obj)) (s : Shared) (σ : St) (H : Hp) (v : V) (u : Value) (Q : St → Hp → Prop), Inv X pins σ H s → RelV v u → t v σ H Q →
    wpAny (model X.prog X.w) X.A (assign target X.env u) (fun _ s' => ∃ σ' H', Inv X pins σ' H' s' ∧ Q σ' H') X.xe s
noncomputable def PGs (X : Cx) (ts : List Expr) (t : TGs) : Prop :=
  ∀ (pins : List (Addr × Obj)) (s : Shared) (σ : St) (H : Hp) (vs : List V) (us : List Value) (Q : St → Hp → Prop), Inv X pins σ H s → Vals vs us → t vs σ H Q →
    wpAny (model X.prog X.w) X.A (assignInOrder ((assignEach ts X.env).map (·.2)) us) (fun _ s' => ∃ σ' H', Inv X pins σ' H' s' ∧ Q σ' H') X.xe s
noncomputable abbrev TSet := V → V → V → Hp → (Hp → Prop) → Prop
noncomputable def PSet (X : Cx) (t : TSet) : Prop :=
  ∀ (pins : List (Addr × Obj)) (s : Shared) (σ : St) (H : Hp) (o i v : V) (ov iv u : Value) (Q : Hp → Prop), Inv X pins σ H s → RelV o ov → RelV i iv → RelV v u → t o i v H Q →
    wpAny (model X.prog X.w) X.A (setItem ov iv u) (fun _ s' => ∃ H', Inv X pins σ H' s' ∧ Q H') X.xe s
noncomputable abbrev TIp := V → V → Hp → VK → Prop
noncomputable def PIp (X : Cx) (op : Operator) (t : TIp) : Prop :=
  ∀ (pins : List (Addr × Obj)) (s : Shared) (σ : St) (H : Hp) (x y : V) (v u : Value) (Q : VK), Inv X pins σ H s → RelV x v → RelV y u → t x y H Q →
    wpAny (model X.prog X.w) X.A (inplaceOp op v u) (EP X pins σ Q) X.xe s
section
variable {X : Cx} {pos : Pos}
noncomputable def gName (i : Nat) : TG := fun v σ H Q => Q (σ.set i (some v)) H
theorem pg_name {i : Nat} {x : Str} (hN : X.N.Nodup) (hi : X.N[i]? = some x) (hx : Loc X.env.scope x) (hf : X.fn x = true ∨ X.env.scope.names.lookup x = some .local := by first | exact .inl rfl | exact .inr rfl | assumption) : PG X (.Name x pos) (gName i) := by
  intro pins s σ H v u Q I r h
  exact wpAny_assign_Name (store_ok I hN hi hx r (fun s' I' => ⟨_, H, I', h⟩) hf)
noncomputable def gNil : TGs := fun vs σ H Q => vs = [] ∧ Q σ H
noncomputable def gCons (t : TG) (u : TGs) : TGs := fun vs σ H Q => ∃ v r, vs = v :: r ∧ t v σ H fun σ' H' => u r σ' H' Q
theorem pgs_nil : PGs X [] gNil := by
  intro pins s σ H vs us Q I r h
  obtain ⟨e, h⟩ := h
  subst e
  cases r
  exact assignInOrder_nil ⟨σ, H, I, h⟩
theorem pgs_cons {e : Expr} {es : List Expr} {t : TG} {u : TGs} (h1 : PG X e t) (h2 : PGs X es u)
    (hs : (assignEach (e :: es) X.env).map (·.2) = assign e X.env :: (assignEach es X.env).map (·.2) := by rfl) : PGs X (e :: es) (gCons t u) := by
  intro pins s σ H vs us Q I r h
  obtain ⟨v, vr, e1, h⟩ := h
  subst e1
  cases r with
  | cons r rr =>
    rw [hs]
    refine assignInOrder_cons (thn (h1 pins s σ H _ _ _ I r h) fun _ s1 ⟨σ1, H1, I1, q1⟩ => ?_)
    exact h2 pins s1 σ1 H1 _ _ Q I1 rr q1
noncomputable def gTup (K : PySem.W.Frag) (n : Nat) (t : TGs) : TG := fun v σ H Q => ∃ a xs, v = .ref a ∧ SqT K H a xs ∧ xs.length = n ∧ t xs σ H Q
theorem pg_tup {es : List Expr} {k : Nat} {t : TGs} {n : Nat} (hc : X.calm = true) (h : PGs X es t)
    (hn : (assignEach es X.env).length = n := by rfl) (hst : (assignEach es X.env).findIdx? (·.1) = none := by rfl) : PG X (.Tuple es k pos) (gTup X.K n t) := by
  intro pins s σ H v u Q I r hw
  obtain ⟨a, xs, e1, hq, hl, hw⟩ := hw
  subst e1
  cases r
  obtain ⟨its, rv, ht, hz⟩ := I.tuple hq
  refine assign_Tuple_tuple (I.ok.hd hc) ht (by simp [hn, ← hl, rv.length]) hst fun h' hx => ?_
  have I1 : Inv X pins σ H { s with heap := h' } := I.kept (t' := s.toks) fun b o e => hx b o (Nat.ne_of_lt (Heap.lt_size e)) e
  exact h pins _ σ H xs _ Q I1 (by simpa using rv) hw
noncomputable def gSub (to ti : TE) (t : TSet) : TG := fun v σ H Q => to σ H fun o H1 => ti σ H1 fun i H2 => t o i v H2 fun H3 => Q σ H3
noncomputable def tAsg (te : TE) (g : TG) : TS := fun D σ H => te σ H fun x H1 => g x σ H1 D.nx
theorem ps_set {i : Nat} {x : Str} {e : Expr} {te : TE} {pos' : Pos} (hN : X.N.Nodup) (hi : X.N[i]? = some x) (hx : Loc X.env.scope x) (he : PE X e te) (hs : swapsWith e (some (.Name x pos')) pos.line X.env = pure false := by rfl) (hf : X.fn x = true ∨ X.env.scope.names.lookup x = some .local := by first | exact .inl rfl | exact .inr rfl | assumption) :
    PS X (.Assign [.Name x pos'] e pos) (tAsg te (gName i)) := by
  intro pins s σ H D I h
  refine wpAny_Assign_Name (thn (he pins s σ H _ I h) fun v s1 ⟨y, H1, I1, r1, q1⟩ => ?_) hs
  exact store_ok I1 hN hi hx r1 (fun s2 I2 => ⟨_, H1, I2, q1⟩) hf
noncomputable def tPar (i j : Nat) (ta : TA) : TS := fun D σ H => ta σ H fun vs H1 => ∃ v w, vs = [v, w] ∧ D.nx ((σ.set i (some v)).set j (some w)) H1
noncomputable def tAug (i : Nat) (te : TE) (ti : TIp) : TS := fun D σ H => ∃ x, σ[i]? = some (some x) ∧ te σ H fun y H1 => ti x y H1 fun z H2 => D.nx (σ.set i (some z)) H2
noncomputable def tAugS (to ti te : TE) (tget : V → V → Hp → VK → Prop) (tip : TIp) (tset : TSet) : TS := fun D σ H => to σ H fun o H1 => ti σ H1 fun i H2 => tget o i H2 fun x H3 => te σ H3 fun y H4 => tip x y H4 fun z H5 => tset o i z H5 fun H6 => D.nx σ H6
noncomputable def PGet (X : Cx) (t : V → V → Hp → VK → Prop) : Prop :=
  ∀ (pins : List (Addr × Obj)) (s : Shared) (σ : St) (H : Hp) (o i : V) (ov iv : Value) (Q : VK), Inv X pins σ H s → RelV o ov → RelV i iv → t o i H Q →
    wpAny (model X.prog X.w) X.A (getItem ov iv) (EP X pins σ Q) X.xe s
noncomputable def ipI (f : Int → Int → Int) : TIp := fun x y H Q => ∃ i j, x = .int i ∧ y = .int j ∧ Q (.int (f i j)) H
end

/-! ### while -/
section
variable {X : Cx} {pos : Pos}
noncomputable def tWhile (c : TT) (tb : TS) : TS := fun D σ H => ∃ W : Nat → St → Hp → Prop, (∃ m, W m σ H) ∧ ∀ m σ H, W m σ H →
  c σ H fun b H1 => if b = true then ∃ N : St → Hp → Prop, (∀ σ' H', N σ' H' → ∃ m', m' < m ∧ W m' σ' H') ∧ tb { D with nx := N, ct := N, bk := D.nx } σ H1 else D.nx σ H1
end

/-! ### what a loop or a comprehension walks -/
structure It where
  go : Nat → Hp → Prop
  yld : Nat → Hp → V → Hp → Prop
  stop : Nat → Hp → Prop
noncomputable def FpOk (X : Cx) (pins : List (Addr × Obj)) (H : Hp) (b : Addr) : Prop :=
  H b = none ∧ b ≠ X.env.locals ∧ b ∉ X.fs ∧ (b ∈ X.ex ∨ X.s₀.heap.objs.size ≤ b) ∧ (∀ x c, X.env.cells.lookup x = some c → c ≠ b) ∧ ∀ p ∈ X.pn ++ pins, p.1 ≠ b
theorem Inv.fpOk {X : Cx} {pins : List (Addr × Obj)} {σ : St} {H H' : Hp} {s : Shared} {b : Addr} (I : Inv X pins σ H s) (hb : s.heap.objs.size ≤ b) (hn : H' b = none) : FpOk X pins H' b := by
  refine ⟨hn, Nat.ne_of_gt (Nat.lt_of_lt_of_le I.lt hb), I.nofs hb, .inr (Nat.le_trans I.sz hb), fun x c e z => ?_, fun p hp z => ?_⟩
  · obtain ⟨v, q⟩ := I.cell x c e
    exact absurd (Nat.lt_of_lt_of_le q.lt (by rw [z]; exact hb)) (Nat.lt_irrefl _)
  · exact absurd (Nat.lt_of_lt_of_le (Heap.lt_size (I.pin p hp).1) (by rw [z]; exact hb)) (Nat.lt_irrefl _)
structure Turn (P : Program) (w : World) (K : PySem.W.Frag) (tg : Expr) (J : It) (fp : List Addr) (it : Addr) (tn : Nat → Heap → Prop) : Prop where
  mem : it ∈ fp
  obj : ∀ i h, tn i h → ∀ b ∈ fp, ∃ o, h.get? b = some o ∧ ∀ v, o.data ≠ .cell v
  keep : ∀ i h h', tn i h → (∀ b ∈ fp, ∀ o, h.get? b = some o → h'.get? b = some o) → tn i h'
  item : ∀ (X : Cx), X.prog = P → X.w = w → X.K = K → X.calm = true → ∀ (i : Nat) (pins : List (Addr × Obj)) (s : Shared) (σ : St) (H : Hp) (E : Value → Shared → Prop), Inv X pins σ H s → (∀ b ∈ fp, FpOk X pins H b) → tn i s.heap → J.go i H →
    wpAny (model P w) X.A (pyNext (.ref it)) (fun r s1 => ∃ u, r = some u ∧
      wpAny (model P w) X.A (letOwnedTupleGo tg (.ref it) u) (fun _ s2 => ∃ x H', Inv X pins σ H' s2 ∧ RelV x u ∧ J.yld i H x H' ∧ tn (i + 1) s2.heap ∧ ∀ b ∈ fp, H' b = none) E s1) E s
  done : ∀ (X : Cx), X.prog = P → X.w = w → X.K = K → X.calm = true → ∀ (i : Nat) (pins : List (Addr × Obj)) (s : Shared) (σ : St) (H : Hp) (E : Value → Shared → Prop), Inv X pins σ H s → (∀ b ∈ fp, FpOk X pins H b) → tn i s.heap → J.stop i H →
    wpAny (model P w) X.A (pyNext (.ref it)) (fun r s1 => r = none ∧ Inv X pins σ H s1) E s
  self : ∀ (A : Around) (i : Nat) (s : Shared) (Q : Value → Shared → Prop) (E : Value → Shared → Prop), tn i s.heap → Q (.ref it) s → wpAny (model P w) A (pyIter (.ref it)) Q E s
noncomputable abbrev TI := St → Hp → (It → Hp → Prop) → Prop
noncomputable def PIE (X : Cx) (pins : List (Addr × Obj)) (σ : St) (tg : Expr) (R : It → Hp → Prop) (itv : Value) (s2 : Shared) : Prop :=
  ∃ (it : Addr) (fp : List Addr) (tn : Nat → Heap → Prop) (J : It) (H' : Hp), itv = .ref it ∧ Inv X pins σ H' s2 ∧ Turn X.prog X.w X.K tg J fp it tn ∧ tn 0 s2.heap ∧ (∀ b ∈ fp, FpOk X pins H' b) ∧ R J H'
noncomputable def PI (X : Cx) (tg iter : Expr) (wi : TI) : Prop :=
  ∀ (pins : List (Addr × Obj)) (s : Shared) (σ : St) (H : Hp) (R : It → Hp → Prop), Inv X pins σ H s → wi σ H R →
    wpAny (model X.prog X.w) X.A (eval iter X.env) (fun v s1 => wpAny (model X.prog X.w) X.A (pyIter v) (PIE X pins σ tg R) X.xe s1) X.xe s

theorem go_of {M : Model} {A : Around} {E : Value → Shared → Prop} {s : Shared} {tg : Expr} {it : Addr} {u : Value} {o : Obj} {n : String} {vs : Array Value} {Q : Unit → Shared → Prop} (ho : s.heap.get? it = some o) (hc : o.cls = .type n) (hd : o.data = .fields vs)
    (hn : ["enumerate", "zip", "dict_itemiterator", "dict_reverseitemiterator", "odict_iterator", "itertools.zip_longest", "itertools.pairwise"].contains n = false) (hQ : Q () s) : wpAny M A (letOwnedTupleGo tg (.ref it) u) Q E s := by
  unfold letOwnedTupleGo
  cases tg <;> first
    | exact wpAny_pure hQ
    | (cases u <;> first
        | exact wpAny_pure hQ
        | (refine wpAny_bind (wpAny_load ho ?_)
           rw [hc, hd]
           show wpAny M A (if (["enumerate", "zip", "dict_itemiterator", "dict_reverseitemiterator", "odict_iterator", "itertools.zip_longest", "itertools.pairwise"].contains n && vs[0]? == some (rawInt _)) = true then _ else _) Q E s
           rw [if_neg (by intro h; rw [hn, Bool.false_and] at h; cases h)]
           exact wpAny_pure hQ))

noncomputable def Itl (K : PySem.W.Frag) (a : Addr) : It :=
  ⟨fun i H => ∃ xs x, SqL K H a xs ∧ xs[i]? = some x, fun i H x H' => H' = H ∧ ∀ xs, SqL K H a xs → xs[i]? = some x, fun i H => ∃ xs, SqL K H a xs ∧ xs.length ≤ i⟩
noncomputable def Itt (K : PySem.W.Frag) (a : Addr) : It :=
  ⟨fun i H => ∃ xs x, SqT K H a xs ∧ xs[i]? = some x, fun i H x H' => H' = H ∧ ∀ xs, SqT K H a xs → xs[i]? = some x, fun i H => ∃ xs, SqT K H a xs ∧ xs.length ≤ i⟩
noncomputable def Itr (lo : Int) (n : Nat) : It := ⟨fun i _ => i < n, fun i H x H' => H' = H ∧ x = .int (lo + i), fun i _ => n ≤ i⟩
theorem turn_list {P : Program} {w : World} {K : PySem.W.Frag} {tg : Expr} (a it : Addr) : Turn P w K tg (Itl K a) [it] it (fun i h => h.IsListIter it a i) where
  mem := by simp
  obj := fun i h st b hb => by
    have e : b = it := by simpa using hb
    subst e
    obtain ⟨o, e, c, d⟩ := st
    exact ⟨o, e, fun v z => by rw [d] at z; cases z⟩
  keep := fun i h h' st k => st.at fun o e => k it (by simp) o e
  item := by
    intro X hP hw hK hc i pins s σ H E I hf st hg
    subst hP hw hK
    obtain ⟨xs, x, hq, hx⟩ := hg
    obtain ⟨its, rv, p, hz⟩ := I.list hq
    obtain ⟨u, hu, ru⟩ := rv.get hx
    obtain ⟨f0, f1, f2, f3, f4, f5⟩ := hf it (by simp)
    refine wpAny_pyNext_list_item st p.isList (x := u) (by simpa using hu) fun h' st' sb => ?_
    have I1 : Inv X pins σ H { s with heap := h' } := I.turned (t' := s.toks) (fun b o hb e => (sb.2 b hb).trans e) f0 f1 f3 f4 f5
    obtain ⟨o, e, c, d⟩ := id st'
    exact ⟨u, rfl, go_of (s := { s with heap := h' }) e c d (by decide) ⟨x, H, I1, ru, ⟨rfl, fun ys hy => by rw [I.list_inj hy hq]; exact hx⟩, st', fun b hb => (hf b hb).1⟩⟩
  done := by
    intro X hP hw hK hc i pins s σ H E I hf st hg
    subst hP hw hK
    obtain ⟨xs, hq, hx⟩ := hg
    obtain ⟨its, rv, p, hz⟩ := I.list hq
    obtain ⟨f0, f1, f2, f3, f4, f5⟩ := hf it (by simp)
    have hl := rv.length
    exact wpAny_pyNext_list_end (I.ok.hd hc) st p.isList (by simp; omega) fun h' eb => ⟨rfl, I.turned (t' := s.toks) (fun b o hb e => eb b o hb e) f0 f1 f3 f4 f5⟩
  self := fun _ _ _ _ _ st h => wpAny_pyIter_listiter st h
theorem turn_tuple {P : Program} {w : World} {K : PySem.W.Frag} {tg : Expr} (a it : Addr) : Turn P w K tg (Itt K a) [it] it (fun i h => h.IsTupleIter it a i) where
  mem := by simp
  obj := fun i h st b hb => by
    have e : b = it := by simpa using hb
    subst e
    obtain ⟨o, e, c, d⟩ := st
    exact ⟨o, e, fun v z => by rw [d] at z; cases z⟩
  keep := fun i h h' st k => st.at fun o e => k it (by simp) o e
  item := by
    intro X hP hw hK hc i pins s σ H E I hf st hg
    subst hP hw hK
    obtain ⟨xs, x, hq, hx⟩ := hg
    obtain ⟨its, rv, p, hz⟩ := I.tuple hq
    obtain ⟨u, hu, ru⟩ := rv.get hx
    obtain ⟨f0, f1, f2, f3, f4, f5⟩ := hf it (by simp)
    refine wpAny_pyNext_tuple_item st (show s.heap.IsTuple a its.toArray from p) (x := u) (by simpa using hu) fun h' st' sb => ?_
    have I1 : Inv X pins σ H { s with heap := h' } := I.turned (t' := s.toks) (fun b o hb e => (sb.2 b hb).trans e) f0 f1 f3 f4 f5
    obtain ⟨o, e, c, d⟩ := id st'
    exact ⟨u, rfl, go_of (s := { s with heap := h' }) e c d (by decide) ⟨x, H, I1, ru, ⟨rfl, fun ys hy => by rw [I.tuple_inj hy hq]; exact hx⟩, st', fun b hb => (hf b hb).1⟩⟩
  done := by
    intro X hP hw hK hc i pins s σ H E I hf st hg
    subst hP hw hK
    obtain ⟨xs, hq, hx⟩ := hg
    obtain ⟨its, rv, p, hz⟩ := I.tuple hq
    obtain ⟨f0, f1, f2, f3, f4, f5⟩ := hf it (by simp)
    have hl := rv.length
    exact wpAny_pyNext_tuple_end (I.ok.hd hc) st (show s.heap.IsTuple a its.toArray from p) (by simp; omega) fun h' eb => ⟨rfl, I.turned (t' := s.toks) (fun b o hb e => eb b o hb e) f0 f1 f3 f4 f5⟩
  self := fun _ _ _ _ _ st h => wpAny_pyIter_tupleiter st h
theorem turn_range {P : Program} {w : World} {K : PySem.W.Frag} {tg : Expr} (it : Addr) (lo : Int) (n : Nat) : Turn P w K tg (Itr lo n) [it] it (fun i h => IsRangeIter h it (lo + (i : Nat) * 1) ((n : Int) - (i : Nat)) 1) where
  mem := by simp
  obj := fun i h st b hb => by
    have e : b = it := by simpa using hb
    subst e
    exact ⟨_, st, fun v z => by
      have z' : Data.fields _ = Data.cell v := z
      cases z'⟩
  keep := fun i h h' st k => k it (by simp) _ st
  item := by
    intro X hP hw hK hc i pins s σ H E I hf st hg
    subst hP hw hK
    obtain ⟨f0, f1, f2, f3, f4, f5⟩ := hf it (by simp)
    have W := Walks.range (prog := X.prog) (w := X.w) (I.ok.hd hc) it lo 1 n
    refine W.item i s _ _ hg st fun v h' tk hv st' kk => ?_
    obtain ⟨t, rfl⟩ := hv
    have I1 : Inv X pins σ H { s with heap := h', toks := tk } := I.turned (fun b o hb e => kk b o (by simpa using hb) e) f0 f1 f3 f4 f5
    refine ⟨_, rfl, go_of (s := { s with heap := h', toks := tk }) (n := "range_iterator") st' rfl rfl (by decide) ⟨.int (lo + i), H, I1, ⟨t, ?_⟩, ⟨rfl, rfl⟩, st', fun b hb => (hf b hb).1⟩⟩
    rw [Int.mul_one]
  done := by
    intro X hP hw hK hc i pins s σ H E I hf st hg
    subst hP hw hK
    obtain ⟨f0, f1, f2, f3, f4, f5⟩ := hf it (by simp)
    exact wpAny_pyNext_range_end (I.ok.hd hc) st (by have : n ≤ i := hg; omega) fun h' eb => ⟨rfl, I.turned (t' := s.toks) (fun b o hb e => eb b o hb e) f0 f1 f3 f4 f5⟩
  self := fun _ _ _ _ _ st h => wpAny_pyIter_rangeiter st h
end L2

namespace L2
open PySem PySem.Spec PyProof.Rows
section
variable {X : Cx} {tg : Expr}
noncomputable def iList (K : PySem.W.Frag) (tl : TE) : TI := fun σ H R => tl σ H fun x H1 => ∃ a, x = .ref a ∧ (∃ xs, SqL K H1 a xs) ∧ R (Itl K a) H1
noncomputable def iTup (K : PySem.W.Frag) (tl : TE) : TI := fun σ H R => tl σ H fun x H1 => ∃ a, x = .ref a ∧ (∃ xs, SqT K H1 a xs) ∧ R (Itt K a) H1
theorem range_it {pins : List (Addr × Obj)} {σ : St} {H : Hp} {s : Shared} {R : It → Hp → Prop} {E : Value → Shared → Prop} {lo hi : Int} {t u v : Tok} {tk : Nat} (I : Inv X pins σ H s) (h1 : -(2 ^ 62) ≤ lo) (h2 : lo < 2 ^ 62) (h3 : -(2 ^ 62) ≤ hi) (h4 : hi < 2 ^ 62)
    (q : R (Itr lo (hi - lo).toNat) H) : wpAny (model X.prog X.w) X.A (pyIter (.ref s.heap.objs.size)) (PIE X pins σ tg R) E { s with heap := s.heap.push { cls := .type "range", data := .fields #[.int lo t, .int hi u, .int 1 v] }, toks := tk } := by
  refine wpAny_pyIter_range (IsRange.new ..) (small_one h1 h2 h3 h4) ?_
  have I1 : Inv X pins σ H { s with heap := s.heap.push { cls := .type "range", data := .fields #[.int lo t, .int hi u, .int 1 v] }, toks := tk } := I.kept fun b o e => Heap.get?_push_of_some _ e
  refine ⟨(s.heap.push { cls := .type "range", data := .fields #[.int lo t, .int hi u, .int 1 v] }).objs.size, [(s.heap.push { cls := .type "range", data := .fields #[.int lo t, .int hi u, .int 1 v] }).objs.size], _, _, H, rfl,
    I1.kept (t' := tk) fun b o e => Heap.get?_push_of_some _ e, turn_range _ lo (hi - lo).toNat, ?_, fun b hb => ?_, q⟩
  · have e1 : lo + ((0 : Nat) : Int) * 1 = lo := by simp
    have e2 : (((hi - lo).toNat : Nat) : Int) - ((0 : Nat) : Int) = Builtin.Range.rangeSize lo hi 1 := by rw [rangeSize_one]; split <;> omega
    show IsRangeIter _ _ (lo + ((0 : Nat) : Int) * 1) ((((hi - lo).toNat : Nat) : Int) - ((0 : Nat) : Int)) 1
    rw [e1, e2]
    exact Heap.get?_push_size _ rfl
  · have e : b = (s.heap.push { cls := .type "range", data := .fields #[.int lo t, .int hi u, .int 1 v] }).objs.size := by simpa using hb
    subst e
    exact I1.fpOk (Nat.le_refl _) (I1.hok.fresh (Nat.le_refl _))
noncomputable def iRng1 (ta : TA) : TI := fun σ H R => ta σ H fun vs H1 => ∃ j : Int, vs = [.int j] ∧ -(2 ^ 62) ≤ j ∧ j < 2 ^ 62 ∧ R (Itr 0 j.toNat) H1
noncomputable def iRng2 (ta : TA) : TI := fun σ H R => ta σ H fun vs H1 => ∃ i j : Int, vs = [.int i, .int j] ∧ (-(2 ^ 62) ≤ i ∧ i < 2 ^ 62 ∧ -(2 ^ 62) ≤ j ∧ j < 2 ^ 62) ∧ R (Itr i (j - i).toNat) H1
theorem pi_range1 {a : Expr} {ta : TA} {p pos : Pos} (hg : Gl X "range") (hm : X.mg "range" = none) (ha : PA X [a] ta) (hs : starEach [a] X.env = [(false, eval a X.env)] := by rfl) : PI X tg (.Call (.Name "range" p) [a] [] pos) (iRng1 ta) := by
  intro pins s σ H R I h
  refine Call_ (ld_blt I hg hm boot_range (PyProof.Rows.callWith_type1 (thn (ha pos pins s σ H _ I h) fun us s1 ⟨vs, H1, I1, r1, q1⟩ => ?_) hs rfl))
  obtain ⟨j, e, q1, q2, q⟩ := q1
  subst e
  cases r1 with
  | cons r rr =>
    cases rr
    obtain ⟨t, rfl⟩ := r
    exact call_range_1 (range_it I1 (by omega) (by omega) q1 q2 (by simpa using q))

/-! ### for -/
noncomputable def tFor (wi : TI) (g : TG) (tb : TS) : TS := fun D σ H => wi σ H fun J H1 => ∃ W : Nat → Nat → St → Hp → Prop, (∃ m, W 0 m σ H1) ∧ ∀ i m σ H, W i m σ H →
  (J.stop i H ∧ D.nx σ H) ∨ (J.go i H ∧ ∃ N : St → Hp → Prop, (∀ σ' H', N σ' H' → ∃ m', m' < m ∧ W (i + 1) m' σ' H') ∧ ∀ x H', J.yld i H x H' → g x σ H' fun σ2 H2 => tb { D with nx := N, ct := N, bk := D.nx } σ2 H2)
noncomputable def pinsAt (fp : List Addr) (h : Heap) : List (Addr × Obj) := fp.filterMap fun b => (h.get? b).map fun o => (b, o)
theorem mem_pinsAt {fp : List Addr} {h : Heap} {b : Addr} {o : Obj} (hb : b ∈ fp) (e : h.get? b = some o) : (b, o) ∈ pinsAt fp h := List.mem_filterMap.mpr ⟨b, hb, by rw [e]; rfl⟩
theorem of_pinsAt {fp : List Addr} {h : Heap} {p : Addr × Obj} (hp : p ∈ pinsAt fp h) : p.1 ∈ fp ∧ h.get? p.1 = some p.2 := by
  obtain ⟨b, hb, e⟩ := List.mem_filterMap.mp hp
  cases q : h.get? b with
  | none => rw [q] at e; cases e
  | some o =>
    rw [q] at e
    have e' : (b, o) = p := Option.some.inj e
    subst e'
    exact ⟨hb, q⟩
theorem Inv.pinned {pins : List (Addr × Obj)} {σ : St} {H : Hp} {s : Shared} {fp : List Addr} (I : Inv X pins σ H s) (hf : ∀ b ∈ fp, FpOk X pins H b) (ho : ∀ b ∈ fp, ∃ o, s.heap.get? b = some o ∧ ∀ v, o.data ≠ .cell v) : Inv X (pins ++ pinsAt fp s.heap) σ H s :=
  I.pins_of fun p hp => (List.mem_append.mp hp).elim (fun z => I.pin p (List.mem_append_right _ z)) fun z => by
    obtain ⟨hb, e⟩ := of_pinsAt z
    obtain ⟨f0, f1, f2, _⟩ := hf p.1 hb
    obtain ⟨o, e', d⟩ := ho p.1 hb
    rw [e] at e'; cases e'
    exact ⟨e, f0, f1, f2, d⟩
theorem Inv.unpinned {pins pl : List (Addr × Obj)} {σ : St} {H : Hp} {s : Shared} (I : Inv X (pins ++ pl) σ H s) : Inv X pins σ H s := I.pins_of fun p hp => I.pin p (List.mem_append_right _ (List.mem_append_left _ hp))
theorem ps_for {iter : Expr} {body : List Stmt} {wi : TI} {g : TG} {tb : TS} {pos : Pos} (hp : PassesOwn (model X.prog X.w) X.A X.env X.xe) (hc : X.calm = true) (hi : PI X tg iter wi) (hg : PG X tg g) (hb : PSs X body tb)
    (hs : ∀ x, foldedSetIterable iter X.env x = pure x := by intro _; rfl) : PS X (.For tg iter body [] pos) (tFor wi g tb) := by
  intro pins s σ H D I h
  refine wpAny_For (thn (hi pins s σ H _ I h) fun v s1 h1 => thn h1 fun itv s2 h2 => ?_) hs
  obtain ⟨it, fp, tn, J, H2, e, I2, T, st2, f2, W, ⟨m0, w0⟩, turn⟩ := h2
  subst e
  -- what stays true of the iterator's objects through the loop
  have stat : ∀ {H' : Hp}, (∀ b ∈ fp, H' b = none) → ∀ b ∈ fp, FpOk X pins H' b := fun hn b hb => ⟨hn b hb, (f2 b hb).2⟩
  refine codeAny_forLoop_any (fun n s' => ∃ i σ' H', Inv X pins σ' H' s' ∧ tn i s'.heap ∧ (∀ b ∈ fp, H' b = none) ∧ W i n σ' H') ?_ m0 ⟨0, σ, H2, I2, st2, fun b hb => (f2 b hb).1, w0⟩
  rintro n s3 ⟨i, σ3, H3, I3, st3, fr3, w3⟩
  rcases turn i n σ3 H3 w3 with ⟨stop, qn⟩ | ⟨go, N, hN, step⟩
  · refine wpAny_passesOwn hp (thn (T.done X rfl rfl rfl hc i pins s3 σ3 H3 X.xe I3 (stat fr3) st3 stop) fun r s4 ⟨hr, I4⟩ => ?_)
    subst hr
    exact wpAny_execs_nil ⟨σ3, H3, I4, qn⟩
  · refine wpAny_passesOwn hp (thn (T.item X rfl rfl rfl hc i pins s3 σ3 H3 X.xe I3 (stat fr3) st3 go) fun r s4 ⟨u, hr, h4⟩ => ?_)
    subst hr
    refine wpAny_passesOwn hp (thn h4 fun _ s5 ⟨x, H5, I5, r5, y5, st5, fr5⟩ => ?_)
    have I5' := I5.pinned (stat fr5) (T.obj _ _ st5)
    refine wpAny_passesOwn hp (thn (hg _ s5 σ3 H5 x u _ I5' r5 (step x H5 y5)) fun _ s6 ⟨σ6, H6, I6, q6⟩ => ?_)
    refine wpAny_passesOwn hp (thn (hb _ s6 σ6 H6 _ I6 q6) fun f s7 q7 => ?_)
    have again : ∀ {σ7 : St} {H7 : Hp}, Inv X (pins ++ pinsAt fp s5.heap) σ7 H7 s7 → N σ7 H7 → ∃ m, m < n ∧ ∃ i σ' H', Inv X pins σ' H' s7 ∧ tn i s7.heap ∧ (∀ b ∈ fp, H' b = none) ∧ W i m σ' H' := fun {σ7 H7} I7 n7 => by
      obtain ⟨m', hm, w7⟩ := hN σ7 H7 n7
      refine ⟨m', hm, i + 1, σ7, H7, I7.unpinned, T.keep _ _ _ st5 fun b hb o e => (I7.pin (b, o) (List.mem_append_right _ (List.mem_append_right _ (mem_pinsAt hb e)))).1, fun b hb => ?_, w7⟩
      obtain ⟨o, e, d⟩ := T.obj _ _ st5 b hb
      exact (I7.pin (b, o) (List.mem_append_right _ (List.mem_append_right _ (mem_pinsAt hb e)))).2.1
    cases f with
    | next => obtain ⟨σ7, H7, I7, n7⟩ := q7; exact again I7 n7
    | cont => obtain ⟨σ7, H7, I7, n7⟩ := q7; exact again I7 n7
    | brk => obtain ⟨σ7, H7, I7, q7⟩ := q7; exact ⟨σ7, H7, I7.unpinned, q7⟩
    | ret v => obtain ⟨x7, σ7, H7, I7, r7, q7⟩ := q7; exact ⟨x7, σ7, H7, I7.unpinned, r7, q7⟩
end

/-! ### the forms one uses -/
end L2

namespace L2
open PySem PySem.Spec PyProof.Rows

noncomputable abbrev R2 := V → V → Hp → VK → Prop
noncomputable def OpR (X : Cx) (f : Value → Value → Sem Value) (r : R2) : Prop :=
  ∀ (pins : List (Addr × Obj)) (s : Shared) (σ : St) (H : Hp) (x y : V) (v u : Value) (Q : VK), Inv X pins σ H s → RelV x v → RelV y u → r x y H Q →
    wpAny (model X.prog X.w) X.A (f v u) (EP X pins σ Q) X.xe s
noncomputable def UnR (X : Cx) (f : Value → Sem Value) (r : V → Hp → VK → Prop) : Prop :=
  ∀ (pins : List (Addr × Obj)) (s : Shared) (σ : St) (H : Hp) (x : V) (v : Value) (Q : VK), Inv X pins σ H s → RelV x v → r x H Q →
    wpAny (model X.prog X.w) X.A (f v) (EP X pins σ Q) X.xe s
noncomputable def CallR (X : Cx) (f : Value) (r : List V → Hp → VK → Prop) : Prop :=
  ∀ (pins : List (Addr × Obj)) (s : Shared) (σ : St) (H : Hp) (xs : List V) (us : List Value) (Q : VK), Inv X pins σ H s → Vals xs us → r xs H Q →
    wpAny (model X.prog X.w) X.A (call f us) (EP X pins σ Q) X.xe s
noncomputable def TruR (X : Cx) (r : V → Hp → (Bool → Hp → Prop) → Prop) : Prop :=
  ∀ (pins : List (Addr × Obj)) (s : Shared) (σ : St) (H : Hp) (x : V) (v : Value) (Q : Bool → Hp → Prop), Inv X pins σ H s → RelV x v → r x H Q →
    wpAny (model X.prog X.w) X.A (truthy v) (TP X pins σ Q) X.xe s

noncomputable def tOp (r : R2) (ta tb : TE) : TE := fun σ H Q => ta σ H fun x H1 => tb σ H1 fun y H2 => r x y H2 Q
noncomputable def tUn (r : V → Hp → VK → Prop) (ta : TE) : TE := fun σ H Q => ta σ H fun x H1 => r x H1 Q
noncomputable def rI (C : Int → Int → Prop) (g : Int → Int → V) : R2 := fun x y H Q => ∃ i j, x = .int i ∧ y = .int j ∧ C i j ∧ Q (g i j) H
noncomputable def rI0 (g : Int → Int → V) : R2 := fun x y H Q => ∃ i j, x = .int i ∧ y = .int j ∧ Q (g i j) H
noncomputable def rU (g : Int → V) : V → Hp → VK → Prop := fun x H Q => ∃ i, x = .int i ∧ Q (g i) H

section
variable {X : Cx} {a b c : Expr} {ta tb tc : TE} {pos : Pos}

theorem binT (ha : PE X a ta) (hb : PE X b tb) {pins : List (Addr × Obj)} {s : Shared} {σ : St} {H : Hp} {R : V → V → Hp → Prop} (I : Inv X pins σ H s)
    (h : ta σ H fun x H1 => tb σ H1 fun y H2 => R x y H2) {Q : Value → Shared → Prop} {f : Value → Value → Sem Value}
    (hf : ∀ v u s2 x y H2, Inv X pins σ H2 s2 → RelV x v → RelV y u → R x y H2 → wpAny (model X.prog X.w) X.A (f v u) Q X.xe s2) :
    wpAny (model X.prog X.w) X.A (eval a X.env) (fun v s₁ => wpAny (model X.prog X.w) X.A (eval b X.env) (fun u s₂ => wpAny (model X.prog X.w) X.A (f v u) Q X.xe s₂) X.xe s₁) X.xe s := by
  refine thn (ha pins s σ H _ I h) fun v s1 ⟨x, H1, I1, r1, q1⟩ => ?_
  refine thn (hb pins s1 σ H1 _ I1 q1) fun u s2 ⟨y, H2, I2, r2, q2⟩ => ?_
  exact hf v u s2 x y H2 I2 r1 r2 q2

theorem pe_op {op : Operator} {r : R2} (ho : OpR X (binaryOp op) r) (ha : PE X a ta) (hb : PE X b tb) : PE X (.BinOp a op b pos) (tOp r ta tb) := by
  intro pins s σ H Q I h
  exact wpAny_BinOp (binT ha hb I h fun v u s2 x y H2 I2 rx ry q => ho pins s2 σ H2 x y v u Q I2 rx ry q)

/-! ### ints -/
theorem opI {f : Value → Value → Sem Value} {C : Int → Int → Prop} {g : Int → Int → Int}
    (rule : ∀ (i j : Int) (t u : Tok) (s : Shared) (Q : Value → Shared → Prop) (E : Value → Shared → Prop), C i j → Q (.int (g i j) s.toks) { s with toks := s.toks + 1 } → wpAny (model X.prog X.w) X.A (f (.int i t) (.int j u)) Q E s) :
    OpR X f (rI C fun i j => .int (g i j)) := by
  intro pins s σ H x y v u Q I rx ry h
  obtain ⟨i, j, rfl, rfl, hc, q⟩ := h
  obtain ⟨t, rfl⟩ := rx
  obtain ⟨t', rfl⟩ := ry
  exact rule i j t t' s _ _ hc ⟨.int (g i j), H, I.tok _, ⟨_, rfl⟩, q⟩
theorem opI0 {f : Value → Value → Sem Value} {g : Int → Int → Int}
    (rule : ∀ (i j : Int) (t u : Tok) (s : Shared) (Q : Value → Shared → Prop) (E : Value → Shared → Prop), Q (.int (g i j) s.toks) { s with toks := s.toks + 1 } → wpAny (model X.prog X.w) X.A (f (.int i t) (.int j u)) Q E s) :
    OpR X f (rI0 fun i j => .int (g i j)) := by
  intro pins s σ H x y v u Q I rx ry h
  obtain ⟨i, j, rfl, rfl, q⟩ := h
  obtain ⟨t, rfl⟩ := rx
  obtain ⟨t', rfl⟩ := ry
  exact rule i j t t' s _ _ ⟨.int (g i j), H, I.tok _, ⟨_, rfl⟩, q⟩
theorem opB0 {f : Value → Value → Sem Value} {g : Int → Int → Bool}
    (rule : ∀ (i j : Int) (t u : Tok) (s : Shared) (Q : Value → Shared → Prop) (E : Value → Shared → Prop), Q (.bool (g i j)) s → wpAny (model X.prog X.w) X.A (f (.int i t) (.int j u)) Q E s) :
    OpR X f (rI0 fun i j => .bl (g i j)) := by
  intro pins s σ H x y v u Q I rx ry h
  obtain ⟨i, j, rfl, rfl, q⟩ := h
  obtain ⟨t, rfl⟩ := rx
  obtain ⟨t', rfl⟩ := ry
  exact rule i j t t' s _ _ ⟨.bl (g i j), H, I, rfl, q⟩

noncomputable def CDiv (i j : Int) : Prop := 0 < j ∧ j < 1073741824
noncomputable def CDivN (i j : Int) : Prop := j ≠ 0 ∧ j.natAbs < 1073741824
noncomputable def CPow (i j : Int) : Prop := 0 ≤ j ∧ j ≤ 1000000 ∧ i.natAbs < 2 ^ 64
noncomputable def CMul (i j : Int) : Prop := (-(2 ^ 64) < i ∧ i < 2 ^ 64) ∨ (-(2 ^ 64) < j ∧ j < 2 ^ 64)
theorem CMul.ok {i j : Int} (h : CMul i j) : IntMulOk i j := by
  rcases h with ⟨h1, h2⟩ | ⟨h1, h2⟩
  · exact .of_left (intBits_le_64 h1 h2)
  · exact .of_right (intBits_le_64 h1 h2)

theorem op_add : OpR X (binaryOp .Add) (rI0 fun i j => .int (i + j)) := opI0 fun _ _ _ _ _ _ _ q => add_int q
theorem op_mul : OpR X (binaryOp .Mult) (rI CMul fun i j => .int (i * j)) := opI fun _ _ _ _ _ _ _ hc q => mul_int q hc.ok
theorem op_fdiv : OpR X (binaryOp .FloorDiv) (rI CDiv fun i j => .int (i / j)) := opI fun i j _ _ _ _ _ hc q => by
  have h1 : (0 : Int) < j := hc.1
  have h2 : j < 1073741824 := hc.2
  exact floordiv_int (by omega) (by rw [Int.fdiv_eq_ediv_of_nonneg i (by omega)]; exact q) (.inl (PyProof.noPylong_small (by omega)))
theorem op_mod : OpR X (binaryOp .Mod) (rI (fun _ j => 0 < j) fun i j => .int (i % j)) := opI fun i j _ _ _ _ _ hc q => by
  have h1 : (0 : Int) < j := hc
  exact mod_int' (by omega) (by rw [Int.fmod_eq_emod_of_nonneg i (by omega)]; exact q)



/-! ### bools among ints: n += (a < b) -/
end

/-! ### comparisons -/
noncomputable def scal : V → V → Bool
  | .non, .non => true | .non, .int _ => true | .int _, .non => true | .non, .bl _ => true | .bl _, .non => true | .non, .str _ => true | .str _, .non => true
  | .int _, .int _ => true | .bl _, .bl _ => true | .str _, .str _ => true | .byt _, .byt _ => true
  | .int _, .str _ => true | .str _, .int _ => true | .bl _, .str _ => true | .str _, .bl _ => true
  | _, _ => false
noncomputable def rEq : R2 := fun x y H Q => scal x y = true ∧ Q (.bl (decide (x = y))) H
noncomputable def rNe : R2 := fun x y H Q => scal x y = true ∧ Q (.bl (!decide (x = y))) H

theorem dec_int {i j : Int} : decide (V.int i = V.int j) = (i == j) := by
  rw [Bool.eq_iff_iff]
  simp
theorem dec_bl {i j : Bool} : decide (V.bl i = V.bl j) = (i == j) := by
  rw [Bool.eq_iff_iff]
  simp
theorem dec_str {i j : Str} : decide (V.str i = V.str j) = (i == j) := by
  rw [Bool.eq_iff_iff]
  simp
theorem dec_byt {i j : Array UInt8} : decide (V.byt i = V.byt j) = (i.toList == j.toList) := by
  rw [Bool.eq_iff_iff]
  cases i
  cases j
  simp

section
variable {X : Cx} {a b c : Expr} {ta tb tc : TE} {pos : Pos}
theorem fin_bl {pins : List (Addr × Obj)} {σ : St} {H : Hp} {s : Shared} {Q : VK} {k k' : Bool} (I : Inv X pins σ H s) (q : Q (.bl k) H) (e : k = k') : EP X pins σ Q (.bool k') s := by
  subst e
  exact ⟨.bl k, H, I, rfl, q⟩
theorem op_eq : OpR X (compareOp .Eq) rEq := by
  intro pins s σ H x y v u Q I rx ry h
  obtain ⟨hs, q⟩ := h
  cases x with
  | non =>
    cases rx
    cases y with
    | non => cases ry; exact PySem.EqNone.eq_none_none (fin_bl I q (by simp))
    | bl j => cases ry; exact PySem.EqNone.eq_none_bool (fin_bl I q (by simp))
    | int j => obtain ⟨t', rfl⟩ := ry; exact PySem.EqNone.eq_none_int (fin_bl I q (by simp))
    | str j => obtain ⟨t', rfl⟩ := ry; exact PySem.EqNone.eq_none_str (fin_bl I q (by simp))
    | _ => exact absurd (show false = true from hs) Bool.false_ne_true
  | bl i =>
    cases rx
    cases y with
    | non => cases ry; exact PySem.EqNone.eq_bool_none (fin_bl I q (by simp))
    | bl j => cases ry; exact eq_bool (fin_bl I q dec_bl)
    | str j => obtain ⟨t', rfl⟩ := ry; exact PySem.EqMixed.eq_bool_str (fin_bl I q (by simp))
    | _ => exact absurd (show false = true from hs) Bool.false_ne_true
  | int i =>
    obtain ⟨t, rfl⟩ := rx
    cases y with
    | non => cases ry; exact PySem.EqNone.eq_int_none (fin_bl I q (by simp))
    | int j => obtain ⟨t', rfl⟩ := ry; exact eq_int (fin_bl I q dec_int)
    | str j => obtain ⟨t', rfl⟩ := ry; exact PySem.EqMixed.eq_int_str (fin_bl I q (by simp))
    | _ => exact absurd (show false = true from hs) Bool.false_ne_true
  | str i =>
    obtain ⟨t, rfl⟩ := rx
    cases y with
    | non => cases ry; exact PySem.EqNone.eq_str_none (fin_bl I q (by simp))
    | bl j => cases ry; exact PySem.EqMixed.eq_str_bool (fin_bl I q (by simp))
    | int j => obtain ⟨t', rfl⟩ := ry; exact PySem.EqMixed.eq_str_int (fin_bl I q (by simp))
    | str j => obtain ⟨t', rfl⟩ := ry; exact eq_str (fin_bl I q dec_str)
    | _ => exact absurd (show false = true from hs) Bool.false_ne_true
  | byt i =>
    obtain ⟨t, rfl⟩ := rx
    cases y with
    | byt j => obtain ⟨t', rfl⟩ := ry; exact PySem.W.eq_bytes (fin_bl I q dec_byt)
    | _ => exact absurd (show false = true from hs) Bool.false_ne_true
  | _ => cases y <;> exact absurd (show false = true from hs) Bool.false_ne_true
theorem op_ne : OpR X (compareOp .NotEq) rNe := by
  intro pins s σ H x y v u Q I rx ry h
  obtain ⟨hs, q⟩ := h
  cases x with
  | non =>
    cases rx
    cases y with
    | non => cases ry; exact PySem.EqNone.ne_none_none (fin_bl I q (by simp))
    | bl j => cases ry; exact PySem.EqNone.ne_none_bool (fin_bl I q (by simp))
    | int j => obtain ⟨t', rfl⟩ := ry; exact PySem.EqNone.ne_none_int (fin_bl I q (by simp))
    | str j => obtain ⟨t', rfl⟩ := ry; exact PySem.EqNone.ne_none_str (fin_bl I q (by simp))
    | _ => exact absurd (show false = true from hs) Bool.false_ne_true
  | bl i =>
    cases rx
    cases y with
    | non => cases ry; exact PySem.EqNone.ne_bool_none (fin_bl I q (by simp))
    | bl j => cases ry; exact ne_bool (fin_bl I q (congrArg not dec_bl))
    | str j => obtain ⟨t', rfl⟩ := ry; exact PySem.EqMixed.ne_bool_str (fin_bl I q (by simp))
    | _ => exact absurd (show false = true from hs) Bool.false_ne_true
  | int i =>
    obtain ⟨t, rfl⟩ := rx
    cases y with
    | non => cases ry; exact PySem.EqNone.ne_int_none (fin_bl I q (by simp))
    | int j => obtain ⟨t', rfl⟩ := ry; exact ne_int (fin_bl I q (congrArg not dec_int))
    | str j => obtain ⟨t', rfl⟩ := ry; exact PySem.EqMixed.ne_int_str (fin_bl I q (by simp))
    | _ => exact absurd (show false = true from hs) Bool.false_ne_true
  | str i =>
    obtain ⟨t, rfl⟩ := rx
    cases y with
    | non => cases ry; exact PySem.EqNone.ne_str_none (fin_bl I q (by simp))
    | bl j => cases ry; exact PySem.EqMixed.ne_str_bool (fin_bl I q (by simp))
    | int j => obtain ⟨t', rfl⟩ := ry; exact PySem.EqMixed.ne_str_int (fin_bl I q (by simp))
    | str j => obtain ⟨t', rfl⟩ := ry; exact ne_str (fin_bl I q (congrArg not dec_str))
    | _ => exact absurd (show false = true from hs) Bool.false_ne_true
  | byt i =>
    obtain ⟨t, rfl⟩ := rx
    cases y with
    | byt j => obtain ⟨t', rfl⟩ := ry; exact PySem.W.ne_bytes (fin_bl I q (congrArg not dec_byt))
    | _ => exact absurd (show false = true from hs) Bool.false_ne_true
  | _ => cases y <;> exact absurd (show false = true from hs) Bool.false_ne_true

theorem op_lt : OpR X (compareOp .Lt) (rI0 fun i j => .bl (decide (i < j))) := opB0 fun _ _ _ _ _ _ _ q => lt_int q
theorem op_le : OpR X (compareOp .LtE) (rI0 fun i j => .bl (decide (i ≤ j))) := opB0 fun _ _ _ _ _ _ _ q => le_int q
theorem op_in_str : OpR X (compareOp .In) (fun x y H Q => ∃ i j, x = .str i ∧ y = .str j ∧ Q (.bl (!(Builtin.Str.occurrences j i 0 j.length 1).isEmpty)) H) := by
  intro pins s σ H x y v u Q I rx ry h
  obtain ⟨i, j, rfl, rfl, q⟩ := h
  obtain ⟨t, rfl⟩ := rx
  obtain ⟨t', rfl⟩ := ry
  exact in_str (fin_bl I q rfl)

theorem op_isN : OpR X (compareOp .Is) (fun x y H Q => y = .non ∧ Q (.bl (decide (x = .non))) H) := by
  intro pins s σ H x y v u Q I rx ry h
  obtain ⟨rfl, q⟩ := h
  cases ry
  refine is_none_gen (fin_bl I q ?_)
  cases x <;> first
    | (cases rx; rfl)
    | (obtain ⟨t, rfl⟩ := rx; rfl)

noncomputable def isObj : HO → Bool
  | .lst _ => true
  | .ins _ _ _ => true
  | _ => false

theorem OpR.or {f : Value → Value → Sem Value} {r r' : R2} (h : OpR X f r) (h' : OpR X f r') : OpR X f (fun x y H Q => r x y H Q ∨ r' x y H Q) := by
  intro pins s σ H x y v u Q I rx ry q
  rcases q with q | q
  · exact h pins s σ H x y v u Q I rx ry q
  · exact h' pins s σ H x y v u Q I rx ry q

theorem nomark (b : Expr) {op : CmpOp} (h : op ≠ .In := by decide) (h2 : op ≠ .NotIn := by decide) : behindInMarks op b = false := by
  have e1 : (op == CmpOp.In) = false := by cases op <;> first | rfl | exact absurd rfl h
  have e2 : (op == CmpOp.NotIn) = false := by cases op <;> first | rfl | exact absurd rfl h2
  cases b <;> simp [behindInMarks, e1, e2]
theorem pe_cmpR {op : CmpOp} {r : R2} (ho : OpR X (compareOp op) r) (ha : PE X a ta) (hb : PE X b tb) (hm : behindInMarks op b = false) : PE X (.Compare a [op] [b] pos) (tOp r ta tb) := by
  intro pins s σ H Q I h
  exact wpAny_Compare1 (binT ha hb I h fun v u s2 x y H2 I2 rx ry q => ho pins s2 σ H2 x y v u Q I2 rx ry q) hm
noncomputable def tTest (t : TE) : TT := fun σ H Q => t σ H fun x H' => ∃ k, x = .bl k ∧ Q k H'
theorem pt_cmpR {op : CmpOp} {r : R2} (ho : OpR X (compareOp op) r) (ha : PE X a ta) (hb : PE X b tb) (hm : behindInMarks op b = false) : PT X (.Compare a [op] [b] pos) (tTest (tOp r ta tb)) := by
  intro pins s σ H Q I h
  refine wpAny_isTrue_Compare1 (thn (ha pins s σ H _ I h) fun v s1 ⟨x, H1, I1, r1, q1⟩ => thn (hb pins s1 σ H1 _ I1 q1) fun u s2 ⟨y, H2, I2, r2, q2⟩ =>
    thn (ho pins s2 σ H2 x y v u _ I2 r1 r2 q2) fun c s3 ⟨z, H3, I3, r3, k, e, q3⟩ => ?_) hm
  subst e
  cases r3
  exact wpAny_truthy_bool ⟨H3, I3, q3⟩
noncomputable def tChain (r r' : R2) (ta tb tc : TE) : TE := fun σ H Q => ta σ H fun x H1 => tb σ H1 fun y H2 => r x y H2 fun z H3 => ∃ k, z = .bl k ∧
  (if k = true then tc σ H3 fun w' H4 => r' y w' H4 Q else Q (.bl false) H3)
theorem pe_chain {op op' : CmpOp} {r r' : R2} (ho : OpR X (compareOp op) r) (ho' : OpR X (compareOp op') r') (ha : PE X a ta) (hb : PE X b tb) (hc : PE X c tc)
    (hm : lastMarks [op, op'] [b, c] = false := by with_unfolding_all rfl) : PE X (.Compare a [op, op'] [b, c] pos) (tChain r r' ta tb tc) := by
  intro pins s σ H Q I h
  refine Compare_chain (thn (ha pins s σ H _ I h) fun v s1 ⟨x, H1, I1, r1, q1⟩ => chain_link (thn (hb pins s1 σ H1 _ I1 q1) fun u s2 ⟨y, H2, I2, r2, q2⟩ =>
    thn (ho pins s2 σ H2 x y v u _ I2 r1 r2 q2) fun d s3 ⟨z, H3, I3, r3, k, e, q3⟩ => ?_)) hm
  subst e
  cases r3
  refine wpAny_truthy_bool ?_
  cases k with
  | false => exact ite_ff ⟨.bl false, H3, I3, rfl, q3⟩
  | true => exact ite_tt (chain_last (thn (hc pins s3 σ H3 _ I3 q3) fun w' s4 ⟨z', H4, I4, r4, q4⟩ => ho' pins s4 σ H4 y z' u w' Q I4 r2 r4 q4))

/-! ### truth -/
noncomputable def TruV (K : PySem.W.Frag) (x : V) (H : Hp) (k : Bool) : Prop :=
  match x with
  | .non => k = false
  | .bl b => k = b
  | .int i => k = (i != 0)
  | .str y => y.length ≤ sizeLine ∧ k = ((y.length : Int) != 0)
  | .byt y => y.size ≤ sizeLine ∧ k = ((y.size : Int) != 0)
  | .ref p => (∃ xs, SqL K H p xs ∧ k = !xs.isEmpty) ∨ (∃ xs, SqT K H p xs ∧ k = !xs.isEmpty) ∨ ∃ kvs, H p = some (.dK kvs) ∧ k = !kvs.isEmpty
  | _ => False
theorem line63 : (sizeLine : Nat) < 2 ^ 63 := by rw [sizeLine_eq]; decide

/-! ### strs and bytes -/
theorem op_add_str : OpR X (binaryOp .Add) (fun x y H Q => ∃ i j, x = .str i ∧ y = .str j ∧ i.length + j.length ≤ sizeLine ∧ Q (.str (i ++ j)) H) := by
  intro pins s σ H x y v u Q I rx ry h
  obtain ⟨i, j, rfl, rfl, hz, q⟩ := h
  obtain ⟨t, rfl⟩ := rx
  obtain ⟨t', rfl⟩ := ry
  exact add_str (fun t' tk => ⟨.str (i ++ j), H, I.tok _, ⟨_, rfl⟩, q⟩) hz

noncomputable def PlainIxT (b : Expr) : Prop := ∀ o i, subscripted b false o i = operate [o, i] (getItem o i)

/-! ### scalar builtins, by CallR -/
theorem vals1 {x : V} {us : List Value} (r : Vals [x] us) : ∃ u, us = [u] ∧ RelV x u := by
  cases r with
  | cons r1 r2 => cases r2; exact ⟨_, rfl, r1⟩
theorem vals2 {x y : V} {us : List Value} (r : Vals [x, y] us) : ∃ u w', us = [u, w'] ∧ RelV x u ∧ RelV y w' := by
  cases r with
  | cons r1 r2 =>
    cases r2 with
    | cons r3 r4 => cases r4; exact ⟨_, _, rfl, r1, r3⟩
theorem call_min2 (hc : X.calm = true) : CallR X (.builtin "min") (fun xs H Q => ∃ i j, xs = [.int i, .int j] ∧ Q (.int (if j < i then j else i)) H) := by
  intro pins s σ H xs us Q I r h
  obtain ⟨i, j, rfl, q⟩ := h
  obtain ⟨u, w', rfl, ⟨t, rfl⟩, ⟨t', rfl⟩⟩ := vals2 r
  refine min_two_ints (I.ok.hd hc) fun h' tk k => ⟨_, H, I.kept k, ?_, q⟩
  by_cases hj : j < i
  · rw [if_pos hj, if_pos hj]; exact ⟨_, rfl⟩
  · rw [if_neg hj, if_neg hj]; exact ⟨_, rfl⟩
noncomputable def LenV (K : PySem.W.Frag) (x : V) (H : Hp) (n : Nat) : Prop :=
  match x with
  | .str y => y.length ≤ sizeLine ∧ n = y.length
  | .byt y => y.size ≤ sizeLine ∧ n = y.size
  | .ref p => (∃ xs, SqL K H p xs ∧ n = xs.length) ∨ ∃ xs, SqT K H p xs ∧ n = xs.length
  | _ => False
end
end L2

namespace L2
open PySem PySem.Spec PyProof.Rows

/-! ### an instance, its attributes a map -/
structure ObjM (h : Heap) (x dx C : Addr) (mA : Str → Option Value) : Prop where
  obj : h.get? x = some (PySem.W.instObj C dx)
  ns : h.Ns1 dx mA
  ne : dx ≠ x



section
variable {prog : Program} {w : World} {A : Around} {E : Value → Shared → Prop} {s : Shared} {K : PySem.W.Frag} {x dx C f : Addr} {mA : Str → Option Value} {name : Str} {v : Value}





end

/-! ### the attributes as a list of pairs -/
noncomputable def putF (f : Str) (v : V) : List (Str × V) → List (Str × V)
  | [] => [(f, v)]
  | (g, x) :: r => if g = f then (g, v) :: r else (g, x) :: putF f v r

theorem RelO.some_of {v : V} {o : Option Value} (r : RelO (some v) o) : ∃ u, o = some u ∧ RelV v u := by
  cases o with
  | none => exact (show False from r).elim
  | some u => exact ⟨u, rfl, r⟩

section
variable {P : Program} {w : World} {H H' : Hp} {h h' : Heap} {a C dx : Addr} {fs fs' : List (Str × V)}
end

/-! ### what of the text a class must have -/
structure Cls (K : PySem.W.Frag) (C : Addr) : Prop where
  pg : PySem.W.plainGet K C Str.empty = true
  hd : PySem.W.hasDictIn K C = true
  po : PySem.W.plainOver K C = true
  sa : PySem.W.findIn K (.ref C) "__setattr__" = some (some (.builtin "object.__setattr__"))
noncomputable def NoAttr (K : PySem.W.Frag) (C : Addr) (f : Str) : Prop := PySem.W.findIn K (.ref C) f = some none
structure Con (K : PySem.W.Frag) (C : Addr) (f : Str) (v : V) (u : Value) : Prop where
  at_ : PySem.W.findIn K (.ref C) f = some (some u)
  rel : RelV v u
  get : PySem.W.specialIn K u "__get__" = some none
  cp : PySem.W.copiedNames.contains f = false
structure Meth (K : PySem.W.Frag) (C : Addr) (m : Str) (f : Addr) : Prop where
  at_ : PySem.W.findIn K (.ref C) m = some (some (.ref f))
  fn : PySem.W.isFn K (.ref f) = true
  kp : PySem.W.keepIn K (.ref f) = true

section
variable {X : Cx} {pins : List (Addr × Obj)} {σ : St} {H : Hp} {s : Shared} {a C dx : Addr} {fs : List (Str × V)} {f : Str} {v : V} {A : Around} {E : Value → Shared → Prop}






end

/-! ### readings and rules -/
noncomputable def tFld (K : PySem.W.Frag) (ta : TE) (f : Str) : TE := fun σ H Q => ta σ H fun x H1 => ∃ a C dx fs v, x = .ref a ∧ H1 a = some (.ins C dx fs) ∧ Cls K C ∧ NoAttr K C f ∧ fs.lookup f = some v ∧ Q v H1
noncomputable def tCon (K : PySem.W.Frag) (ta : TE) (f : Str) : TE := fun σ H Q => ta σ H fun x H1 => ∃ a C dx fs v u, x = .ref a ∧ H1 a = some (.ins C dx fs) ∧ Cls K C ∧ Con K C f v u ∧ fs.lookup f = none ∧ Q v H1
noncomputable def sFld (K : PySem.W.Frag) (ta tv : TE) (f : Str) : TS := fun D σ H => tv σ H fun y H1 => ta σ H1 fun x H2 => ∃ a C dx fs, x = .ref a ∧ H2 a = some (.ins C dx fs) ∧ Cls K C ∧ NoAttr K C f ∧ fs.length < 1000 ∧
  D.nx σ (upd H2 a (.ins C dx (putF f y fs)))
noncomputable def InOp (X : Cx) (op : Operator) (rd : V → V → Hp → VK → Prop) : Prop :=
  ∀ (pins : List (Addr × Obj)) (s : Shared) (σ : St) (H : Hp) (x y : V) (u v : Value) (Q : VK), Inv X pins σ H s → RelV x u → RelV y v → rd x y H Q → wpAny (model X.prog X.w) X.A (inplaceOp op u v) (EP X pins σ Q) X.xe s
noncomputable def sFldAug (K : PySem.W.Frag) (ta tv : TE) (rd : V → V → Hp → VK → Prop) (f : Str) : TS := fun D σ H => ta σ H fun x H1 => ∃ a C dx fs v, x = .ref a ∧ H1 a = some (.ins C dx fs) ∧ Cls K C ∧ NoAttr K C f ∧ fs.lookup f = some v ∧
  tv σ H1 fun y H2 => rd v y H2 fun z H3 => ∃ dx' fs', H3 a = some (.ins C dx' fs') ∧ fs'.length < 1000 ∧ D.nx σ (upd H3 a (.ins C dx' (putF f z fs')))

section
variable {X : Cx} {o e value : Expr} {f : Str} {pos pos' tpos : Pos} {ta tv : TE}
noncomputable def rAdd : V → V → Hp → VK → Prop := fun x y H Q => ∃ i j, x = .int i ∧ y = .int j ∧ Q (.int (i + j)) H
noncomputable def rSub : V → V → Hp → VK → Prop := fun x y H Q => ∃ i j, x = .int i ∧ y = .int j ∧ Q (.int (i - j)) H

end

/-! ### isinstance -/
section
variable {X : Cx} {pins : List (Addr × Obj)} {σ : St} {H : Hp} {s : Shared} {A : Around} {E : Value → Shared → Prop} {Q : Value → Shared → Prop} {c : Value} {b : Bool}
inductive TyOf (K : PySem.W.Frag) (H : Hp) : V → Value → Prop where
  | non : TyOf K H .non (.type "NoneType")
  | bl (x : Bool) : TyOf K H (.bl x) (.type "bool")
  | int (i : Int) : TyOf K H (.int i) (.type "int")
  | str (x : Str) : TyOf K H (.str x) (.type "str")
  | flt (x : UInt64) : TyOf K H (.flt x) (.type "float")
  | lst {a : Addr} {xs : List V} (e : H a = some (.lst xs)) : TyOf K H (.ref a) (.type "list")
  | frz {a : Addr} {o : Obj} {xs : List V} (e : H a = some (.frz o (.lst xs))) : TyOf K H (.ref a) (.type "list")
  | tup {a : Addr} {xs : List V} (e : H a = some (.tup xs)) : TyOf K H (.ref a) (.type "tuple")
  | dK {a : Addr} {kvs : List (Key × V)} (e : H a = some (.dK kvs)) : TyOf K H (.ref a) (.type "dict")
  | dT {a : Addr} {kvs : List (List Key × V)} (e : H a = some (.dT kvs)) : TyOf K H (.ref a) (.type "dict")
  | ins {a C dx : Addr} {fs : List (Str × V)} (e : H a = some (.ins C dx fs)) (cl : Cls K C) (ha : PySem.W.findIn K (.ref C) "__class__" = some (some (.builtin "object.__class__")))
      (hn : PySem.W.specialIn K (.builtin "object.__class__") "__get__" = some (some (.builtin "getset_descriptor.__get__"))) (htk : PySem.W.takesIn K (.builtin "object.__class__") = some true)
      (hm : PySem.W.mroIn K C (.type "object") = some true) : TyOf K H (.ref a) (.ref C)
end
end L2

namespace L2
open PySem PySem.Spec PyProof.Rows

/-! ### room -/
structure Room (k : Nat) (A : Around) : Prop where
  hd : A.handled = none
  dp : A.depth + 3 * k + 5 < recursionLimit
  un : A.units + 16 * k + 200 < cLine
theorem Room.mono {j k : Nat} {A : Around} (r : Room k A) (h : j ≤ k) : Room j A := ⟨r.hd, by have := r.dp; omega, by have := r.un; omega⟩
theorem Room.deeper {k : Nat} {A : Around} (r : Room (k + 1) A) (env : Env) : Room k (A.deeper env) :=
  ⟨r.hd, by have := r.dp; show A.depth + 1 + 3 * k + 5 < _; omega, by have := r.un; show A.units + 3 + 16 * k + 200 < _; omega⟩
theorem Room.depth {k : Nat} {A : Around} (r : Room k A) : A.depth < recursionLimit := by have := r.dp; omega
theorem Room.units {k : Nat} {A : Around} (r : Room k A) : A.units + 64 < cLine := by have := r.un; omega

/-! ### argument lists and displays -/
noncomputable def tNil : TA := fun _ H Q => Q [] H
noncomputable def tCons (ta : TE) (tr : TA) : TA := fun σ H Q => ta σ H fun x H1 => tr σ H1 fun xs H2 => Q (x :: xs) H2
section
variable {X : Cx} {e : Expr} {es : List Expr} {te : TE} {t : TA} {pos : Pos}
theorem pa_nil : PA X [] tNil := fun _ _ _ _ H Q I h => Calls.spliced_nil ⟨[], H, I, .nil, h⟩
theorem pa_cons (ha : PE X e te) (hr : PA X es t) (hs : starEach (e :: es) X.env = (false, eval e X.env) :: starEach es X.env := by rfl) : PA X (e :: es) (tCons te t) := by
  intro pos pins s σ H Q I h
  rw [hs]
  show wpAny _ _ (spliced ((false, eval e X.env) :: backTo pos (starEach es X.env))) _ _ s
  refine Calls.spliced_cons (thn (ha pins s σ H _ I h) fun u s1 ⟨x, H1, I1, r1, q1⟩ => ?_)
  exact thn (hr pos pins s1 σ H1 _ I1 q1) fun us s2 ⟨xs, H2, I2, r2, q2⟩ => ⟨x :: xs, H2, I2, .cons r1 r2, q2⟩

noncomputable def tTup (t : TA) : TE := fun σ H Q => t σ H fun xs H1 => xs.length ≤ sizeLine ∧ ∀ p, H1 p = none → Q (.ref p) (upd H1 p (.tup xs))
noncomputable def tLst (t : TA) : TE := fun σ H Q => t σ H fun xs H1 => xs.length ≤ sizeLine ∧ ∀ p, H1 p = none → Q (.ref p) (upd H1 p (.lst xs))
theorem pe_tup {x1} (h : PA X es t) : PE X (.Tuple es x1 pos) (tTup t) := by
  intro pins s σ H Q I hq
  refine wpAny_Tuple_spliced (thn (h pos pins s σ H _ I hq) fun us s1 ⟨xs, H1, I1, r, z, q⟩ => ⟨by rw [← r.length]; exact z, ?_⟩)
  have hf : H1 s1.heap.objs.size = none := I1.hok.fresh (Nat.le_refl _)
  refine ⟨.ref s1.heap.objs.size, upd H1 s1.heap.objs.size (.tup xs), I1.laid (t' := s1.toks) (fun b u e => Heap.get?_push_of_some _ e) (Nat.le_refl _) ?_, rfl, q _ hf⟩
  exact ⟨z, us, r, ⟨_, Heap.get?_push_size _ rfl, rfl, _, rfl⟩⟩
theorem pe_lst (h : PA X es t) : PE X (.List es pos) (tLst t) := by
  intro pins s σ H Q I hq
  refine wpAny_List_spliced (thn (h pos pins s σ H _ I hq) fun us s1 ⟨xs, H1, I1, r, z, q⟩ => ⟨by rw [← r.length]; exact z, ?_⟩)
  have hf : H1 s1.heap.objs.size = none := I1.hok.fresh (Nat.le_refl _)
  refine ⟨.ref s1.heap.objs.size, upd H1 s1.heap.objs.size (.lst xs), I1.laid (t' := s1.toks) (fun b u e => Heap.get?_push_of_some _ e) (Nat.le_refl _) ?_, rfl, q _ hf⟩
  exact ⟨z, us, 0, r, Heap.get?_push_size _ rfl⟩
end

/-! ### what a def promises -/
noncomputable abbrev Sp := List V → Hp → VK → XK → Prop
noncomputable abbrev CXT := List Env → Hp → Shared → XK → Value → Shared → Prop

structure Env0 (P : Program) (w : World) (K : PySem.W.Frag) (mg : Str → Option Value) (base : Heap) (A : Around) (outer : List Env) (s : Shared) (H : Hp) : Prop where
  frames : A.frames = some outer
  mod : Mod K mg base
  bs : ∀ b o, base.get? b = some o → s.heap.get? b = some o ∧ H b = none
  bsz : base.objs.size ≤ s.heap.objs.size
  funs : s.heap.FunFrames base outer
  frf : ∀ b ∈ frs outer, H b = none
  hok : HOk P w H s.heap
  bare : AllBare s.gens
noncomputable def CE (outer : List Env) (P : Program) (w : World) (H : Hp) (s : Shared) (Q : VK) (u : Value) (s' : Shared) : Prop :=
  ∃ v H', s'.os = s.os ∧ AllBare s'.gens ∧ Un (frs outer) [] H H' s.heap s'.heap ∧ HOk P w H' s'.heap ∧ RelV v u ∧ Q v H'
noncomputable def CR (CX : CXT) (outer : List Env) (P : Program) (w : World) (H : Hp) (s : Shared) (Q : VK) (E : XK) (r : Result) (s' : Shared) : Prop :=
  match r with
  | .ok (.ret u) => CE outer P w H s Q u s'
  | .ok _ => False
  | .error e => CX outer H s E e s'
structure FnOk (P : Program) (w : World) (K : PySem.W.Frag) (mg : Str → Option Value) (base : Heap) (CX : CXT) (k : Nat) (f : Addr) (fd : FuncData) (ps : List Str) (sp : Sp) : Prop where
  len : ∀ vs H Q E, sp vs H Q E → vs.length = ps.length
  run : ∀ (A : Around) (outer : List Env) (s : Shared) (H : Hp) (args : Args) (us : List Value) (vs : List V) (Q : VK) (E : XK), Room k A → Env0 P w K mg base A outer s H → BindsTo s fd args (ps.zip us) → Vals vs us → sp vs H Q E →
    codeAny (model P w) A (.call (.ref f) args) (CR CX outer P w H s Q E) s
theorem FnOk.imp {P : Program} {w : World} {K : PySem.W.Frag} {mg : Str → Option Value} {base : Heap} {CX : CXT} {k : Nat} {f : Addr} {fd : FuncData} {ps : List Str} {sp sp' : Sp} (F : FnOk P w K mg base CX k f fd ps sp)
    (h : ∀ vs H Q E, sp' vs H Q E → sp vs H Q E) : FnOk P w K mg base CX k f fd ps sp' :=
  ⟨fun vs H Q E q => F.len vs H Q E (h _ _ _ _ q), fun A outer s H args us vs Q E hr he hb hv hs => F.run A outer s H args us vs Q E hr he hb hv (h _ _ _ _ hs)⟩


section
variable {X : Cx} {pins : List (Addr × Obj)} {σ : St} {H : Hp} {s s' : Shared}
theorem Inv.env0 (I : Inv X pins σ H s) : Env0 X.prog X.w X.K X.mg X.base X.A X.stack s H :=
  ⟨I.ok.frames, I.ok.mod, I.bs, Nat.le_trans I.ok.bsz I.sz, I.stack, I.stkFree, I.hok, I.bare⟩
theorem Inv.after {Q : VK} {u : Value} (I : Inv X pins σ H s) (h : CE X.stack X.prog X.w H s Q u s') : EP X pins σ Q u s' := by
  obtain ⟨v, H', os, bare, un, hok, r, q⟩ := h
  obtain ⟨hh, g, d, t, os'⟩ := s'
  obtain rfl : os' = s.os := os
  exact ⟨v, H', I.call (h' := hh) (g' := g) (d' := d) (t' := t) (ch := []) un hok bare (fun b z => absurd z (by simp)), r, q⟩
end

/-! ### calls -/
noncomputable def tCall (sp : Sp) (dvs : List V) (E : XK) (t : TA) : TE := fun σ H Q => t σ H fun vs H1 => sp (vs ++ dvs) H1 Q E
noncomputable def tMeth (C : Addr) (m : Str) (sp : Sp) (dvs : List V) (E : XK) (ta : TE) (t : TA) : TE := fun σ H Q => ta σ H fun x H1 => ∃ a dx fs, x = .ref a ∧ H1 a = some (.ins C dx fs) ∧ fs.lookup m = none ∧
  t σ H1 fun vs H2 => sp (x :: (vs ++ dvs)) H2 Q E
noncomputable def tMake (C : Addr) (sp : Sp) (dvs : List V) (E : XK) (t : TA) : TE := fun σ H Q => t σ H fun vs H1 => ∀ x dx, H1 x = none → H1 dx = none → dx ≠ x →
  sp (.ref x :: (vs ++ dvs)) (upd (upd H1 dx (.own x)) x (.ins C dx [])) (fun v H2 => v = .non ∧ Q (.ref x) H2) E

noncomputable def Binds (K : PySem.W.Frag) (fd : FuncData) (ps : List Str) (ds : List Value) : Prop :=
  ∀ (s : Shared) (us : List Value), K.In s.heap → (us ++ ds).length = ps.length → BindsTo s fd ⟨us, []⟩ (ps.zip (us ++ ds))
theorem Binds.all {K : PySem.W.Frag} {fd : FuncData} {ps : List Str} (h : ∀ us : List Value, us.length = ps.length → bindArgs fd ⟨us, []⟩ = pure (ps.zip us)) : Binds K fd ps [] := fun s us _ hl => by
  rw [List.append_nil] at hl ⊢
  exact .of_eq (h us hl)

noncomputable def Passes (CX : CXT) (X : Cx) (E : XK) : Prop := ∀ (pins : List (Addr × Obj)) (σ : St) (H : Hp) (s : Shared) (e : Value) (s' : Shared), Inv X pins σ H s → CX X.stack H s E e s' → X.xe e s'

section
variable {X : Cx} {CX : CXT} {k : Nat} {f C : Addr} {fd : FuncData} {ps : List Str} {sp : Sp} {dvs : List V} {ds : List Value} {E : XK} {x m : Str} {p pos apos : Pos} {e o : Expr} {es : List Expr} {ta : TE} {t : TA}

theorem run_fn {pins : List (Addr × Obj)} {σ : St} {H : Hp} {s : Shared} {Q : VK} {us : List Value} {vs : List V} (F : FnOk X.prog X.w X.K X.mg X.base CX k f fd ps sp) (hr : Room k X.A) (hb : Binds X.K fd ps ds) (hd : Vals dvs ds) (hx : Passes CX X E)
    (I : Inv X pins σ H s) (r : Vals vs us) (h : sp (vs ++ dvs) H Q E) : wpAny (model X.prog X.w) X.A (call (.ref f) us) (EP X pins σ Q) X.xe s := by
  have r2 : Vals (vs ++ dvs) (us ++ ds) := r.append hd
  have hl : (us ++ ds).length = ps.length := by rw [← r2.length]; exact F.len _ _ _ _ h
  refine wpAny_call (codeAny_mono (F.run X.A X.stack s H ⟨us, []⟩ (us ++ ds) (vs ++ dvs) Q E hr I.env0 (hb s us I.kIn hl) r2 h) fun r s' hq => ?_)
  cases r with
  | error e => exact hx pins σ H s e s' I hq
  | ok fl =>
    cases fl with
    | ret u => exact I.after hq
    | next => exact False.elim hq
    | brk => exact False.elim hq
    | cont => exact False.elim hq

theorem pe_call (F : FnOk X.prog X.w X.K X.mg X.base CX k f fd ps sp) (hr : Room k X.A) (hg : Gl X x) (hm : X.mg x = some (.ref f)) (hk : PySem.W.keepIn X.K (.ref f) = true) (hb : Binds X.K fd ps ds) (hd : Vals dvs ds) (hx : Passes CX X E)
    (ha : PA X (e :: es) t) (hdb : (x == ("__debug__" : Str)) = false := by decide) (he : starEach (e :: es) X.env = (false, eval e X.env) :: starEach es X.env := by rfl) (hpl : (backTo pos (starEach es X.env)).any (·.1) = false := by rfl) :
    PE X (.Call (.Name x p) (e :: es) [] pos) (tCall sp dvs E t) := by
  intro pins s σ H Q I h
  refine wpAny_Call_Name_kw (ld_glob I hg hm ?_ hdb)
  refine PySem.W.callWith_K (h₀ := X.base) I.ok.mod.kin hk (thn (ha pos pins s σ H _ I h) fun us s1 ⟨vs, H1, I1, r, q⟩ => ⟨I1.kIn, ?_⟩) he hpl
  exact run_fn F hr hb hd hx I1 r q


structure Mk (K : PySem.W.Frag) (C f : Addr) : Prop where
  makes : PySem.W.makesIn K C = true
  init : PySem.W.findIn K (.ref C) "__init__" = some (some (.ref f))
  fn : PySem.W.isFn K (.ref f) = true
  kp : PySem.W.keepIn K (.ref C) = true

end

/-! ### keywords -/
noncomputable def PK (X : Cx) (kws : List Keyword) (t : TA) : Prop :=
  ∀ (pos : Pos) (pins : List (Addr × Obj)) (s : Shared) (σ : St) (H : Hp) (Q : List V → Hp → Prop), Inv X pins σ H s → t σ H Q → wpAny (model X.prog X.w) X.A (evalAll ((backToKw pos (keywordEach kws X.env)).map (·.2))) (AP X pins σ Q) X.xe s
section
variable {X : Cx} {CX : CXT} {k : Nat} {f C : Addr} {fd : FuncData} {ps ks : List Str} {sp : Sp} {E : XK} {x m : Str} {p pos apos kpos : Pos} {e o : Expr} {es : List Expr} {kws : List Keyword} {te ta : TE} {t tk : TA} {nm : Option Str}

structure KBinds (K : PySem.W.Frag) (fd : FuncData) (ps ks : List Str) (g : List Value → List Value → List Value) (gV : List V → List V → List V) : Prop where
  to : ∀ (s : Shared) (us ws : List Value), K.In s.heap → (g us ws).length = ps.length → BindsTo s fd ⟨us, ks.zip ws⟩ (ps.zip (g us ws))
  rel : ∀ {vs : List V} {us : List Value} {zs : List V} {ws : List Value}, Vals vs us → Vals zs ws → Vals (gV vs zs) (g us ws)
noncomputable def tCallK (sp : Sp) (gV : List V → List V → List V) (E : XK) (t tk : TA) : TE := fun σ H Q => t σ H fun vs H1 => tk σ H1 fun zs H2 => sp (gV vs zs) H2 Q E
variable {g : List Value → List Value → List Value} {gV : List V → List V → List V}
end

/-! ### a def's body keeps its promise -/
structure FnScope (N P : List Str) (sc : Scope) : Prop where
  kind : sc.kind = .function
  co : sc.isCoroutine = false
  gen : sc.isGenerator = false
  nd : N.Nodup
  pre : N.take P.length = P
  par : ∀ x ∈ P, sc.names.lookup x = some .local ∨ sc.names.lookup x = some .cell
  nofree : ∀ y ∈ sc.names, y.2 ≠ .free

theorem bindL_out {kindOf : Str → Option NameKind} {x : Str} : ∀ {binds : List (Str × Value)} {m : Str → Option Value}, (∀ v, (x, v) ∉ binds) → bindL kindOf binds m x = m x
  | [], _, _ => rfl
  | (n, v) :: r, m, h => by
    unfold bindL
    rw [bindL_out fun w hw => h w (List.mem_cons_of_mem _ hw)]
    split
    · have : x ≠ n := by rintro rfl; exact h v List.mem_cons_self
      simp [this]
    · rfl
theorem bindC_out {kindOf : Str → Option NameKind} {x : Str} : ∀ {binds : List (Str × Value)} {m : Str → Option Value}, (∀ v, (x, v) ∉ binds) → bindC kindOf binds m x = m x
  | [], _, _ => rfl
  | (n, v) :: r, m, h => by
    unfold bindC
    rw [bindC_out fun w hw => h w (List.mem_cons_of_mem _ hw)]
    split
    · rfl
    · have : x ≠ n := by rintro rfl; exact h v List.mem_cons_self
      simp [this]
theorem bindL_get {kindOf : Str → Option NameKind} {x : Str} {v : Value} : ∀ {P : List Str} {vs : List Value} {i : Nat} {m : Str → Option Value}, P.Nodup → P[i]? = some x → vs[i]? = some v → kindOf x = some .local →
    bindL kindOf (P.zip vs) m x = some v
  | [], _, _, _, _, h, _, _ => by simp at h
  | _ :: _, [], _, _, _, _, h, _ => by simp at h
  | p :: P, w :: vs, 0, m, nd, h1, h2, hk => by
    simp at h1 h2; subst h1; subst h2
    show bindL kindOf ((p, w) :: P.zip vs) m p = _
    unfold bindL
    rw [bindL_out fun v hv => (List.nodup_cons.mp nd).1 (List.of_mem_zip hv).1, if_pos hk]
    simp
  | p :: P, w :: vs, i + 1, m, nd, h1, h2, hk => by
    show bindL kindOf ((p, w) :: P.zip vs) m x = _
    unfold bindL
    exact bindL_get (i := i) (List.nodup_cons.mp nd).2 (by simpa using h1) (by simpa using h2) hk
theorem bindC_get {kindOf : Str → Option NameKind} {x : Str} {v : Value} : ∀ {P : List Str} {vs : List Value} {i : Nat} {m : Str → Option Value}, P.Nodup → P[i]? = some x → vs[i]? = some v → kindOf x ≠ some .local →
    bindC kindOf (P.zip vs) m x = some v
  | [], _, _, _, _, h, _, _ => by simp at h
  | _ :: _, [], _, _, _, _, h, _ => by simp at h
  | p :: P, w :: vs, 0, m, nd, h1, h2, hk => by
    simp at h1 h2; subst h1; subst h2
    show bindC kindOf ((p, w) :: P.zip vs) m p = _
    unfold bindC
    rw [bindC_out fun v hv => (List.nodup_cons.mp nd).1 (List.of_mem_zip hv).1, if_neg hk]
    simp
  | p :: P, w :: vs, i + 1, m, nd, h1, h2, hk => by
    show bindC kindOf ((p, w) :: P.zip vs) m x = _
    unfold bindC
    exact bindC_get (i := i) (List.nodup_cons.mp nd).2 (by simpa using h1) (by simpa using h2) hk

noncomputable def start (N : List Str) (vs : List V) : St := vs.map some ++ List.replicate (N.length - vs.length) none

noncomputable def cxOf (CX : CXT) (P : Program) (w : World) (K : PySem.W.Frag) (mg : Str → Option Value) (base : Heap) (N : List Str) (qual : Str) (scope : Scope) (f : Addr) (cd : Value) (A : Around) (outer : List Env) (s : Shared) (H : Hp) (E : XK) : Cx where
  prog := P
  w := w
  K := K
  mg := mg
  base := base
  A := A.deeper (envOfC qual scope s.heap.objs.size f cd)
  N := N
  s₀ := s
  H₀ := H
  env := envOfC qual scope s.heap.objs.size f cd
  outer := outer
  stack := envOfC qual scope s.heap.objs.size f cd :: outer
  ex := []
  calm := true
  fn := fun _ => true
  pn := []
  xe := fun e s' => wpAny (model P w) (A.deeper (envOfC qual scope s.heap.objs.size f cd)) (leaving (envOfC qual scope s.heap.objs.size f cd) e) (fun _ s'' => CX outer H s E e s'') (fun e' s'' => CX outer H s E e' s'') s'

theorem cell_has {sc : Scope} {n : Nat} {x : Str} (h : sc.names.lookup x = some .cell) : ∃ c, (cellsFrom n sc.names []).lookup x = some c := by
  have q := PySem.W.cellsFrom_some sc.names n [] (.inl h)
  exact Option.isSome_iff_exists.mp q

theorem inv_start {CX : CXT} {P : Program} {w : World} {K : PySem.W.Frag} {mg : Str → Option Value} {base : Heap} {N ps : List Str} {qual : Str} {scope : Scope} {f : Addr} {cd : Value} {A : Around} {outer : List Env} {s s1 : Shared} {H : Hp} {E : XK} {us : List Value} {vs : List V}
    (S : FnScope N ps scope) (hd : A.handled = none) (e0 : Env0 P w K mg base A outer s H) (hl : vs.length = ps.length) (r : Vals vs us)
    (x : InCallC s s.heap.objs.size (bindL (envOfC qual scope s.heap.objs.size f cd).kindOf (ps.zip us) fun _ => none) (cellsFrom (s.heap.objs.size + 1) scope.names []) (bindC (envOfC qual scope s.heap.objs.size f cd).kindOf (ps.zip us) fun _ => none) s1) :
    Inv (cxOf CX P w K mg base N qual scope f cd A outer s H E) [] (start N vs) H s1 := by
  have hpl : ps.length ≤ N.length := by have := congrArg List.length S.pre; rw [List.length_take] at this; omega
  obtain ⟨h1, tk, rfl, hk⟩ := x.done
  have noA : ∀ b : Addr, b ∉ (cxOf CX P w K mg base N qual scope f cd A outer s H E).ex := fun b z => absurd (show b ∈ ([] : List Addr) from z) (by simp)
  refine ⟨⟨e0.mod, S.kind, rfl, rfl, Nat.le_refl _, fun y z c h1 h2 => ?_, fun y hy => ?_, fun y c _ h => ?_, fun _ => hd, Around.frames_deeper e0.frames, .inr ⟨rfl, rfl⟩, fun b z => absurd z (noA b), e0.bs, e0.bsz, fun b _ _ => noA b, fun b z => absurd z (noA b), e0.funs, e0.frf⟩,
    rfl, e0.bare, Un.kept hk, ⟨_, x.toInCall.ns, fun i y v h1 h2 h3 => ?_⟩, fun y c h => ⟨_, x.cell y c h⟩, e0.hok.fresh (Nat.le_refl _), fun y c h => ?_, fun p hp => absurd (show p ∈ ([] : List (Addr × Obj)) from hp) (by simp), e0.hok.kept hk, ?_⟩
  · exact name_of_addr x.apart (PySem.mem_of_lookup h1) (PySem.mem_of_lookup h2)
  · have hy : scope.names.lookup y = some .cell ∨ scope.names.lookup y = some .free := hy
    rcases hy with hy | hy
    · exact cell_has hy
    · exact absurd rfl (S.nofree _ (PySem.mem_of_lookup hy))
  · exact Nat.le_of_lt (x.above y c (PySem.mem_of_lookup h))
  · have hi : i < vs.length := by
      unfold start at h2
      by_cases hi : i < vs.length
      · exact hi
      · rw [List.getElem?_append_right (by simpa using hi)] at h2
        rw [List.getElem?_replicate] at h2
        split at h2 <;> cases h2
    have ha : vs[i]? = some v := by
      unfold start at h2
      rw [List.getElem?_append_left (by simpa using hi), List.getElem?_map] at h2
      cases e : vs[i]? with
      | none => rw [e] at h2; cases h2
      | some a => rw [e] at h2; cases h2; rfl
    obtain ⟨u, hu, rv⟩ := r.get ha
    have hp : ps[i]? = some y := by
      rw [← S.pre, List.getElem?_take_of_lt (by omega)]; exact h1
    have ndP : ps.Nodup := by rw [← S.pre]; exact S.nd.sublist (List.take_sublist _ _)
    refine ⟨u, rv, ?_⟩
    rcases S.par y (List.mem_of_getElem? hp) with k | k
    · exact .inl ⟨k, bindL_get ndP hp hu k⟩
    · obtain ⟨c, e⟩ := cell_has (n := s.heap.objs.size + 1) k
      refine .inr ⟨.inl k, c, e, ?_⟩
      have q := x.cell y c e
      rw [bindC_get ndP hp hu (by show scope.names.lookup y ≠ _; rw [k]; decide)] at q
      exact q
  · exact e0.hok.fresh (Nat.le_of_lt (x.above y c (PySem.mem_of_lookup h)))
  · unfold start
    show _ = N.length
    rw [List.length_append, List.length_map, List.length_replicate]
    omega

theorem fn_of {CX : CXT} {P : Program} {w : World} {K : PySem.W.Frag} {mg : Str → Option Value} {base : Heap} {k : Nat} {f : Addr} {name qual : Str} {params : Arguments} {body : List Stmt} {scope : Scope} {dV kV doc pm cdv ct oc : Value} {an od : Option Addr}
    {osl : Array (Option Value)} {N ps : List Str} {sp : Sp} (lk : K.lookup f = some ⟨oc, od, .func (PySem.W.fnOf name qual params body scope dV kV doc pm an cdv ct), osl⟩) (hcd : PySem.W.codeIn K cdv qual = true) (S : FnScope N ps scope)
    (len : ∀ vs H Q E, sp vs H Q E → vs.length = ps.length)
    (hbody : ∀ (A : Around) (outer : List Env) (s : Shared) (H : Hp) (vs : List V) (Q : VK) (E : XK), Room k (A.deeper (envOfC qual scope s.heap.objs.size f cdv)) → sp vs H Q E →
      ∃ t, PSs (cxOf CX P w K mg base N qual scope f cdv A outer s H E) body t ∧ t { nx := fun _ H' => Q .non H', rt := Q } (start N vs) H) :
    FnOk P w K mg base CX (k + 1) f (PySem.W.fnOf name qual params body scope dV kV doc pm an cdv ct) ps sp := by
  refine ⟨len, fun A outer s H args us vs Q E hr e0 hb r hsp => ?_⟩
  have hl := len _ _ _ _ hsp
  have KX : K.In s.heap := e0.mod.kin.keeps fun b o e => (e0.bs b o e).1
  have lim : s.heap.NoLimit := e0.mod.nolimit.keeps fun b o e => (e0.bs b o e).1
  have hkind : ∀ y ∈ ps.zip us, scope.names.lookup y.1 = some .local ∨ (scope.names.lookup y.1 = some .cell ∧ ((cellsFrom (s.heap.objs.size + 1) scope.names []).lookup y.1).isSome = true) := fun ⟨n, v⟩ hy => by
    rcases S.par n (List.of_mem_zip hy).1 with q | q
    · exact .inl q
    · exact .inr ⟨q, PySem.W.cellsFrom_some _ _ _ (.inl q)⟩
  refine codeAny_call_function hr.depth (KX _ _ lk) rfl S.co S.gen rfl (PySem.W.codeRec_of KX hcd) (hb _ _ _ _ ?_)
  refine wpAny_newFunctionEnv_cells S.kind hkind fun env he s1 x => ?_
  subst he
  refine ⟨lim.keeps x.toInCall.keep, codeAny_func ?_⟩
  obtain ⟨t, ht, hq⟩ := hbody A outer s H vs Q E (hr.deeper _) hsp
  have I : Inv (cxOf CX P w K mg base N qual scope f cdv A outer s H E) [] (start N vs) H s1 := inv_start S hr.hd e0 hl r x
  refine wpAny_mono (ht [] s1 (start N vs) H _ I hq) (fun fl s' hs => ?_) fun e s' hs => hs
  have fin : ∀ {σ' : St} {H' : Hp} {v : V} {u : Value}, Inv (cxOf CX P w K mg base N qual scope f cdv A outer s H E) [] σ' H' s' → RelV v u → Q v H' → CE outer P w H s Q u s' :=
    fun {σ' H' v u} J rv q => ⟨v, H', J.os, J.bare, J.base, J.hok, rv, q⟩
  cases fl with
  | ret u =>
    obtain ⟨v, σ', H', J, rv, q⟩ := hs
    exact fin J rv q
  | next =>
    obtain ⟨σ', H', J, q⟩ := hs
    exact fin (v := V.non) (u := Value.none) J rfl q
  | brk =>
    obtain ⟨_, _, _, q⟩ := hs
    exact False.elim q
  | cont =>
    obtain ⟨_, _, _, q⟩ := hs
    exact False.elim q
end L2

namespace L2
open PySem PySem.Spec PyProof.Rows
section
variable {X : Cx} {x : Str} {p pos : Pos} {e : Expr} {es : List Expr} {t : TA} {id T : String} {r : List V → Hp → VK → Prop}

noncomputable def tCB (r : List V → Hp → VK → Prop) (t : TA) : TE := fun σ H Q => t σ H fun vs H1 => r vs H1 Q
theorem pe_callB (hc : CallR X (.builtin id) r) (hg : Gl X x) (hm : X.mg x = none) (hv : bootBuiltins x = some (.builtin id)) (ha : PA X (e :: es) t) (hn : x ≠ "__name__" := by decide) (hdb : (x == ("__debug__" : Str)) = false := by decide)
    (he : starEach (e :: es) X.env = (false, eval e X.env) :: starEach es X.env := by rfl) (hpl : (backTo pos (starEach es X.env)).any (·.1) = false := by rfl) : PE X (.Call (.Name x p) (e :: es) [] pos) (tCB r t) := by
  intro pins s σ H Q I h
  refine wpAny_Call_Name_kw (ld_blt I hg hm hv ?_ hn hdb)
  exact PyProof.Rows.callWith_builtin1 (thn (ha pos pins s σ H _ I h) fun us s1 ⟨vs, H1, I1, r1, q1⟩ => hc pins s1 σ H1 vs us Q I1 r1 q1) he hpl
end
end L2

namespace HT
open PySem PyProof.Rows

noncomputable def lexLt : List Int → List Int → Bool
  | [], [] => false
  | [], _ :: _ => true
  | _ :: _, [] => false
  | x :: xs, y :: ys => if x = y then lexLt xs ys else decide (x < y)
theorem lexLt_cons (x y : Int) (xs ys : List Int) : lexLt (x :: xs) (y :: ys) = if x = y then lexLt xs ys else decide (x < y) := rfl
theorem lexLt_nil_nil : lexLt [] [] = false := rfl
theorem lexLt_nil_cons (y : Int) (ys : List Int) : lexLt [] (y :: ys) = true := rfl
theorem lexLt_cons_nil (x : Int) (xs : List Int) : lexLt (x :: xs) [] = false := rfl


section
open PySem.SeqAt
open PySem.AutoSeq1 (wpAny_loadPart')
open PySem.MeetsSeq PySem.MeetsSeq2 PySem.MeetsSeq3

end

section
variable {prog : Program} {w : World} {A : Around} {E : Value → Shared → Prop} {s : Shared}



/-! ### t[a:b], not the whole -/
noncomputable def sIx (n d : Nat) : Option Int → Nat
  | none => d
  | some v => if v < 0 then (v + (n : Int)).toNat else min v.toNat n
theorem sIx_none (n d : Nat) : sIx n d none = d := rfl

end
end HT

namespace L2
open PySem PySem.Spec PyProof.Rows

/-! ### the parts of a slice -/
noncomputable abbrev TO := St → Hp → (Option Int → Hp → Prop) → Prop
noncomputable def PO (X : Cx) (e : Option Expr) (t : TO) : Prop :=
  ∀ (pins : List (Addr × Obj)) (s : Shared) (σ : St) (H : Hp) (Q : Option Int → Hp → Prop), Inv X pins σ H s → t σ H Q →
    wpAny (model X.prog X.w) X.A (evalPart e X.env) (fun u s' => ∃ o H', Inv X pins σ H' s' ∧ IsPart u o ∧ Q o H') X.xe s
noncomputable def tNoPart : TO := fun _ H Q => Q none H
noncomputable def tPart (t : TE) : TO := fun σ H Q => t σ H fun x H1 => ∃ i, x = .int i ∧ Q (some i) H1


section
variable {X : Cx} {e : Expr} {te : TE} {lo hi : Option Expr} {tl th : TO} {pos p2 : Pos}

theorem po_none : PO X none tNoPart := by
  intro pins s σ H Q I h
  rw [evalPart_none]
  exact wpAny_pure ⟨none, H, I, .none, h⟩
theorem po_some (h : PE X e te) : PO X (some e) (tPart te) := by
  intro pins s σ H Q I hw
  rw [evalPart_some]
  refine thn (h pins s σ H _ I hw) fun u s1 ⟨x, H1, I1, r1, q1⟩ => ?_
  obtain ⟨i, rfl, q⟩ := q1
  obtain ⟨t, rfl⟩ := r1
  exact ⟨some i, H1, I1, .int i t, q⟩

noncomputable def SlR (X : Cx) (r : V → Option Int → Option Int → Hp → VK → Prop) : Prop :=
  ∀ (pins : List (Addr × Obj)) (s : Shared) (σ : St) (H : Hp) (x : V) (v vl vu : Value) (lo hi : Option Int) (sl : Addr) (Q : VK), Inv X pins σ H s → RelV x v → s.heap.IsSliceOf sl vl vu .none → IsPart vl lo → IsPart vu hi → r x lo hi H Q →
    ∃ T id, typeLookup (.type T) "__getitem__" = pure (some (.builtin id)) ∧ s.TypeIs v T ∧ wpAny (model X.prog X.w) X.A (getItem v (.ref sl)) (EP X pins σ Q) X.xe s
theorem SlR.or {r r' : V → Option Int → Option Int → Hp → VK → Prop} (h : SlR X r) (h' : SlR X r') : SlR X (fun x lo hi H Q => r x lo hi H Q ∨ r' x lo hi H Q) := by
  intro pins s σ H x v vl vu lo hi sl Q I rx hs pl pu q
  rcases q with q | q
  · exact h pins s σ H x v vl vu lo hi sl Q I rx hs pl pu q
  · exact h' pins s σ H x v vl vu lo hi sl Q I rx hs pl pu q
noncomputable def tSl (r : V → Option Int → Option Int → Hp → VK → Prop) (te : TE) (tl th : TO) : TE := fun σ H Q => te σ H fun x H1 => tl σ H1 fun l H2 => th σ H2 fun u H3 => r x l u H3 Q
theorem pe_slice {r : V → Option Int → Option Int → Hp → VK → Prop} (hr : SlR X r) (he : PE X e te) (hl : PO X lo tl) (hu : PO X hi th) : PE X (.Subscript e (.Slice lo hi none p2) pos) (tSl r te tl th) := by
  intro pins s σ H Q I h
  refine Subscript_ (thn (he pins s σ H _ I h) fun v s1 ⟨x, H1, I1, r1, q1⟩ => ?_)
  refine wpAny_Slice (thn (hl pins s1 σ H1 _ I1 q1) fun vl s2 ⟨l, H2, I2, pl, q2⟩ => thn (hu pins s2 σ H2 _ I2 q2) fun vu s3 ⟨u, H3, I3, pu, q3⟩ => ?_)
  rw [evalPart_none]
  refine wpAny_pure ?_
  have I4 : Inv X pins σ H3 { s3 with heap := s3.heap.push { cls := .type "slice", data := .fields #[vl, vu, .none] } } := I3.kept (t' := s3.toks) fun b ob q => Heap.get?_push_of_some _ q
  obtain ⟨T, id, hT, ht, hg⟩ := hr pins { s3 with heap := s3.heap.push { cls := .type "slice", data := .fields #[vl, vu, .none] } } σ H3 x v vl vu l u s3.heap.objs.size Q I4 r1 (Heap.IsSliceOf.new ..) pl pu q3
  show wpAny (model X.prog X.w) X.A (subscriptTail e (.Slice lo hi none p2) v (.ref s3.heap.objs.size)) (EP X pins σ Q) X.xe { s3 with heap := s3.heap.push { cls := .type "slice", data := .fields #[vl, vu, .none] } }
  exact tail_any (ops := [.ref s3.heap.objs.size, v]) ht hT hg (by with_unfolding_all rfl)

noncomputable def cutV (xs : List V) (lo hi : Option Int) : List V := (xs.drop (HT.sIx xs.length 0 lo)).take (HT.sIx xs.length xs.length hi - HT.sIx xs.length 0 lo)
theorem cutV_length (xs : List V) (lo hi : Option Int) : (cutV xs lo hi).length ≤ xs.length := by
  unfold cutV
  rw [List.length_take, List.length_drop]
  omega
noncomputable def rSlT (K : PySem.W.Frag) : V → Option Int → Option Int → Hp → VK → Prop := fun x lo hi H Q => ∃ a xs, x = .ref a ∧ SqT K H a xs ∧
  ¬ (HT.sIx xs.length 0 lo = 0 ∧ HT.sIx xs.length xs.length hi = xs.length) ∧ ∀ p, H p = none → Q (.ref p) (upd H p (.tup (cutV xs lo hi)))

/-! ### t < u, t + u -/
noncomputable def rLtT (K : PySem.W.Frag) : R2 := fun x y H Q => ∃ a b ns ms, x = .ref a ∧ y = .ref b ∧ SqT K H a (ns.map V.int) ∧ SqT K H b (ms.map V.int) ∧ Q (.bl (HT.lexLt ns ms)) H
noncomputable def rCatT (K : PySem.W.Frag) : R2 := fun x y H Q => ∃ a b xs ys, x = .ref a ∧ y = .ref b ∧ SqT K H a xs ∧ SqT K H b ys ∧ xs ≠ [] ∧ xs.length + ys.length ≤ sizeLine ∧
  (ys = [] → Q (.ref a) H) ∧ (ys ≠ [] → ∀ p, H p = none → Q (.ref p) (upd H p (.tup (xs ++ ys))))
end
end L2

namespace L2
open PySem PySem.Spec PyProof.Rows

/-! ### places -/
noncomputable def ixN (n : Nat) (i : Int) : Option Nat := if 0 ≤ i then (if i < n then some i.toNat else none) else if -(n : Int) ≤ i then some (i + n).toNat else none
noncomputable def atI {α : Type} (xs : List α) (i : Int) : Option α := (ixN xs.length i).bind fun j => xs[j]?
theorem ixN_seq {n : Nat} {i : Int} {j : Nat} (h : ixN n i = some j) : seqIndex? i n = some j ∧ j < n ∧ -(n : Int) ≤ i ∧ i < n := by
  unfold ixN at h
  by_cases h0 : 0 ≤ i
  · rw [if_pos h0] at h
    by_cases h1 : i < n
    · rw [if_pos h1] at h
      have e : i.toNat = j := Option.some.inj h
      exact ⟨by rw [seqIndex_of h0 h1, e], by omega, by omega, h1⟩
    · rw [if_neg h1] at h; cases h
  · rw [if_neg h0] at h
    by_cases h1 : -(n : Int) ≤ i
    · rw [if_pos h1] at h
      have e : (i + n).toNat = j := Option.some.inj h
      exact ⟨by rw [seqIndex_neg (by omega) h1, e], by omega, h1, by omega⟩
    · rw [if_neg h1] at h; cases h
theorem atI_get {α : Type} {xs : List α} {i : Int} {v : α} (h : atI xs i = some v) : ∃ j, seqIndex? i xs.length = some j ∧ xs[j]? = some v ∧ j < xs.length ∧ -(xs.length : Int) ≤ i ∧ i < xs.length := by
  unfold atI at h
  cases e : ixN xs.length i with
  | none => rw [e] at h; cases h
  | some j =>
    rw [e] at h
    obtain ⟨h1, h2, h3, h4⟩ := ixN_seq e
    exact ⟨j, h1, h, h2, h3, h4⟩

/-! ### what may be subscripted -/
noncomputable def PlainIx (b : Expr) : Prop := ∀ o i, subscripted b false o i = operate [o, i] (getItem o i)
noncomputable def IxR (X : Cx) (r : R2) : Prop :=
  ∀ (value slice : Expr) (pins : List (Addr × Obj)) (s : Shared) (σ : St) (H : Hp) (x y : V) (v u : Value) (Q : VK), Inv X pins σ H s → RelV x v → RelV y u → r x y H Q →
    subscripted slice false v u = operate [v, u] (getItem v u) → wpAny (model X.prog X.w) X.A (subscriptTail value slice v u) (EP X pins σ Q) X.xe s
noncomputable def MtR (X : Cx) (id : String) (r : V → List V → Hp → VK → Prop) : Prop :=
  ∀ (pins : List (Addr × Obj)) (s : Shared) (σ : St) (H : Hp) (x : V) (xs : List V) (v : Value) (us : List Value) (Q : VK), Inv X pins σ H s → RelV x v → Vals xs us → r x xs H Q →
    wpAny (model X.prog X.w) X.A (call (.builtin id) (v :: us)) (EP X pins σ Q) X.xe s
section
variable {X : Cx} {a b : Expr} {ta tb : TE} {pos : Pos}
theorem IxR.or {r r' : R2} (h : IxR X r) (h' : IxR X r') : IxR X (fun x y H Q => r x y H Q ∨ r' x y H Q) := by
  intro value slice pins s σ H x y v u Q I rx ry q hs
  rcases q with q | q
  · exact h value slice pins s σ H x y v u Q I rx ry q hs
  · exact h' value slice pins s σ H x y v u Q I rx ry q hs
theorem pe_ix {r : R2} (hr : IxR X r) (ha : PE X a ta) (hb : PE X b tb) (hs : PlainIx b) : PE X (.Subscript a b pos) (tOp r ta tb) := by
  intro pins s σ H Q I h
  exact Subscript_ (binT ha hb I h fun v u s2 x y H2 I2 rx ry q => hr a b pins s2 σ H2 x y v u Q I2 rx ry q (hs _ _))

noncomputable def rIxL (K : PySem.W.Frag) : R2 := fun x y H Q => ∃ p xs i v, x = .ref p ∧ y = .int i ∧ SqL K H p xs ∧ atI xs i = some v ∧ Q v H
noncomputable def rIxT (K : PySem.W.Frag) : R2 := fun x y H Q => ∃ p xs i v, x = .ref p ∧ y = .int i ∧ SqT K H p xs ∧ atI xs i = some v ∧ Q v H
noncomputable def rIxS : R2 := fun x y H Q => ∃ z i c, x = .str z ∧ y = .int i ∧ z.length ≤ sizeLine ∧ atI z.cps.toList i = some c ∧ Q (.str ⟨#[c]⟩) H
theorem ix_list : IxR X (rIxL X.K) := by
  intro value slice pins s σ H x y v u Q I rx ry h hs
  obtain ⟨p, xs, i, z, rfl, rfl, hq, he, q⟩ := h
  cases rx
  obtain ⟨t, rfl⟩ := ry
  obtain ⟨its, r, pl, hz⟩ := I.list hq
  obtain ⟨j, h1, h2, h3, h4, h5⟩ := atI_get he
  obtain ⟨w, ew, rw'⟩ := r.get h2
  have hl := r.length
  have hn := line63
  have fin : EP X pins σ Q w s := ⟨z, H, I, rw', q⟩
  by_cases h0 : 0 ≤ i
  · have hj : i.toNat = j := by
      rw [seqIndex_of h0 h5] at h1
      exact Option.some.inj h1
    exact item_listR pl.isList h0 (by omega) (by rw [hj]; simpa using ew) fin hs
  · have hj : (i + (its.toArray.size : Int)).toNat = j := by
      rw [seqIndex_neg (by omega) h4] at h1
      rw [List.size_toArray, ← hl]
      exact Option.some.inj h1
    exact subscriptTail_builtinR (x := w) pl.isList.typeIs slot_list_getitem.lookup
      (wpAny_getItem_list_neg (Q := fun r s' => r = w ∧ EP X pins σ Q r s') pl.isList (by omega) (by rw [List.size_toArray] <;> omega) (by omega) (by rw [hj]; simpa using ew) ⟨rfl, fin⟩) hs
theorem ix_tup : IxR X (rIxT X.K) := by
  intro value slice pins s σ H x y v u Q I rx ry h hs
  obtain ⟨p, xs, i, z, rfl, rfl, hq, he, q⟩ := h
  cases rx
  obtain ⟨t, rfl⟩ := ry
  obtain ⟨its, r, pl, hz⟩ := I.tuple hq
  obtain ⟨j, h1, h2, h3, h4, h5⟩ := atI_get he
  obtain ⟨w, ew, rw'⟩ := r.get h2
  have hl := r.length
  have hn := line63
  have fin : EP X pins σ Q w s := ⟨z, H, I, rw', q⟩
  exact subscriptTail_builtinR (x := w) pl.typeIs slot_tuple_getitem.lookup
    (getItem_tuple (j := j) (Q := fun r s' => r = w ∧ EP X pins σ Q r s') pl (by omega) (by omega) (by rw [List.size_toArray, ← hl]; exact h1) (by simpa using ew) ⟨rfl, fin⟩) hs
theorem ix_str : IxR X rIxS := by
  intro value slice pins s σ H x y v u Q I rx ry h hs
  obtain ⟨z, i, c, rfl, rfl, hz, he, q⟩ := h
  obtain ⟨t, rfl⟩ := rx
  obtain ⟨t', rfl⟩ := ry
  obtain ⟨j, h1, h2, h3, h4, h5⟩ := atI_get he
  have hl : z.cps.toList.length = z.length := by simp [Str.length]
  rw [hl] at h1 h4 h5
  have hn := line63
  exact tail_any (typeIs_str s z t) slot_str_getitem.lookup (getItem_str (c := c) (by
    have e1 : decide (i < -(2 ^ 63 : Int)) = false := decide_eq_false (by omega)
    have e2 : decide (i ≥ 2 ^ 63) = false := decide_eq_false (by omega)
    rw [e1, e2, Bool.or_false]) (by rw [h1]; simpa using h2) ⟨.str ⟨#[c]⟩, H, I.tok _, ⟨_, rfl⟩, q⟩) hs
noncomputable def rIx (K : PySem.W.Frag) : R2 := fun x y H Q => rIxL K x y H Q ∨ rIxT K x y H Q ∨ rIxS x y H Q
theorem ix_seq : IxR X (rIx X.K) := ix_list.or (ix_tup.or ix_str)

/-! ### xs[i] = v, any sign -/
noncomputable def rSetL : V → V → V → Hp → (Hp → Prop) → Prop := fun o i v H Q => ∃ p xs k j, o = .ref p ∧ i = .int k ∧ H p = some (.lst xs) ∧ ixN xs.length k = some j ∧ Q (upd H p (.lst (xs.set j v)))

/-! ### slices -/
theorem slice_bounds (lo hi : Option Int) (n : Nat) : (sliceBounds lo hi none n).1 = ((HT.sIx n 0 lo : Nat) : Int) ∧ (sliceBounds lo hi none n).2.1 = ((HT.sIx n n hi : Nat) : Int) ∧ (sliceBounds lo hi none n).2.2 = 1 := by
  refine ⟨?_, ?_, rfl⟩
  · cases lo with
    | none => simp [sliceBounds, HT.sIx]
    | some i =>
      simp only [sliceBounds, HT.sIx, Option.getD_none, show (1 : Int) > 0 by decide, if_true]
      by_cases h : i < 0
      · simp only [h, if_true] <;> omega
      · simp only [h, if_false] <;> omega
  · cases hi with
    | none => simp [sliceBounds, HT.sIx]
    | some i =>
      simp only [sliceBounds, HT.sIx, Option.getD_none, show (1 : Int) > 0 by decide, if_true]
      by_cases h : i < 0
      · simp only [h, if_true] <;> omega
      · simp only [h, if_false] <;> omega
theorem slicePick_cut (its : List Value) (lo hi : Option Int) : slicePick its.toArray lo hi none = ((its.drop (HT.sIx its.length 0 lo)).take (HT.sIx its.length its.length hi - HT.sIx its.length 0 lo)).toArray := by
  obtain ⟨h1, h2, h3⟩ := slice_bounds lo hi its.toArray.size
  unfold slicePick
  rw [h1, h2, h3]
  simp only [sliceRange_one, pick_run, List.size_toArray] <;> rfl
noncomputable def rSlL (K : PySem.W.Frag) : V → Option Int → Option Int → Hp → VK → Prop := fun x lo hi H Q => ∃ a xs, x = .ref a ∧ SqL K H a xs ∧ ∀ p, H p = none → Q (.ref p) (upd H p (.lst (cutV xs lo hi)))
theorem sl_list : SlR X (rSlL X.K) := by
  intro pins s σ H x v vl vu lo hi sl Q I rx hs pl pu h
  obtain ⟨a, xs, rfl, hx, q⟩ := h
  cases rx
  obtain ⟨its, r, ht, hz⟩ := I.list hx
  have hlen := r.length
  refine ⟨"list", _, slot_list_getitem.lookup, ht.isList.typeIs, ?_⟩
  refine wpAny_getItem_list_slice ht.isList hs pl pu .none (by simp) ?_ (by rw [List.size_toArray] <;> omega)
  rw [slicePick_cut, ← hlen]
  refine ⟨.ref s.heap.objs.size, _, I.laid (t' := s.toks) (o := .lst (cutV xs lo hi)) (fun b ob q => Heap.get?_push_of_some _ q) (Nat.le_refl _) ?_, rfl, q _ (I.hok.fresh (Nat.le_refl _))⟩
  exact ⟨Nat.le_trans (cutV_length xs lo hi) hz, _, 0, (r.drop (HT.sIx xs.length 0 lo)).take (HT.sIx xs.length xs.length hi - HT.sIx xs.length 0 lo), Heap.get?_push_size _ rfl⟩

/-! ### in, not in: flat items -/
noncomputable def flatV : V → Bool
  | .non => true
  | .bl _ => true
  | .int _ => true
  | .str _ => true
  | _ => false
noncomputable def eqV : V → V → Bool
  | .non, .non => true
  | .bl a, .bl b => a == b
  | .bl a, .int b => (if a then 1 else 0) == b
  | .int a, .bl b => a == (if b then 1 else 0)
  | .int a, .int b => a == b
  | .str a, .str b => a == b
  | _, _ => false
theorem eqAt_V {A : Around} {s : Shared} {y x : V} {u v : Value} (ry : RelV y u) (rx : RelV x v) (fy : flatV y = true) (fx : flatV x = true) : SeqAt.EqAt A s u v (eqV y x) := by
  cases y with
  | non =>
    cases ry
    cases x with
    | non => cases rx; exact SeqAt.EqAt.same _
    | bl b => cases rx; exact SeqAt.EqAt.none_bool b
    | int b => obtain ⟨t, rfl⟩ := rx; exact SeqAt.EqAt.none_int b t
    | str b => obtain ⟨t, rfl⟩ := rx; exact SeqAt.EqAt.none_str b t
    | _ => exact absurd (show false = true from fx) Bool.false_ne_true
  | bl a =>
    cases ry
    cases x with
    | non => cases rx; exact SeqAt.EqAt.bool_none a
    | bl b => cases rx; exact SeqAt.EqAt.bool_bool a b
    | int b => obtain ⟨t, rfl⟩ := rx; exact SeqAt.EqAt.bool_int a b t
    | str b => obtain ⟨t, rfl⟩ := rx; exact SeqAt.EqAt.bool_str a b t
    | _ => exact absurd (show false = true from fx) Bool.false_ne_true
  | int a =>
    obtain ⟨t', rfl⟩ := ry
    cases x with
    | non => cases rx; exact SeqAt.EqAt.int_none a t'
    | bl b => cases rx; exact SeqAt.EqAt.int_bool a t' b
    | int b => obtain ⟨t, rfl⟩ := rx; exact SeqAt.EqAt.int_int a t' b t
    | str b => obtain ⟨t, rfl⟩ := rx; exact SeqAt.EqAt.int_str a t' b t
    | _ => exact absurd (show false = true from fx) Bool.false_ne_true
  | str a =>
    obtain ⟨t', rfl⟩ := ry
    cases x with
    | non => cases rx; exact SeqAt.EqAt.str_none a t'
    | bl b => cases rx; exact SeqAt.EqAt.str_bool a t' b
    | int b => obtain ⟨t, rfl⟩ := rx; exact SeqAt.EqAt.str_int a t' b t
    | str b => obtain ⟨t, rfl⟩ := rx; exact SeqAt.EqAt.str_str a t' b t
    | _ => exact absurd (show false = true from fx) Bool.false_ne_true
  | _ => exact absurd (show false = true from fy) Bool.false_ne_true
noncomputable def eqU (x : V) (u : Value) : Bool := match u with
  | .none => eqV .non x
  | .bool b => eqV (.bl b) x
  | .int i _ => eqV (.int i) x
  | .str z _ => eqV (.str z) x
  | _ => false
theorem eqU_of {x y : V} {u : Value} (r : RelV y u) (f : flatV y = true) : eqU x u = eqV y x := by
  cases y with
  | non => cases r; rfl
  | bl b => cases r; rfl
  | int i => obtain ⟨t, rfl⟩ := r; rfl
  | str z => obtain ⟨t, rfl⟩ := r; rfl
  | _ => exact absurd (show false = true from f) Bool.false_ne_true
theorem any_eqU {x : V} : ∀ {xs : List V} {us : List Value}, Vals xs us → xs.all flatV = true → us.any (eqU x) = xs.any fun y => eqV y x
  | _, _, .nil, _ => rfl
  | y :: xs, u :: us, .cons r t, f => by
    rw [List.all_cons, Bool.and_eq_true] at f
    rw [List.any_cons, List.any_cons, eqU_of r f.1, any_eqU t f.2]
theorem mem_eqAt {A : Around} {s : Shared} {x : V} {v : Value} (rx : RelV x v) (fx : flatV x = true) : ∀ {xs : List V} {us : List Value}, Vals xs us → xs.all flatV = true → ∀ u ∈ us, SeqAt.EqAt A s u v (eqU x u)
  | _, _, .nil, _ => fun u hu => by cases hu
  | y :: xs, u :: us, .cons r t, f => fun u' hu => by
    rw [List.all_cons, Bool.and_eq_true] at f
    rcases List.mem_cons.mp hu with rfl | hu
    · rw [eqU_of r f.1]; exact eqAt_V r rx f.1 fx
    · exact mem_eqAt rx fx t f.2 u' hu
noncomputable def inV (x : V) (xs : List V) : Bool := xs.any fun y => eqV y x
noncomputable def rIn (K : PySem.W.Frag) (neg : Bool) : R2 := fun x y H Q => ∃ p xs, y = .ref p ∧ (SqL K H p xs ∨ SqT K H p xs) ∧ flatV x = true ∧ xs.all flatV = true ∧ Q (.bl (if neg then !inV x xs else inV x xs)) H
theorem op_in_seq : OpR X (compareOp .In) (rIn X.K false) := by
  intro pins s σ H x y v u Q I rx ry h
  obtain ⟨p, xs, rfl, hq, fx, fs, q⟩ := h
  cases ry
  rcases hq with hq | hq
  · obtain ⟨its, r, pl, hz⟩ := I.list hq
    refine SeqAt.in_listAt (eqU x) pl.isList (fun w hw => mem_eqAt rx fx r fs w (by simpa using hw)) ⟨.bl _, H, I, rfl, ?_⟩
    rw [show its.toArray.any (eqU x) = its.any (eqU x) by simp, any_eqU r fs]
    exact q
  · obtain ⟨its, r, pl, hz⟩ := I.tuple hq
    refine SeqAt.in_tupleAt (eqU x) pl (fun w hw => mem_eqAt rx fx r fs w (by simpa using hw)) ⟨.bl _, H, I, rfl, ?_⟩
    rw [show its.toArray.any (eqU x) = its.any (eqU x) by simp, any_eqU r fs]
    exact q

/-! ### len, list(x), tuple(x) of any list or tuple that is read -/
theorem call_len_seq : CallR X (.builtin "len") (fun xs H Q => ∃ p ys, xs = [.ref p] ∧ (SqL X.K H p ys ∨ SqT X.K H p ys) ∧ Q (.int ys.length) H) := by
  intro pins s σ H xs us Q I r h
  obtain ⟨p, ys, rfl, hq, q⟩ := h
  obtain ⟨u, rfl, rx⟩ := vals1 r
  cases rx
  have hn := line63
  rcases hq with hq | hq
  · obtain ⟨its, r', pl, hz⟩ := I.list hq
    have hlen := r'.length
    exact Calls.call_len_list pl.isList (by simp only [List.size_toArray] <;> omega) ⟨.int ys.length, H, I.tok _, ⟨s.toks + 1, by rw [List.size_toArray, hlen]⟩, q⟩
  · obtain ⟨its, r', pl, hz⟩ := I.tuple hq
    have hlen := r'.length
    exact len_tuple pl (by simp only [List.size_toArray] <;> omega) ⟨.int ys.length, H, I.tok _, ⟨s.toks + 1, by rw [List.size_toArray, hlen]⟩, q⟩
theorem call_len_str : CallR X (.builtin "len") (fun xs H Q => ∃ z, xs = [.str z] ∧ z.length ≤ sizeLine ∧ Q (.int z.length) H) := by
  intro pins s σ H xs us Q I r h
  obtain ⟨z, rfl, hz, q⟩ := h
  obtain ⟨u, rfl, t, rfl⟩ := vals1 r
  have hn := line63
  exact len_str (by omega) ⟨.int z.length, H, I.tok _, ⟨_, rfl⟩, q⟩
theorem CallR.or {f : Value} {r r' : List V → Hp → VK → Prop} (h : CallR X f r) (h' : CallR X f r') : CallR X f (fun xs H Q => r xs H Q ∨ r' xs H Q) := by
  intro pins s σ H xs us Q I rs q
  rcases q with q | q
  · exact h pins s σ H xs us Q I rs q
  · exact h' pins s σ H xs us Q I rs q

/-! ### the call of a builtin's method: o.m(..) -/
noncomputable def tyV (K : PySem.W.Frag) (T : String) (x : V) (H : Hp) : Prop := match x with
  | .str _ => T = "str"
  | .int _ => T = "int"
  | .ref p => (T = "list" ∧ ∃ xs, SqL K H p xs) ∨ (T = "tuple" ∧ ∃ o, K.lookup p = some o ∧ o.cls = .type "tuple" ∧ o.dict = none) ∨
      (T = "dict" ∧ ((∃ kvs, H p = some (.dK kvs)) ∨ ∃ kvs, H p = some (.dT kvs))) ∨ (T = "set" ∧ ∃ S n, H p = some (.set S n))
  | _ => False
theorem tyV_is {pins : List (Addr × Obj)} {σ : St} {H : Hp} {s : Shared} {T : String} {x : V} {v : Value} (I : Inv X pins σ H s) (r : RelV x v) (ty : tyV X.K T x H) :
    s.TypeIs v T ∧ ∀ a, v = .ref a → ∃ ob, s.heap.get? a = some ob ∧ ob.dict = none := by
  cases x with
  | str z =>
    obtain ⟨t, rfl⟩ := r
    cases (show T = "str" from ty)
    exact ⟨typeIs_str s z t, fun _ e => nomatch e⟩
  | int i =>
    obtain ⟨t, rfl⟩ := r
    cases (show T = "int" from ty)
    exact ⟨typeIs_int s i t, fun _ e => nomatch e⟩
  | ref p =>
    cases r
    rcases ty with ⟨rfl, xs, hq⟩ | ⟨rfl, o, hk, hc, hd⟩ | ⟨rfl, hk⟩ | ⟨rfl, S, n, hk⟩
    · obtain ⟨its, _, pl, _⟩ := I.list hq
      refine ⟨pl.isList.typeIs, fun a e => ?_⟩
      cases e
      obtain ⟨o, n, e, c, hd, _⟩ := pl
      exact ⟨o, e, hd⟩
    · refine ⟨⟨o, I.kIn p o hk, hc⟩, fun a e => ?_⟩
      cases e
      exact ⟨o, I.kIn _ o hk, hd⟩
    · have z : ∃ o, s.heap.get? p = some o ∧ o.ExactDict := by
        rcases hk with ⟨kvs, hk⟩ | ⟨kvs, hk⟩
        · obtain ⟨_, _, _, _, o, _, _, e, ex, _⟩ := I.hok p _ hk
          exact ⟨o, e, ex⟩
        · obtain ⟨_, _, _, _, o, _, _, e, ex, _⟩ := I.hok p _ hk
          exact ⟨o, e, ex⟩
      obtain ⟨o, e, ex⟩ := z
      refine ⟨⟨o, e, ex.1⟩, fun a e2 => ?_⟩
      cases e2
      exact ⟨o, e, ex.2.1⟩
    · obtain ⟨o, _, _, _, e, ex, _⟩ := I.hok p _ hk
      refine ⟨⟨o, e, ex.1⟩, fun a e2 => ?_⟩
      cases e2
      exact ⟨o, e, ex.2.1⟩
  | _ => exact False.elim ty
noncomputable def tBM0 (K : PySem.W.Frag) (T : String) (r : V → List V → Hp → VK → Prop) (to : TE) : TE := fun σ H Q => to σ H fun x H1 => tyV K T x H1 ∧ r x [] H1 Q
noncomputable def tBM (K : PySem.W.Frag) (T : String) (r : V → List V → Hp → VK → Prop) (to : TE) (t : TA) : TE := fun σ H Q => to σ H fun x H1 => tyV K T x H1 ∧ t σ H1 fun xs H2 => r x xs H2 Q
variable {o e : Expr} {es : List Expr} {to : TE} {t : TA} {name : Str} {apos cpos : Pos} {T id : String} {r : V → List V → Hp → VK → Prop}
theorem pe_bm (pa : PlainAttrs T) (slot : Slot T name id) (hty : typeOf (.builtin id) = pure (.type "method_descriptor")) (hm : MtR X id r) (ho : PE X o to) (ha : PA X (e :: es) t)
    (hbase : attributeBase o name X.env (eval o X.env) = eval o X.env := by rfl)
    (hfew : ((backTo cpos (starEach (e :: es) X.env)).all (fun x => !x.1) && (backToKw cpos (keywordEach [] X.env)).all (fun x => x.1.isSome)
      && decide ((e :: es).length + ([] : List Keyword).length + (if ([] : List Keyword).isEmpty then 0 else 1) < 30)) = true := by rfl)
    (hline : (apos.endLine == cpos.line) = true := by rfl) (hs : starEach (e :: es) X.env = (false, eval e X.env) :: starEach es X.env := by rfl) (hplain : (backTo cpos (starEach es X.env)).any (·.1) = false := by rfl) :
    PE X (.Call (.Attribute o name apos) (e :: es) [] cpos) (tBM X.K T r to t) := by
  intro pins s σ H Q I h
  refine wpAny_Call_method_late hbase hfew hline rfl (thn (ho pins s σ H _ I h) fun v s1 ⟨x, H1, I1, r1, ty, q1⟩ => ?_)
  obtain ⟨h1, h2⟩ := tyV_is I1 r1 ty
  refine ⟨T, id, pa, slot, hty, h1, h2, ?_⟩
  have hA := ha cpos pins s1 σ H1 _ I1 q1
  rw [hs] at hA ⊢
  refine Calls.callWith_builtin (by show (false || (backTo cpos (starEach es X.env)).any (·.1)) = false; rw [hplain] <;> rfl) (Calls.evalArgs_plain ?_)
  exact thn hA fun us s2 ⟨vs, H2, I2, r2, q2⟩ => hm pins s2 σ H2 x vs v us Q I2 r1 r2 q2
/- xs.append(e), list.index on a module's tuple .. are MtR facts of 06m -/
end
end L2

namespace L2
open PySem PySem.Spec PyProof.Rows

noncomputable def MtM (X : Cx) (id : String) (r : V → List V → Hp → VK → Prop) : Prop :=
  ∀ (pins : List (Addr × Obj)) (s : Shared) (σ : St) (H : Hp) (x : V) (xs : List V) (v : Value) (us : List Value) (Q : VK), Inv X pins σ H s → RelV x v → Vals xs us → r x xs H Q →
    wpAny (model X.prog X.w) X.A (call (.builtin id) (v :: us)) (EP X pins σ Q) X.xe s

/-! ### lists of values -/
theorem Vals.one : ∀ {x : V} {us : List Value}, Vals [x] us → ∃ u, us = [u] ∧ RelV x u
  | _, _, .cons r .nil => ⟨_, rfl, r⟩

section
variable {X : Cx} {pins : List (Addr × Obj)} {σ : St} {H : Hp} {s : Shared} {l b : Addr} {xs ys zs : List V}

/-! ### the two steps: a tracked list is rewritten, a new list is laid -/
theorem Inv.lset {its its' : List Value} {n : Nat} {f : Array Value → Array Value} {t' : Nat} (I : Inv X pins σ H s) (hH : H l = some (.lst xs))
    (e : s.heap.get? l = some { cls := .type "list", data := .seq its.toArray n }) (hf : f its.toArray = its'.toArray) (hv : Vals ys its') (hz : ys.length ≤ sizeLine) :
    Inv X pins σ (upd H l (.lst ys)) { s with heap := s.heap.update l (Obj.mapSeq f), toks := t' } := by
  have q := PySem.IsL.update e f
  rw [hf] at q
  refine I.write (x := l) (e := l) (by rw [hH]; exact trivial) (.inl rfl) (fun b' u hb hu => (Heap.get?_update_other s.heap (Obj.mapSeq f) (Ne.symm hb)).trans hu) ⟨_, q⟩ ?_
  exact ⟨hz, its', _, hv, q⟩
theorem Inv.lnew {its : List Value} {t' : Nat} (I : Inv X pins σ H s) (hv : Vals ys its) (hz : ys.length ≤ sizeLine) :
    Inv X pins σ (upd H s.heap.objs.size (.lst ys)) { s with heap := s.heap.push { cls := .type "list", data := .seq its.toArray }, toks := t' } :=
  I.laid (fun _ _ q => Heap.get?_push_of_some _ q) (Nat.le_refl _) ⟨hz, its, 0, hv, Heap.get?_push_size _ rfl⟩
theorem Inv.fresh (I : Inv X pins σ H s) : H s.heap.objs.size = none := I.hok.fresh (Nat.le_refl _)
theorem Inv.lstM (I : Inv X pins σ H s) (hH : H l = some (.lst xs)) : xs.length ≤ sizeLine ∧ ∃ (its : List Value) (n : Nat), Vals xs its ∧ xs.length = its.length ∧ s.heap.get? l = some { cls := .type "list", data := .seq its.toArray n } := by
  obtain ⟨z, its, n, r, e⟩ := I.hok l _ hH
  exact ⟨z, its, n, r, r.length, e⟩

theorem notLongL {n : Nat} (h : n ≤ sizeLine) : Builtin.List.listTooLong n = false := by
  unfold Builtin.List.listTooLong
  exact decide_eq_false (by omega)
end

section
variable {X : Cx}

/-! ### methods -/
noncomputable def rAppend : V → List V → Hp → VK → Prop := fun x vs H Q => ∃ l xs y, x = .ref l ∧ vs = [y] ∧ H l = some (.lst xs) ∧ xs.length < sizeLine ∧ Q .non (upd H l (.lst (xs ++ [y])))
theorem mt_append : MtM X "list.append" rAppend := by
  intro pins s σ H x vs v us Q I rx rv h
  obtain ⟨l, xs, y, rfl, rfl, hH, hz, q⟩ := h
  cases rx
  obtain ⟨u, rfl, ru⟩ := rv.one
  obtain ⟨z, its, n, r, hl, e⟩ := I.lstM hH
  refine call_meets F.slot_list_append ⟨_, e, rfl⟩ F.entry_list_append (F.args_list_append_2 _ _) (PySem.list_append l its.toArray n u (by rw [List.size_toArray]; omega)) ⟨e, ?_⟩
  refine ⟨.non, _, I.lset (its' := its ++ [u]) hH e (by simp) (r.append (.cons ru .nil)) ?_, rfl, q⟩
  rw [List.length_append, List.length_singleton]
  omega

noncomputable def rExtend : V → List V → Hp → VK → Prop := fun x vs H Q => ∃ l b xs zs, x = .ref l ∧ vs = [.ref b] ∧ H l = some (.lst xs) ∧ H b = some (.lst zs) ∧ xs.length + zs.length ≤ sizeLine ∧ Q .non (upd H l (.lst (xs ++ zs)))
theorem mt_extend : MtM X "list.extend" rExtend := by
  intro pins s σ H x vs v us Q I rx rv h
  obtain ⟨l, b, xs, zs, rfl, rfl, hH, hB, hz, q⟩ := h
  cases rx
  obtain ⟨u, rfl, ru⟩ := rv.one
  cases ru
  obtain ⟨z, its, n, r, hl, e⟩ := I.lstM hH
  obtain ⟨z2, its2, n2, r2, hl2, e2⟩ := I.lstM hB
  have hsz : its.toArray.size + its2.toArray.size ≤ sizeLine := by rw [List.size_toArray, List.size_toArray]; omega
  have hlong : ¬ (!its.toArray.isEmpty && Builtin.List.listTooLong (its.toArray.size + its2.toArray.size)) = true := by
    rw [notLongL hsz, Bool.and_false]
    exact Bool.false_ne_true
  refine call_meets F.slot_list_extend ⟨_, e, rfl⟩ F.entry_list_extend (F.args_list_extend_2 _ _)
    (AutoSeq1.list_extend_list_list_0 l its.toArray n b its2.toArray n2 hlong (by rw [List.size_toArray]; omega) (by omega)) ⟨e, e2, ?_⟩
  refine ⟨.non, _, I.lset (its' := its ++ its2) hH e (by simp) (r.append r2) ?_, rfl, q⟩
  rw [List.length_append]
  omega

noncomputable def rPop : V → List V → Hp → VK → Prop := fun x vs H Q => ∃ l xs y, x = .ref l ∧ vs = [] ∧ H l = some (.lst xs) ∧ xs[xs.length - 1]? = some y ∧ Q y (upd H l (.lst xs.dropLast))

noncomputable def rPopAt : V → List V → Hp → VK → Prop := fun x vs H Q => ∃ l xs i k y, x = .ref l ∧ vs = [.int i] ∧ H l = some (.lst xs) ∧ -(2 ^ 63) ≤ i ∧ i < 2 ^ 63 ∧ seqIndex? i xs.length = some k ∧ xs[k]? = some y ∧ Q y (upd H l (.lst (xs.eraseIdx k)))

noncomputable def rReverse : V → List V → Hp → VK → Prop := fun x vs H Q => ∃ l xs, x = .ref l ∧ vs = [] ∧ H l = some (.lst xs) ∧ Q .non (upd H l (.lst xs.reverse))

noncomputable def rClear : V → List V → Hp → VK → Prop := fun x vs H Q => ∃ l xs, x = .ref l ∧ vs = [] ∧ H l = some (.lst xs) ∧ Q .non (upd H l (.lst []))

/-! ### list + list, list += list, list * int -/
noncomputable def rCat : R2 := fun x y H Q => ∃ l b xs zs, x = .ref l ∧ y = .ref b ∧ H l = some (.lst xs) ∧ H b = some (.lst zs) ∧ xs.length + zs.length ≤ sizeLine ∧ ∀ p, H p = none → Q (.ref p) (upd H p (.lst (xs ++ zs)))
noncomputable def rRep : R2 := fun x y H Q => ∃ l k xs, x = .ref l ∧ y = .int k ∧ H l = some (.lst xs) ∧ -(2 ^ 63) ≤ k ∧ k < 2 ^ 63 ∧ xs.length * k.toNat ≤ sizeLine ∧
  ∀ p, H p = none → Q (.ref p) (upd H p (.lst (List.replicate k.toNat xs).flatten))

/-! ### del xs[i] -/
end

/-! ### xs[a:b] = ys -/
section
variable {prog : Program} {w : World} {A : Around} {E : Value → Shared → Prop} {s : Shared}
end

section
variable {X : Cx}
end
end L2

namespace L2
open PySem PySem.Spec PyProof.Rows

/-! ### lists of pairs as tables -/
section
variable {κ : Type} [DecidableEq κ]
noncomputable def valV (kvs : List (κ × V)) (k : κ) : Option V := (kvs.find? fun kv => decide (kv.1 = k)).map (·.2)
noncomputable def putK (kvs : List (κ × V)) (k : κ) (v : V) : List (κ × V) :=
  if (kvs.any fun kv => decide (kv.1 = k)) = true then kvs.map (fun kv => if kv.1 = k then (kv.1, v) else kv) else kvs ++ [(k, v)]
noncomputable def dropK (kvs : List (κ × V)) (k : κ) : List (κ × V) := kvs.filter fun kv => decide (kv.1 ≠ k)

theorem valV_nil {k : κ} : valV ([] : List (κ × V)) k = none := rfl
theorem valV_pos {p : κ × V} {r : List (κ × V)} {k : κ} (e : p.1 = k) : valV (p :: r) k = some p.2 := by simp [valV, List.find?_cons, e]
theorem valV_neg {p : κ × V} {r : List (κ × V)} {k : κ} (e : ¬ p.1 = k) : valV (p :: r) k = valV r k := by simp [valV, List.find?_cons, e]
theorem length_putK (kvs : List (κ × V)) (k : κ) (v : V) : (putK kvs k v).length ≤ kvs.length + 1 := by
  unfold putK
  split
  · rw [List.length_map]; omega
  · rw [List.length_append, List.length_cons, List.length_nil]; omega

theorem RelO.isSome_eq {o : Option V} {u : Option Value} (r : RelO o u) : o.isSome = u.isSome := by
  cases o with
  | none => cases u with
    | none => rfl
    | some _ => exact (show False from r).elim
  | some _ => cases u with
    | none => exact (show False from r).elim
    | some _ => rfl
theorem RelO.getD {o : Option V} {u : Option Value} {d : V} {d' : Value} (r : RelO o u) (rd : RelV d d') : RelV (o.getD d) (u.getD d') := by
  cases o with
  | none => cases u with
    | none => exact rd
    | some _ => exact (show False from r).elim
  | some _ => cases u with
    | none => exact (show False from r).elim
    | some _ => exact r

theorem KV.val {kvs : List (κ × V)} {vs : List (κ × Value)} (r : KV kvs vs) (k : κ) : RelO (valV kvs k) (valueAt vs k) := by
  unfold KV at r
  induction r with
  | nil => exact True.intro
  | @cons p q ps qs h t ih =>
    obtain ⟨h1, h2⟩ := h
    by_cases e : p.1 = k
    · have e' : q.1 = k := h1.symm.trans e
      have b : valueAt (q :: qs) k = some q.2 := by simp [valueAt, List.find?_cons, e']
      rw [valV_pos e, b]; exact h2
    · have e' : ¬ q.1 = k := fun z => e (h1.trans z)
      have b : valueAt (q :: qs) k = valueAt qs k := by simp [valueAt, List.find?_cons, e']
      rw [valV_neg e, b]; exact ih
theorem KV.any {kvs : List (κ × V)} {vs : List (κ × Value)} (r : KV kvs vs) (k : κ) : (kvs.any fun kv => decide (kv.1 = k)) = vs.any fun kv => decide (kv.1 = k) := by
  unfold KV at r
  induction r with
  | nil => rfl
  | cons h t ih => rw [List.any_cons, List.any_cons, ih, h.1]
theorem KV.repl {kvs : List (κ × V)} {vs : List (κ × Value)} (r : KV kvs vs) (k : κ) {y : V} {u : Value} (ry : RelV y u) :
    KV (kvs.map fun kv => if kv.1 = k then (kv.1, y) else kv) (vs.map fun kv => if kv.1 = k then (kv.1, u) else kv) := by
  unfold KV at r ⊢
  induction r with
  | nil => exact .nil
  | @cons p q ps qs h t ih =>
    rw [List.map_cons, List.map_cons]
    refine .cons ?_ ih
    obtain ⟨h1, h2⟩ := h
    by_cases e : p.1 = k
    · rw [if_pos e, if_pos (h1.symm.trans e)]; exact ⟨h1, ry⟩
    · rw [if_neg e, if_neg (fun z => e (h1.trans z))]; exact ⟨h1, h2⟩
theorem KV.put {kvs : List (κ × V)} {vs : List (κ × Value)} (r : KV kvs vs) (k : κ) {y : V} {u : Value} (ry : RelV y u) : KV (putK kvs k y) (stored vs k u) := by
  unfold putK stored
  rw [r.any k]
  by_cases e : (vs.any fun kv => decide (kv.1 = k)) = true
  · rw [if_pos e, if_pos e]; exact r.repl k ry
  · rw [if_neg e, if_neg e]; exact Paired.snoc r ⟨rfl, ry⟩
end


/-! ### a tracked dict, its keys ints and texts or tuples of these -/
theorem kV_is {P : Program} {w : World} {k : Key} {u : Value} (r : RelV (kV k) u) : (mixKind P w).is k u = true := by
  cases k with
  | inl i => obtain ⟨t, e⟩ := (show ∃ t, u = Value.int i t from r); subst e; exact mixKind_int P w i t
  | inr x => obtain ⟨t, e⟩ := (show ∃ t, u = Value.str x t from r); subst e; exact mixKind_str P w x t
theorem items_are {P : Program} {w : World} : ∀ {ks : List Key} {us : List Value}, Vals (ks.map kV) us → ItemsAre (mixKind P w) ks us
  | [], _, r => by rw [List.map_nil] at r; cases r; exact .nil
  | k :: ks, _, r => by
    rw [List.map_cons] at r
    cases r with
    | cons h t => exact .cons (kV_is h) (items_are t)

noncomputable abbrev KT (H : Hp) : List (List Key × V) → List (List Key × Addr × Value) → Prop := Paired fun p q => p.1 = q.1 ∧ H q.2.1 = some (.tup (p.1.map kV)) ∧ RelV p.2 q.2.2
theorem KT.val {H : Hp} {kvs : List (List Key × V)} {xs : List (List Key × Addr × Value)} (r : KT H kvs xs) (k : List Key) : RelO (valV kvs k) ((atKey xs k).map (·.2)) := by
  induction r with
  | nil => exact True.intro
  | @cons p q ps qs h t ih =>
    obtain ⟨h1, _, h2⟩ := h
    by_cases e : p.1 = k
    · have e' : q.1 = k := h1.symm.trans e
      have b : atKey (q :: qs) k = some q.2 := by simp [atKey, List.find?_cons, e']
      rw [valV_pos e, b]; exact h2
    · have e' : ¬ q.1 = k := fun z => e (h1.trans z)
      have b : atKey (q :: qs) k = atKey qs k := by simp [atKey, List.find?_cons, e']
      rw [valV_neg e, b]; exact ih

section
variable {P : Program} {w : World} {H : Hp} {h : Heap} {a : Addr}
theorem rd_of {u : HO} (ok : HOk P w H h) (e : Rd H a u) : ObjOk P w H h a u := e.ok ok
theorem dk_rd {kvs : List (Key × V)} (ok : HOk P w H h) (e : Rd H a (.dK kvs)) : kvs.length ≤ sizeLine ∧ (a == sysModules) = false ∧ ∃ vs, KV kvs vs ∧ h.DictOf (mixKind P w) a vs :=
  show ObjOk P w H h a (.dK kvs) from rd_of ok e
theorem dk_of {kvs : List (Key × V)} (ok : HOk P w H h) (e : H a = some (.dK kvs)) : kvs.length ≤ sizeLine ∧ (a == sysModules) = false ∧ ∃ vs, KV kvs vs ∧ h.DictOf (mixKind P w) a vs := dk_rd ok (.inl e)
theorem key_of {ks : List Key} (ok : HOk P w H h) (e : H a = some (.tup (ks.map kV))) : (tupleKind (mixKind P w)).is h ks a := by
  obtain ⟨_, its, r, o, h1, h2, n, h3⟩ := (show ObjOk P w H h a (.tup (ks.map kV)) from ok a _ e)
  exact ⟨o, its.toArray, n, h1, h2, h3, by simpa using items_are r⟩
theorem dt_rd {kvs : List (List Key × V)} (ok : HOk P w H h) (e : Rd H a (.dT kvs)) : kvs.length ≤ sizeLine ∧ (a == sysModules) = false ∧
    ∃ xs, KT H kvs xs ∧ h.DictOfH (tupleKind (mixKind P w)) a xs := by
  obtain ⟨z, y, xs, r, o, es, ep, h1, h2, h3, h4, h5⟩ := (show ObjOk P w H h a (.dT kvs) from rd_of ok e)
  refine ⟨z, y, xs, r, o, es, ep, h1, h2, h3, h4, fun x hx => ?_, h5⟩
  have all : ∀ {l : List (List Key × V)} {m : List (List Key × Addr × Value)}, KT H l m → ∀ x ∈ m, (tupleKind (mixKind P w)).is h x.1 x.2.1 := by
    intro l m q
    induction q with
    | nil => intro x hx; exact nomatch hx
    | @cons p q ps qs hq t ih =>
      intro x hx
      rcases List.mem_cons.mp hx with e | hx
      · subst e
        exact key_of ok (by rw [← hq.1]; exact hq.2.1)
      · exact ih x hx
  exact all r x hx
end

noncomputable def DGet (H : Hp) (a : Addr) (y : V) (r : Option V) : Prop :=
  (∃ kvs k, Rd H a (.dK kvs) ∧ y = kV k ∧ r = valV kvs k) ∨ ∃ kvs k b, Rd H a (.dT kvs) ∧ y = .ref b ∧ H b = some (.tup (k.map kV)) ∧ r = valV kvs k
noncomputable def DPut (H : Hp) (a : Addr) (y v : V) (H' : Hp) : Prop :=
  (∃ kvs k, H a = some (.dK kvs) ∧ y = kV k ∧ kvs.length < sizeLine ∧ H' = upd H a (.dK (putK kvs k v))) ∨
  ∃ kvs k b, H a = some (.dT kvs) ∧ y = .ref b ∧ H b = some (.tup (k.map kV)) ∧ kvs.length < sizeLine ∧ H' = upd H a (.dT (putK kvs k v))
theorem DGet.k {H : Hp} {a : Addr} {kvs : List (Key × V)} {k : Key} (e : H a = some (.dK kvs)) : DGet H a (kV k) (valV kvs k) := .inl ⟨kvs, k, .inl e, rfl, rfl⟩
theorem DGet.t {H : Hp} {a b : Addr} {kvs : List (List Key × V)} {k : List Key} (e : H a = some (.dT kvs)) (eb : H b = some (.tup (k.map kV))) : DGet H a (.ref b) (valV kvs k) := .inr ⟨kvs, k, b, .inl e, rfl, eb, rfl⟩


section
variable {X : Cx} {pins : List (Addr × Obj)} {σ : St} {H : Hp} {s : Shared} {a : Addr} {y v : V} {u r : Value} {o : Option V} {A : Around} {E : Value → Shared → Prop}

theorem Inv.big (I : Inv X pins σ H s) : sysModules < s.heap.objs.size := by
  have h : mainGlobals < s.heap.objs.size := (I.mod.glob.keeps I.bk).lt
  exact Nat.lt_trans (by decide) h

theorem d_getItem {Q : Value → Shared → Prop} (hu : A.units + 1 < cLine) (I : Inv X pins σ H s) (g : DGet H a y (some v)) (ry : RelV y u) (h : ∀ w' s', Inv X pins σ H s' → RelV v w' → Q w' s') :
    wpAny (model X.prog X.w) A (getItem (.ref a) u) Q E s := by
  rcases g with ⟨kvs, k, e, ey, l⟩ | ⟨kvs, k, b, e, ey, eb, l⟩
  · subst ey
    obtain ⟨z, hd, vs, rel, dd⟩ := dk_rd I.hok e
    obtain ⟨w', hw, rw'⟩ := RelO.some_of (v := v) (o := valueAt vs k) (by rw [l]; exact rel.val k)
    exact wpAny_getItem_of (kV_is ry) dd.mapOf hw (h w' _ (I.tok _) rw')
  · subst ey
    cases (show u = Value.ref b from ry)
    obtain ⟨z, hd, xs, rel, dd⟩ := dt_rd I.hok e
    obtain ⟨w', hw, rw'⟩ := RelO.some_of (v := v) (o := (atKey xs k).map (·.2)) (by rw [l]; exact rel.val k)
    obtain ⟨p, hp, hp2⟩ := Option.map_eq_some_iff.mp hw
    refine wpAny_getItem_heap (tupleKind_room_in1 hu) (key_of I.hok eb) dd hp ?_
    rw [hp2]
    exact h w' _ (I.tok _) rw'
theorem d_in {Q : Value → Shared → Prop} (hu : A.units + 1 < cLine) (I : Inv X pins σ H s) (g : DGet H a y o) (ry : RelV y u) (h : ∀ s', Inv X pins σ H s' → Q (.bool o.isSome) s') :
    wpAny (model X.prog X.w) A (compareOp .In u (.ref a)) Q E s := by
  rcases g with ⟨kvs, k, e, ey, l⟩ | ⟨kvs, k, b, e, ey, eb, l⟩
  · subst ey
    obtain ⟨z, hd, vs, rel, dd⟩ := dk_rd I.hok e
    refine wpAny_in_of (kV_is ry) hd dd.mapOf ?_
    rw [← (rel.val k).isSome_eq, ← l]
    exact h _ (I.tok _)
  · subst ey
    cases (show u = Value.ref b from ry)
    obtain ⟨z, hd, xs, rel, dd⟩ := dt_rd I.hok e
    refine wpAny_in_heap (tupleKind_room_in1 hu) (key_of I.hok eb) hd dd ?_
    have q := (rel.val k).isSome_eq
    rw [Option.isSome_map] at q
    rw [← q, ← l]
    exact h _ (I.tok _)
theorem d_write {h' : Heap} {t' : Nat} {ob : HO} (I : Inv X pins σ H s) (mu : Mut (H a)) (hs : Heap.SameBut a s.heap h') (he : ∃ q, h'.get? a = some q) (new : ObjOk X.prog X.w (upd H a ob) h' a ob) :
    Inv X pins σ (upd H a ob) { s with heap := h', toks := t' } :=
  I.write (x := a) (e := a) mu (.inl rfl) (fun b q hb z => (hs.2 b hb).trans z) he new
theorem dk_new {P : Program} {w : World} {H' : Hp} {h' : Heap} {kvs : List (Key × V)} {vs : List (Key × Value)} (z : kvs.length ≤ sizeLine) (hd : (a == sysModules) = false) (rel : KV kvs vs) (dd : h'.DictOf (mixKind P w) a vs) :
    ObjOk P w H' h' a (.dK kvs) := ⟨z, hd, vs, rel, dd⟩
end

section
variable {X : Cx} {pins : List (Addr × Obj)} {σ : St} {H : Hp} {s : Shared} {a : Addr} {kvs : List (Key × V)} {k : Key} {u : Value} {A : Around} {E : Value → Shared → Prop}
end


/-! ### readings and rules -/
noncomputable def NoSl (i : Expr) : Prop := ∀ ov iv, subscripted i false ov iv = operate [ov, iv] (getItem ov iv)
theorem subD_of {prog : Program} {w : World} {A : Around} {E : Value → Shared → Prop} {s : Shared} {env : Env} {value slice : Expr} {pos : Pos} {T id : String} {Q : Value → Shared → Prop}
    (hl : typeLookup (.type T) "__getitem__" = pure (some (.builtin id))) (hs : NoSl slice)
    (h : wpAny (model prog w) A (eval value env) (fun o s₁ => wpAny (model prog w) A (eval slice env) (fun i s₂ => s₂.TypeIs o T ∧ wpAny (model prog w) A (getItem o i) Q E s₂) E s₁) E s) :
    wpAny (model prog w) A (eval (.Subscript value slice pos) env) Q E s := by
  refine Subscript_ (wpAny_mono h (fun o s₁ h₁ => wpAny_mono h₁ (fun i s₂ h₂ => ?_) fun _ _ x => x) fun _ _ x => x)
  obtain ⟨hT, h₂⟩ := h₂
  unfold subscriptTail
  refine wpAny_bind ?_
  rw [getitemInPython_of_ne hT.not_modules]
  refine wpAny_bind (wpAny_specialOf hT hl ?_)
  have fin : wpAny (model prog w) A (subscripted slice false o i) (fun r s₃ => wpAny (model prog w) A (letTemporaryGo value o r >>= fun _ => pure r) Q E s₃) E s₂ := by
    rw [hs o i]
    exact wpAny_operating (wpAny_mono h₂ (fun r s₃ h₃ => wpAny_bind (wpAny_letTemporaryGo (wpAny_pure h₃))) fun _ _ x => x)
  first
    | exact wpAny_pure (wpAny_bind fin)
    | exact wpAny_bind (wpAny_pure (wpAny_bind fin))
    | exact wpAny_bind fin

theorem dict_typeIs {X : Cx} {pins : List (Addr × Obj)} {σ : St} {H : Hp} {s : Shared} {a : Addr} {y : V} {o : Option V} (I : Inv X pins σ H s) (g : DGet H a y o) : s.TypeIs (.ref a) "dict" := by
  rcases g with ⟨kvs, k, e, _, _⟩ | ⟨kvs, k, b, e, _, _, _⟩
  · obtain ⟨_, _, vs, _, dd⟩ := dk_rd I.hok e
    exact dd.typeIs
  · obtain ⟨_, _, xs, _, dd⟩ := dt_rd I.hok e
    exact dd.typeIs

noncomputable def tDGet (td ty : TE) : TE := fun σ H Q => td σ H fun x H1 => ty σ H1 fun y H2 => ∃ a v, x = .ref a ∧ DGet H2 a y (some v) ∧ Q v H2
noncomputable def tDIn (ty td : TE) : TE := fun σ H Q => ty σ H fun y H1 => td σ H1 fun x H2 => ∃ a o, x = .ref a ∧ DGet H2 a y o ∧ Q (.bl o.isSome) H2
noncomputable def tDNotIn (ty td : TE) : TE := fun σ H Q => ty σ H fun y H1 => td σ H1 fun x H2 => ∃ a o, x = .ref a ∧ DGet H2 a y o ∧ Q (.bl (!o.isSome)) H2
noncomputable def sDPut (td ty tv : TE) : TS := fun D σ H => tv σ H fun v H1 => td σ H1 fun x H2 => ty σ H2 fun y H3 => ∃ a H4, x = .ref a ∧ DPut H3 a y v H4 ∧ D.nx σ H4
noncomputable def sDAug (td ty tv : TE) (rd : V → V → Hp → VK → Prop) : TS := fun D σ H => td σ H fun x H1 => ty σ H1 fun y H2 => ∃ a v, x = .ref a ∧ DGet H2 a y (some v) ∧
  tv σ H2 fun y2 H3 => rd v y2 H3 fun z H4 => ∃ H5, DPut H4 a y z H5 ∧ D.nx σ H5
noncomputable def sDDel (td ty : TE) : TS := fun D σ H => td σ H fun x H1 => ty σ H1 fun y H2 => ∃ a kvs k, x = .ref a ∧ H2 a = some (.dK kvs) ∧ y = kV k ∧ (valV kvs k).isSome = true ∧ D.nx σ (upd H2 a (.dK (dropK kvs k)))

section
variable {X : Cx} {o i e value : Expr} {pos pos' tpos : Pos} {td ty tv : TE}
theorem pe_dget (hu : X.A.units + 1 < cLine) (ho : PE X o td) (hi : PE X i ty) (hs : NoSl i) : PE X (.Subscript o i pos) (tDGet td ty) := by
  intro pins s σ H Q I h
  refine subD_of PySem.F.slot_dict_getitem.lookup hs (thn (ho pins s σ H _ I h) fun u s1 ⟨x, H1, I1, rx, q1⟩ => thn (hi pins s1 σ H1 _ I1 q1) fun iv s2 ⟨y, H2, I2, ry, a, v, ex, g, q2⟩ => ?_)
  subst ex
  obtain rfl : u = Value.ref a := rx
  exact ⟨dict_typeIs I2 g, d_getItem hu I2 g ry fun w' s3 I3 rw' => ⟨v, H2, I3, rw', q2⟩⟩
end


/-! ### displays -/
theorem dk_empty {P : Program} {w : World} {H : Hp} (h : Heap) (hb : sysModules < h.objs.size) : ObjOk P w H (h.push { cls := .type "dict", data := .dict #[] }) h.objs.size (.dK []) :=
  ⟨Nat.zero_le _, beq_eq_false_iff_ne.mpr (Ne.symm (Nat.ne_of_lt hb)), [], .nil, Heap.DictOf.new h⟩
noncomputable def tDNewK : TE := fun _ H Q => ∀ p, H p = none → Q (.ref p) (upd H p (.dK []))
noncomputable def tDNewT : TE := fun _ H Q => ∀ p, H p = none → Q (.ref p) (upd H p (.dT []))
section
variable {X : Cx} {pos : Pos}
end

noncomputable def tPairs : List (TE × TE) → St → Hp → (List (V × V) → Hp → Prop) → Prop
  | [], _, H, Q => Q [] H
  | (tk, tv) :: r, σ, H, Q => tk σ H fun x H1 => tv σ H1 fun y H2 => tPairs r σ H2 fun ps H3 => Q ((x, y) :: ps) H3
noncomputable abbrev VV : List (V × V) → List (Value × Value) → Prop := Paired fun p q => RelV p.1 q.1 ∧ RelV p.2 q.2
noncomputable def PPs (X : Cx) (pos : Pos) (keys : List (Option Expr)) (values : List Expr) (trs : List (TE × TE)) : Prop :=
  ∀ (pins : List (Addr × Obj)) (s : Shared) (σ : St) (H : Hp) (Q : List (V × V) → Hp → Prop), Inv X pins σ H s → tPairs trs σ H Q →
    wpAny (model X.prog X.w) X.A (evalPairs (pairTrees keys values X.env pos)) (fun vs s' => ∃ ps H', Inv X pins σ H' s' ∧ VV ps vs ∧ Q ps H') X.xe s
theorem pps_nil {X : Cx} {pos : Pos} : PPs X pos [] [] [] := fun pins s σ H Q I h => pairTrees_nil_walk ⟨[], H, I, .nil, h⟩
theorem pps_cons {X : Cx} {pos : Pos} {k v : Expr} {ks : List (Option Expr)} {vs : List Expr} {tk tv : TE} {trs : List (TE × TE)} (hk : PE X k tk) (hv : PE X v tv) (hr : PPs X pos ks vs trs) :
    PPs X pos (some k :: ks) (v :: vs) ((tk, tv) :: trs) := fun pins s σ H Q I h =>
  pairTrees_cons_walk (thn (hk pins s σ H _ I h) fun u s1 ⟨x, H1, I1, rx, q1⟩ => thn (hv pins s1 σ H1 _ I1 q1) fun w2 s2 ⟨y, H2, I2, ry, q2⟩ =>
    thn (hr pins s2 σ H2 _ I2 q2) fun ws s3 ⟨ps, H3, I3, rel, q3⟩ => ⟨(x, y) :: ps, H3, I3, .cons ⟨rx, ry⟩ rel, q3⟩)

noncomputable def mergeK (kvs more : List (Key × V)) : List (Key × V) := more.foldl (fun acc kv => putK acc kv.1 kv.2) kvs
theorem KV.merge : ∀ {more : List (Key × V)} {rs : List (Key × Value)} {kvs : List (Key × V)} {vs : List (Key × Value)}, KV more rs → KV kvs vs → KV (mergeK kvs more) (merged vs rs) := by
  intro more rs kvs vs r
  unfold KV at r
  induction r generalizing kvs vs with
  | nil => intro q; exact q
  | @cons p q ps qs h t ih =>
    intro r0
    have e : KV (putK kvs p.1 p.2) (stored vs q.1 q.2) := by
      have := r0.put p.1 h.2
      rw [← h.1]; exact this
    exact ih e
theorem length_mergeK : ∀ (more kvs : List (Key × V)), (mergeK kvs more).length ≤ kvs.length + more.length
  | [], kvs => by show kvs.length ≤ kvs.length + 0; omega
  | p :: r, kvs => by
    have h1 := length_mergeK r (putK kvs p.1 p.2)
    have h2 := length_putK kvs p.1 p.2
    show (mergeK (putK kvs p.1 p.2) r).length ≤ _
    rw [List.length_cons]; omega
theorem carries_of {P : Program} {w : World} : ∀ {kvs : List (Key × V)} {ws : List (Value × Value)}, VV (kvs.map fun kv => (kV kv.1, kv.2)) ws → ∃ rs, Carries (mixKind P w) ws rs ∧ KV kvs rs
  | [], _, r => by rw [List.map_nil] at r; cases r; exact ⟨[], True.intro, .nil⟩
  | p :: kvs, _, r => by
    rw [List.map_cons] at r
    cases r with
    | @cons a b as bs h t =>
      obtain ⟨rs, c, q⟩ := carries_of (P := P) (w := w) t
      obtain ⟨b1, b2⟩ := b
      exact ⟨(p.1, b2) :: rs, ⟨kV_is h.1, rfl, c⟩, .cons ⟨rfl, h.2⟩ q⟩
noncomputable def tDisp (trs : List (TE × TE)) : TE := fun σ H Q => ∀ p, H p = none → tPairs trs σ (upd H p (.dK [])) fun ps H2 => H2 p = some (.dK []) ∧ ∃ kvs : List (Key × V), ps = kvs.map (fun kv => (kV kv.1, kv.2)) ∧ kvs.length ≤ 15 ∧ Q (.ref p) (upd H2 p (.dK (mergeK [] kvs)))


/-! ### methods -/
structure M1 (X : Cx) (o : Expr) (m : Str) (apos : Pos) (e : Expr) (cpos : Pos) : Prop where
  base : attributeBase o m X.env (eval o X.env) = eval o X.env
  few : ((backTo cpos (starEach [e] X.env)).all (fun x => !x.1) && (backToKw cpos (keywordEach [] X.env)).all (fun x => x.1.isSome)
    && decide (([e] : List Expr).length + ([] : List Keyword).length + (if ([] : List Keyword).isEmpty then 0 else 1) < 30)) = true
  line : (apos.endLine == cpos.line) = true
  trees : backTo cpos (starEach [e] X.env) = [(false, eval e X.env)]
structure M2 (X : Cx) (o : Expr) (m : Str) (apos : Pos) (e f : Expr) (cpos : Pos) : Prop where
  base : attributeBase o m X.env (eval o X.env) = eval o X.env
  few : ((backTo cpos (starEach [e, f] X.env)).all (fun x => !x.1) && (backToKw cpos (keywordEach [] X.env)).all (fun x => x.1.isSome)
    && decide (([e, f] : List Expr).length + ([] : List Keyword).length + (if ([] : List Keyword).isEmpty then 0 else 1) < 30)) = true
  line : (apos.endLine == cpos.line) = true
  trees : backTo cpos (starEach [e, f] X.env) = [(false, eval e X.env), (false, eval f X.env)]

noncomputable def IsD (H : Hp) (a : Addr) : Prop := (∃ kvs, Rd H a (.dK kvs)) ∨ ∃ kvs, Rd H a (.dT kvs)

section
variable {X : Cx} {pins : List (Addr × Obj)} {σ : St} {H : Hp} {s : Shared} {a : Addr} {y d : V} {u r : Value} {o : Option V} {A : Around} {E : Value → Shared → Prop}
theorem d_get1 {Q : Value → Shared → Prop} (hu : A.units + 1 < cLine) (I : Inv X pins σ H s) (g : DGet H a y o) (ry : RelV y u) (h : ∀ w' s', Inv X pins σ H s' → RelV (o.getD .non) w' → Q w' s') :
    wpAny (model X.prog X.w) A (call (.builtin "dict.get") [.ref a, u]) Q E s := by
  rcases g with ⟨kvs, k, e, ey, l⟩ | ⟨kvs, k, b, e, ey, eb, l⟩
  · subst ey
    obtain ⟨z, hd, vs, rel, dd⟩ := dk_rd I.hok e
    refine call_meetsIn PySem.F.slot_dict_get dd.typeIs PySem.F.entry_dict_get (PySem.F.args_dict_get_2 _ _) (meets_dict_get (mixKind X.prog X.w) a (kV_is ry) hd) ⟨_, dd.mapOf, h _ _ (I.tok _) ?_⟩
    rw [l]
    exact (rel.val k).getD rfl
  · subst ey
    cases (show u = Value.ref b from ry)
    obtain ⟨z, hd, xs, rel, dd⟩ := dt_rd I.hok e
    refine call_meetsIn PySem.F.slot_dict_get dd.typeIs PySem.F.entry_dict_get (PySem.F.args_dict_get_2 _ _) (meetsH_dict_get (tupleKind (mixKind X.prog X.w)) a b hd) ⟨tupleKind_room_in1 hu, k, xs, key_of I.hok eb, dd, h _ _ (I.tok _) ?_⟩
    rw [l]
    exact (rel.val k).getD rfl
theorem d_get2 {Q : Value → Shared → Prop} (hu : A.units + 1 < cLine) (I : Inv X pins σ H s) (g : DGet H a y o) (ry : RelV y u) (rd : RelV d r) (h : ∀ w' s', Inv X pins σ H s' → RelV (o.getD d) w' → Q w' s') :
    wpAny (model X.prog X.w) A (call (.builtin "dict.get") [.ref a, u, r]) Q E s := by
  rcases g with ⟨kvs, k, e, ey, l⟩ | ⟨kvs, k, b, e, ey, eb, l⟩
  · subst ey
    obtain ⟨z, hd, vs, rel, dd⟩ := dk_rd I.hok e
    refine call_meetsIn PySem.F.slot_dict_get dd.typeIs PySem.F.entry_dict_get (PySem.F.args_dict_get_3 _ _ _) (meets_dict_get_default (mixKind X.prog X.w) a (kV_is ry) hd r) ⟨_, dd.mapOf, h _ _ (I.tok _) ?_⟩
    rw [l]
    exact (rel.val k).getD rd
  · subst ey
    cases (show u = Value.ref b from ry)
    obtain ⟨z, hd, xs, rel, dd⟩ := dt_rd I.hok e
    refine call_meetsIn PySem.F.slot_dict_get dd.typeIs PySem.F.entry_dict_get (PySem.F.args_dict_get_3 _ _ _) (meetsH_dict_get_default (tupleKind (mixKind X.prog X.w)) a b hd r) ⟨tupleKind_room_in1 hu, k, xs, key_of I.hok eb, dd, h _ _ (I.tok _) ?_⟩
    rw [l]
    exact (rel.val k).getD rd
end

noncomputable def tDGet1 (td ty : TE) : TE := fun σ H Q => td σ H fun x H1 => ∃ a, x = .ref a ∧ IsD H1 a ∧ ty σ H1 fun y H2 => ∃ o, DGet H2 a y o ∧ Q (o.getD .non) H2
noncomputable def tDGet2 (td ty tx : TE) : TE := fun σ H Q => td σ H fun x H1 => ∃ a, x = .ref a ∧ IsD H1 a ∧ ty σ H1 fun y H2 => tx σ H2 fun z H3 => ∃ o, DGet H3 a y o ∧ Q (o.getD z) H3
noncomputable def tDPop1 (td ty : TE) : TE := fun σ H Q => td σ H fun x H1 => ∃ a, x = .ref a ∧ IsD H1 a ∧ ty σ H1 fun y H2 => ∃ kvs k v, H2 a = some (.dK kvs) ∧ y = kV k ∧ valV kvs k = some v ∧ Q v (upd H2 a (.dK (dropK kvs k)))
noncomputable def tDPop2 (td ty tx : TE) : TE := fun σ H Q => td σ H fun x H1 => ∃ a, x = .ref a ∧ IsD H1 a ∧ ty σ H1 fun y H2 => tx σ H2 fun z H3 => ∃ kvs k, H3 a = some (.dK kvs) ∧ y = kV k ∧
  (∀ v, valV kvs k = some v → Q v (upd H3 a (.dK (dropK kvs k)))) ∧ (valV kvs k = none → Q z H3)
section
variable {X : Cx} {o e f : Expr} {apos cpos : Pos} {td ty tx : TE}
end

/-! ### dict(d): a copy -/
section
variable {X : Cx} {pins : List (Addr × Obj)} {σ : St} {H : Hp} {s : Shared} {a : Addr} {kvs : List (Key × V)} {A : Around} {E : Value → Shared → Prop}
end


section
variable {X : Cx} {pins : List (Addr × Obj)} {σ : St} {H : Hp} {s : Shared} {a : Addr} {y : V} {u : Value} {A : Around} {E : Value → Shared → Prop}
end
end L2

namespace Att
open PySem PySem.W PySem.Calls PyProof.Rows

/-! ### the script -/
theorem ints_of_wellAll {P : Params} {h : Heap} : ∀ (ns : List Int) (vs : List Value), WellAll P h vs (ns.map WData.int) → IntsAre vs ns := by
  intro ns
  induction ns with
  | nil =>
    intro vs w
    rw [List.map_nil] at w
    cases w
    exact .nil
  | cons n ns ih =>
    intro vs w
    rw [List.map_cons] at w
    cases w with
    | cons a b =>
      cases a
      exact .cons _ _ (ih _ b)

theorem script_of {l : OpenLaw} {n : Nat} (hn : l.most = some n) {P : Params} {h : Heap} {args : List WData} {vals : List Value}
    (hpre : l.row.toRowW.claim.pre args = true) (hwl : WellAll P h vals args) :
    ∃ a vs ns, vals = [Value.ref a] ∧ args = [WData.list (ns.map WData.int)] ∧ h.get? a = some { cls := .type "list", data := .seq vs.toArray } ∧ IntsAre vs ns ∧ ns.length ≤ n := by
  have hsh : WShape.hasAll [] args [.list .int] = true := (pre_splitW hpre).1
  have hc : l.pre.holds [] { args := args } = true := (pre_splitW hpre).2
  obtain ⟨d, r, rfl, h1, h2⟩ := hasAllW_cons hsh
  obtain rfl := hasAllW_nil h2
  obtain ⟨xs, rfl, h3⟩ := hasW_list h1
  obtain ⟨ns, rfl⟩ := items_int h3
  have hlen : ns.length ≤ n := by
    unfold OpenLaw.pre at hc
    have h4 : (WTm.not (.lt (.lit (.int (n : Int))) (.len (.arg 0)))).holds [] { args := [.list (ns.map .int)] } = true := by
      have h4 := (holds_andW hc).1
      rw [hn] at h4
      exact h4
    have h5 := condW_of h4 (w_not (w_lt w_lit (w_len_list (w_arg rfl))))
    rw [List.length_map] at h5
    refine Nat.le_of_not_lt fun q => ?_
    have q' : (n : Int) < ((ns.length : Nat) : Int) := by omega
    first
      | (rw [decide_eq_true q'] at h5; exact absurd h5 (by decide))
      | (simp at h5; omega)
  cases hwl with
  | cons w1 w2 =>
    cases w2
    cases w1 with
    | list ho hall => exact ⟨_, _, ns, rfl, rfl, ho, ints_of_wellAll ns _ hall, hlen⟩

theorem post_true (l : OpenLaw) (args : List WData) : l.row.toRowW.claim.post args (.bool true) args = true :=
  postW_of (r := l.row.toRowW) (X := (true == true))
    (show WShape.has [] (.bool true) .bool = true by first | rfl | decide | simp [WShape.has, WShape.arms, WShape.armsAll])
    (show (WTm.eq .res (.lit (.bool true))).value [] { args := args, res := some (.bool true), after := args } = some (.bool (true == true)) from w_eq_bool (w_res rfl) w_lit) rfl

/-! ### the attachment: holds_open's last premise (the goal 'hc' behind k_head) from a wpAny of the law's body -/

theorem attach_call {l : OpenLaw} {n : Nat} {q : Program} {loose : List Str} {XP : (Str → Option Value) → Heap → Prop} {YP : World → Heap → Prop} {d : DefRec}
    (hn : l.most = some n) (hdf : d.params.defaults = [])
    (call : ∀ (w : World) (s₀ s₁ : Shared) (mg mb : Str → Option Value) (fa : Addr) (o : Obj) (pm cd doc : Value) (a : Addr) (vs : List Value) (ns : List Int),
      Ground q loose [] XP w s₀ mg mb s₁.heap → YP w s₁.heap →
      s₁.heap.get? fa = some o → o.data = .func (docDef d.name d.params d.body d.scope pm cd doc) → s₁.heap.CodeRec cd d.name → mg d.name = some (.ref fa) →
      s₁.heap.get? a = some { cls := .type "list", data := .seq vs.toArray } → IntsAre vs ns → ns.length ≤ n → s₁.gens = #[] →
      codeAny (model l.prog w) callerA (.call (.ref fa) ⟨[.ref a], []⟩) (fun r s' => r = .ok (.ret (.bool true)) ∧ OldK s₁.heap s'.heap ∧ s'.os = s₁.os ∧ AllBare s'.gens) s₁) :
    WalkO q loose XP YP l.row.toRowW d [] (fun f vs => PySem.call f vs) := by
  intro w s₀ s₁ mg mb G Y fa o pm cd doc dV kV ho hd hcd hD hmg hg args vals as hpre hlay hrd hwl hlo
  obtain rfl : dV = .none := Dflts.none hD hdf
  obtain rfl : kV = .none := Dflts.noKw hD
  obtain ⟨a, vs, ns, rfl, rfl, hobj, hints, hlen⟩ := script_of hn hpre hwl
  refine enter_call (codeAny_mono (call w s₀ s₁ mg mb fa o pm cd doc a vs ns G Y ho (fd_plain hd) hcd hmg hobj hints hlen hg) fun r s' hq => ?_)
  obtain ⟨rfl, h2, h3, h4⟩ := hq
  exact ⟨.inl ⟨.bool true, .bool true, [], rfl, fun _ => rfl, .bool true, post_true l _, fun _ => ⟨List.Pairwise.nil, fun _ hm => (nomatch hm)⟩⟩, h2, h3, h4⟩


/-! ### rules over ANY heap (no ledger) from facts about the written part K: the library's own take a ledger (News) for what they write -/
section
variable {prog : Program} {w : World} {A : Around} {E : Value → Shared → Prop} {s : Shared} {K : Frag}





/-! the whole heap as the ledger: makes every rule that writes through a ledger a rule over any heap -/
noncomputable def noObjs (h : Heap) : Heap := { h with objs := #[] }
noncomputable def ledger (h : Heap) (L d : Addr) : List (Addr × Obj) := (List.range h.objs.size).filterMap fun a => if a = L ∨ a = d then none else (h.get? a).map fun o => (a, o)

end
end Att

namespace L2
open PySem PySem.Spec PyProof.Rows

theorem vals_ints : ∀ {vs : List Value} {ns : List Int}, IntsAre vs ns → Vals (ns.map V.int) vs
  | _, _, .nil => .nil
  | _, _, .cons n t h => .cons ⟨t, rfl⟩ (vals_ints h)

noncomputable def Only (H : Hp) : Prop := ∀ b, H b = none ∨ ∃ o xs, H b = some (.frz o (.lst xs))

theorem law_call {P : Program} {w : World} {K : PySem.W.Frag} {mg mb : Str → Option Value} {CX : CXT} {k : Nat} {fa a : Addr} {fd : FuncData} {x : Str} {sp : Sp} {s₁ : Shared} {vs : List Value} {ns : List Int}
    (KX : K.In s₁.heap) (hns : s₁.heap.Ns mainGlobals mg) (hb : s₁.heap.Ns builtinsNs mb) (hbb : ∀ x : Str, x ≠ "__name__" → mb x = bootBuiltins x) (hlim : s₁.heap.NoLimit) (hg : s₁.gens = #[])
    (ha : s₁.heap.get? a = some { cls := .type "list", data := .seq vs.toArray }) (hi : IntsAre vs ns) (hl : ns.length ≤ sizeLine) (hr : Room k callerA)
    (F : ∀ base : Heap, K.In base → base.Ns mainGlobals mg → FnOk P w K mg base CX k fa fd [x] sp) (hbind : ∀ (s : Shared) (u : Value), BindsTo s fd ⟨[u], []⟩ [(x, u)])
    (hsp : ∀ H : Hp, Only H → SqL K H a (ns.map V.int) → sp [.ref a] H (fun v _ => v = .bl true) fun _ _ _ => False)
    (hCX : ∀ H e s', CX [] H s₁ (fun _ _ _ => False) e s' → False) :
    codeAny (model P w) callerA (.call (.ref fa) ⟨[.ref a], []⟩) (fun r s' => r = .ok (.ret (.bool true)) ∧ OldK s₁.heap s'.heap ∧ s'.os = s₁.os ∧ AllBare s'.gens) s₁ := by
  have rv := vals_ints hi
  have lenV := hi.length
  -- from an abstract heap in which nothing but the script may be tracked
  have core : ∀ H : Hp, Only H → SqL K H a (ns.map V.int) → HOk P w H s₁.heap → (∀ b, H b ≠ none → b = a) → (H a ≠ none → K.lookup a = none) →
      codeAny (model P w) callerA (.call (.ref fa) ⟨[.ref a], []⟩) (fun r s' => r = .ok (.ret (.bool true)) ∧ OldK s₁.heap s'.heap ∧ s'.os = s₁.os ∧ AllBare s'.gens) s₁ := by
    intro H hO hS hok hA hK
    have base_of : ∀ {b : Addr} {o : Obj}, s₁.heap.get? b = some o → H b = none → (hidT s₁.heap H).get? b = some o := fun e n => hidT_get e n
    have noA : ∀ {b : Addr} {o : Obj} {es : Array DictEntry} {ep : Nat}, s₁.heap.get? b = some o → o.data = .dict es ep → H b = none := fun {b o es ep} e d => by
      cases q : H b with
      | none => rfl
      | some u =>
        have e' : b = a := hA b (by rw [q]; simp)
        subst e'
        rw [ha] at e; cases e
        have d' : Data.seq vs.toArray _ = Data.dict es ep := d
        cases d'
    have nsK : ∀ {b : Addr} {m : Str → Option Value}, s₁.heap.Ns b m → (hidT s₁.heap H).Ns b m := fun {b m} ⟨o, es, ep, e, d, r⟩ => ⟨o, es, ep, base_of e (noA e d), d, r⟩
    have hKb : K.In (hidT s₁.heap H) := fun b o e => base_of (KX b o e) (by
      cases q : H b with
      | none => rfl
      | some u =>
        have e' : b = a := hA b (by rw [q]; simp)
        subst e'
        rw [hK (by rw [q]; simp)] at e; cases e)
    have hM : Mod K mg (hidT s₁.heap H) := ⟨hKb, nsK hns, ⟨mb, nsK hb, hbb⟩, let ⟨mc, h1, h2⟩ := hlim; ⟨mc, nsK h1, h2⟩⟩
    have e0 : Env0 P w K mg (hidT s₁.heap H) callerA [] s₁ H := ⟨rfl, hM, fun b o e => of_hidT e, Nat.le_of_eq (hidT_size _ _), trivial, fun b hb => absurd (show b ∈ ([] : List Addr) from hb) (by simp), hok, .of_eq hg⟩
    refine codeAny_mono ((F _ hKb (nsK hns)).run callerA [] s₁ H ⟨[.ref a], []⟩ [.ref a] [.ref a] _ _ hr e0 (hbind s₁ (.ref a)) (.cons rfl .nil) (hsp H hO hS)) fun r s' h => ?_
    cases r with
    | error e => exact (hCX H e s' h).elim
    | ok fl =>
      cases fl with
      | next => exact False.elim h
      | brk => exact False.elim h
      | cont => exact False.elim h
      | ret u =>
        obtain ⟨v, H', os, bare, un, hok', r', q⟩ := h
        have q' : v = .bl true := q
        subst q'
        obtain rfl : u = Value.bool true := r'
        refine ⟨rfl, OldK.of_keep fun b o e => ?_, os, bare⟩
        cases q : H b with
        | none => exact un.keep b o e q (by intro z; exact absurd (show b ∈ ([] : List Addr) from z) (by simp)) (by simp)
        | some u =>
          rcases hO b with z | ⟨ob, xs, z⟩
          · rw [q] at z; cases z
          · have z2 := un.frzs b ob _ z
            obtain ⟨e1, _⟩ := hok b _ z
            obtain ⟨e2, _⟩ := hok' b _ z2
            rw [e] at e1; cases e1
            exact e2
  cases hk : K.lookup a with
  | some o =>
    -- the script is one of the module's own objects
    have e := KX a o hk
    rw [ha] at e
    cases e
    refine core (fun _ => none) (fun _ => .inl rfl) (.inr ⟨_, vs.toArray, _, hk, rfl, rfl, rfl, by rw [List.size_toArray, lenV]; exact hl, by simpa using rv⟩) (fun b u z => by have z' : (none : Option HO) = some u := z; cases z') (fun b z => absurd rfl z) fun z => absurd rfl z
  | none =>
    refine core (fun b => if b = a then some (.frz { cls := .type "list", data := .seq vs.toArray } (.lst (ns.map V.int))) else none) (fun b => ?_) (.inl (.inr ⟨{ cls := .type "list", data := .seq vs.toArray }, if_pos rfl⟩)) (fun b u z => ?_) (fun b z => ?_) fun _ => hk
    · by_cases hb : b = a
      · exact .inr ⟨_, _, if_pos hb⟩
      · exact .inl (if_neg hb)
    · by_cases hb : b = a
      · have z' := (if_pos hb).symm.trans z
        cases z'
        subst hb
        exact ⟨ha, by rw [List.length_map]; exact hl, vs, _, rv, ha⟩
      · have z' := (if_neg hb).symm.trans z
        cases z'
    · by_cases hb : b = a
      · exact hb
      · exact absurd (if_neg hb) z
end L2

namespace L2
open PySem PySem.Spec PyProof.Rows

noncomputable abbrev KOf {K : PySem.W.Frag} {h : Heap} (_ : K.In h) : PySem.W.Frag := K

theorem walk_of {l : PySem.W.OpenLaw} {n k : Nat} {q : Program} {loose : List Str} {XP : (Str → Option Value) → Heap → Prop} {YP : World → Heap → Prop} {d : DefRec} {K : Params → PySem.W.Frag} {CX : World → CXT} {sp : World → Sp} {x : Str}
    (hn : l.most = some n) (hn2 : n ≤ sizeLine) (hdf : d.params.defaults = []) (hr : Room k callerA)
    (hY : ∀ (w : World) (h : Heap), YP w h → (K w.params).In h)
    (F : ∀ (w : World) (mg : Str → Option Value) (fa : Addr) (h : Heap), (K w.params).In h → h.Ns mainGlobals mg → mg d.name = some (.ref fa) →
      ∃ fd : FuncData, (∀ (s : Shared) (u : Value), BindsTo s fd ⟨[u], []⟩ [(x, u)]) ∧
        ∀ base : Heap, (K w.params).In base → base.Ns mainGlobals mg → FnOk l.prog w (K w.params) mg base (CX w) k fa fd [x] (sp w))
    (hsp : ∀ (w : World) (H : Hp) (a : Addr) (ns : List Int), ns.length ≤ n → Only H → SqL (K w.params) H a (ns.map V.int) → sp w [.ref a] H (fun v _ => v = .bl true) fun _ _ _ => False)
    (hCX : ∀ (w : World) (H : Hp) (s : Shared) (e : Value) (s' : Shared), CX w [] H s (fun _ _ _ => False) e s' → False) :
    PySem.W.WalkO q loose XP YP l.row.toRowW d [] (fun f vs => PySem.call f vs) := by
  refine Att.attach_call hn hdf fun w s₀ s₁ mg mb fa o pm cd doc a vs ns G Y ho hd hcd hmg hobj hints hlen hg => ?_
  have KX := hY w _ Y
  obtain ⟨fd, hb, hF⟩ := F w mg fa _ KX G.T.g hmg
  exact law_call KX G.T.g G.T.b G.T.builtins G.T.nolimit hg hobj hints (Nat.le_trans hlen hn2) hr hF hb (fun H hO hS => hsp w H a ns hlen hO hS) fun H e s' => hCX w H s₁ e s'
theorem walk_ofK {l : PySem.W.OpenLaw} {n k : Nat} {q : Program} {loose : List Str} {XP : (Str → Option Value) → Heap → Prop} {YP : World → Heap → Prop} {d : DefRec} {K : Params → PySem.W.Frag} {CX : CXT} {sp : PySem.W.Frag → Sp} {x : Str}
    (hn : l.most = some n) (hn2 : n ≤ sizeLine) (hdf : d.params.defaults = []) (hr : Room k callerA)
    (hY : ∀ (w : World) (h : Heap), YP w h → (K w.params).In h)
    (F : ∀ (w : World) (mg : Str → Option Value) (fa : Addr) (h : Heap), (K w.params).In h → h.Ns mainGlobals mg → mg d.name = some (.ref fa) →
      ∃ fd : FuncData, (∀ (s : Shared) (u : Value), BindsTo s fd ⟨[u], []⟩ [(x, u)]) ∧
        ∀ base : Heap, (K w.params).In base → base.Ns mainGlobals mg → FnOk l.prog w (K w.params) mg base CX k fa fd [x] (sp (K w.params)))
    (hsp : ∀ (K : PySem.W.Frag) (H : Hp) (a : Addr) (ns : List Int), ns.length ≤ n → Only H → SqL K H a (ns.map V.int) → sp K [.ref a] H (fun v _ => v = .bl true) fun _ _ _ => False)
    (hCX : ∀ (H : Hp) (s : Shared) (e : Value) (s' : Shared), CX [] H s (fun _ _ _ => False) e s' → False) :
    PySem.W.WalkO q loose XP YP l.row.toRowW d [] (fun f vs => PySem.call f vs) :=
  walk_of (K := K) (CX := fun _ => CX) (sp := fun w => sp (K w.params)) hn hn2 hdf hr hY F (fun w H a ns h1 h2 h3 => hsp (K w.params) H a ns h1 h2 h3) fun _ H s e s' => hCX H s e s'
end L2

/- THE LAST THEOREM (shape; LID, My.* are yours):
   My.Adr: a structure of the addresses that your layer names (classes, functions); My.Txt K t: a structure (Prop) of the equations over K;
   My.txt_mk : {K} {implicit addresses ..} (e1 : nsIn K mainGlobals "law" = some (some (.ref f))) (e2 : K.lookup f = some ⟨oc, od, .func (fnOf "law" "law" params body scope dV kV doc pm an cdv ct), sl⟩) (e3 : codeIn K cdv "law" = true) .. : ∃ t, My.Txt K t

set_option maxRecDepth 100000 in
set_option maxHeartbeats 0 in
theorem PySem.Challenge.cw_LID_holds : PySem.Challenge.rw_LID.Holds := by
  w_on; o_law; k_head; (case hw => w_witness2)
  k_fill
  refine L2.walk_of (l := PySem.Challenge.rw_LID) (n := 63) (k := 40) (x := "script") (CX := fun w => ..) (sp := fun _ => My.sp_law) rfl (by decide) rfl ⟨rfl, by decide, by decide⟩ (fun w h Y => PySem.W.kIn_of Y) ?F ?S ?C
  case F =>
    intro w mg fa h KX G hmg
    have T : ∃ t, My.Txt (L2.KOf KX) t := by
      dsimp only [L2.KOf]                          -- K must stand as «<heap const> w.params» for k_is
      refine' My.txt_mk ?e1 ?e2 ?e3 ..
      (case e1 => PySem.W.k_is)                    -- in the order: a name -> its address -> its object -> its parts
      (case e2 => PySem.W.k_is)
      ..
    obtain ⟨t, T⟩ := T
    have e0 := hmg.symm.trans (PySem.W.mg_of KX G T.law)
    cases e0                                       -- fa is the law's own address
    exact ⟨_, fun s u => .of_eq rfl, fun base kb nb => My.law_fn T kb nb⟩     -- if «.of_eq rfl» comes too early: refine' ⟨_, ?b, fun base kb nb => My.law_fn T kb nb⟩; exact fun s u => .of_eq rfl
  case S => exact fun w H a ns hl hO hS => ..
  case C => exact ..
(the tactic k_is has no namespace: write k_is) -/

/-! SHORT WORDS over the layer: a def of the text, its body, what a loop and a test want. -/
namespace L2
open PySem PySem.Spec PyProof.Rows

/-! ### the text by places -/
noncomputable def inClass (s : Stmt) (j : Nat) : Stmt := match s with
  | .ClassDef _ _ _ body _ _ _ _ _ _ _ => body.getD j (.Pass ⟨0, 0, 0, 0⟩)
  | _ => .Pass ⟨0, 0, 0, 0⟩
noncomputable def defArgs (s : Stmt) : Arguments := match s with
  | .FunctionDef _ a _ _ _ _ _ _ _ _ => a
  | _ => { posonlyargs := [], args := [], vararg := none, kwonlyargs := [], kw_defaults := [], kwarg := none, defaults := [] }
noncomputable def defBody (s : Stmt) : List Stmt := match s with
  | .FunctionDef _ _ b _ _ _ _ _ _ _ => b
  | _ => []
noncomputable def defScope (s : Stmt) : Scope := match s with
  | .FunctionDef _ _ _ _ _ _ sc _ _ _ => sc
  | _ => { kind := .function, names := [], isGenerator := false, isCoroutine := false }

/-! ### no exception leaves a def -/
noncomputable abbrev CX0 : CXT := fun _ _ _ _ _ _ => False
noncomputable abbrev E0 : XK := fun _ _ _ => False
theorem pass0 {X : Cx} : Passes CX0 X E0 := fun _ _ _ _ _ _ _ h => h.elim

/-! ### a def (or method) of the text as it stands behind the top -/
structure Fun (K : PySem.W.Frag) (x qual : Str) (st : Stmt) (f : Addr) (fd : FuncData) : Prop where
  ex : ∃ (oc : Value) (od : Option Addr) (kV doc pm : Value) (an : Option Addr) (cdv ct : Value) (osl : Array (Option Value)),
    fd = PySem.W.fnOf x qual (defArgs st) (defBody st) (defScope st) .none kV doc pm an cdv ct ∧ K.lookup f = some ⟨oc, od, .func fd, osl⟩ ∧ PySem.W.codeIn K cdv qual = true
  kp : PySem.W.keepIn K (.ref f) = true
section
variable {P : Program} {w : World} {K : PySem.W.Frag} {mg : Str → Option Value} {base : Heap}
theorem Fun.ok {x qual : Str} {st : Stmt} {f : Addr} {fd : FuncData} {N ps : List Str} {k : Nat} {sp : Sp} (F : Fun K x qual st f fd) (S : FnScope N ps (defScope st)) (len : ∀ vs H Q E, sp vs H Q E → vs.length = ps.length)
    (hbody : ∀ (cdv : Value) (A : Around) (outer : List Env) (s : Shared) (H : Hp) (vs : List V) (Q : VK) (E : XK), Room k (A.deeper (envOfC qual (defScope st) s.heap.objs.size f cdv)) → sp vs H Q E →
      ∃ t, PSs (cxOf CX0 P w K mg base N qual (defScope st) f cdv A outer s H E).nox (defBody st) t ∧ t { nx := fun _ H' => Q .non H', rt := Q } (start N vs) H) : FnOk P w K mg base CX0 (k + 1) f fd ps sp := by
  obtain ⟨oc, od, kV, doc, pm, an, cdv, ct, osl, rfl, lk, hcd⟩ := F.ex
  refine fn_of lk hcd S len fun A outer s H vs Q E hr hsp => ?_
  obtain ⟨t, h, q⟩ := hbody cdv A outer s H vs Q E hr hsp
  exact ⟨t, h.nox, q⟩
theorem Fun.binds {x qual : Str} {st : Stmt} {f : Addr} {fd : FuncData} {ps : List Str} (F : Fun K x qual st f fd)
    (h : ∀ (kV doc pm : Value) (an : Option Addr) (cdv ct : Value) (us : List Value), us.length = ps.length → bindArgs (PySem.W.fnOf x qual (defArgs st) (defBody st) (defScope st) .none kV doc pm an cdv ct) ⟨us, []⟩ = pure (ps.zip us)) : Binds K fd ps [] := by
  obtain ⟨oc, od, kV, doc, pm, an, cdv, ct, osl, rfl, lk, hcd⟩ := F.ex
  exact .all (h kV doc pm an cdv ct)
theorem fun_mk {x qual : Str} {st : Stmt} {f : Addr} {oc : Value} {od an : Option Addr} {osl : Array (Option Value)} {kV doc pm cdv ct : Value} (l : K.lookup f = some ⟨oc, od, .func (PySem.W.fnOf x qual (defArgs st) (defBody st) (defScope st) .none kV doc pm an cdv ct), osl⟩)
    (c : PySem.W.codeIn K cdv qual = true) (k : PySem.W.keepIn K (.ref f) = true) : Fun K x qual st f (PySem.W.fnOf x qual (defArgs st) (defBody st) (defScope st) .none kV doc pm an cdv ct) := ⟨⟨oc, od, kV, doc, pm, an, cdv, ct, osl, rfl, l, c⟩, k⟩
end
theorem hu_of {A : Around} {k : Nat} (hr : Room k A) : A.units + 1 < cLine := Nat.lt_of_le_of_lt (Nat.add_le_add_left (by decide : 1 ≤ 64) _) hr.units
theorem small1000 {n : Nat} (h : n ≤ 1000) : n < sizeLine := Nat.lt_of_le_of_lt h (by decide)

/-! ### expressions in short: the name that stands in the i-th slot -/
section
variable {X : Cx}
end

/-! ### tests -/

/-! ### heaps -/
noncomputable def Same (H H' : Hp) : Prop := ∀ b o, H b = some o → H' b = some o
theorem Same.refl (H : Hp) : Same H H := fun _ _ h => h
theorem Same.trans {H H1 H2 : Hp} (a : Same H H1) (b : Same H1 H2) : Same H H2 := fun c o h => b c o (a c o h)
theorem Same.free {H H' : Hp} (e : Same H H') {l : Addr} (h : H' l = Option.none) : H l = Option.none := by
  cases q : H l with
  | none => rfl
  | some o =>
    rw [e l o q] at h
    cases h

/-! ### a dict's pairs: keys that differ -/
section
variable {κ : Type} [DecidableEq κ]
end
end L2

/-! MORE RULES over the hand layer: weakening, a list comprehension -/
namespace L2
open PySem PySem.Spec PyProof.Rows

theorem PE.imp {X : Cx} {e : Expr} {t t' : TE} (h : PE X e t) (w : ∀ σ H Q, t' σ H Q → t σ H Q) : PE X e t' := fun pins s σ H Q I q => h pins s σ H Q I (w σ H Q q)
theorem PT.imp {X : Cx} {e : Expr} {t t' : TT} (h : PT X e t) (w : ∀ σ H Q, t' σ H Q → t σ H Q) : PT X e t' := fun pins s σ H Q I q => h pins s σ H Q I (w σ H Q q)
theorem PW.imp {X : Cx} {e : Expr} {t t' : TT} (h : PW X e t) (w : ∀ σ H Q, t' σ H Q → t σ H Q) : PW X e t' := fun wh pins s σ H Q I q => h wh pins s σ H Q I (w σ H Q q)
theorem PA.imp {X : Cx} {e : List Expr} {t t' : TA} (h : PA X e t) (w : ∀ σ H Q, t' σ H Q → t σ H Q) : PA X e t' := fun pos pins s σ H Q I q => h pos pins s σ H Q I (w σ H Q q)
theorem PS.imp {X : Cx} {e : Stmt} {t t' : TS} (h : PS X e t) (w : ∀ D σ H, t' D σ H → t D σ H) : PS X e t' := fun pins s σ H D I q => h pins s σ H D I (w D σ H q)
theorem PSs.imp {X : Cx} {e : List Stmt} {t t' : TS} (h : PSs X e t) (w : ∀ D σ H, t' D σ H → t D σ H) : PSs X e t' := fun pins s σ H D I q => h pins s σ H D I (w D σ H q)
theorem PG.imp {X : Cx} {e : Expr} {t t' : TG} (h : PG X e t) (w : ∀ v σ H Q, t' v σ H Q → t v σ H Q) : PG X e t' := fun pins s σ H v u Q I r q => h pins s σ H v u Q I r (w v σ H Q q)
theorem PGs.imp {X : Cx} {e : List Expr} {t t' : TGs} (h : PGs X e t) (w : ∀ v σ H Q, t' v σ H Q → t v σ H Q) : PGs X e t' := fun pins s σ H vs us Q I r q => h pins s σ H vs us Q I r (w vs σ H Q q)
theorem PI.imp {X : Cx} {tg e : Expr} {t t' : TI} (h : PI X tg e t) (w : ∀ σ H R, t' σ H R → t σ H R) : PI X tg e t' := fun pins s σ H R I q => h pins s σ H R I (w σ H R q)

/-! ### a list comprehension -/
noncomputable def clOf (cells : List (Str × Addr)) : List (Str × NameKind) → List (Str × Addr) → List (Str × Addr)
  | [], cs => cs
  | (n, k) :: r, cs => clOf cells r (if k = .free then (n, (cells.lookup n).getD 0) :: cs else cs)
theorem closure_go {env : Env} : ∀ (names : List (Str × NameKind)) (cs : List (Str × Addr)), (∀ y ∈ names, y.2 = .free → ∃ c, env.cells.lookup y.1 = some c) →
    (forIn names cs (fun x r => if (x.2 == NameKind.free) = true then do let a ← cellOf env x.1; pure (ForInStep.yield ((x.1, a) :: r)) else pure (ForInStep.yield r)) : Sem (List (Str × Addr))) = pure (clOf env.cells names cs)
  | [], cs, _ => by rw [List.forIn_nil]; rfl
  | (n, k) :: r, cs, h => by
    rw [List.forIn_cons]
    by_cases hk : k = .free
    · obtain ⟨c, hc⟩ := h (n, k) List.mem_cons_self hk
      subst hk
      have e1 : cellOf env n = pure c := by unfold cellOf; rw [hc]
      show ((if (NameKind.free == NameKind.free) = true then (cellOf env n >>= fun a => pure (ForInStep.yield ((n, a) :: cs))) else pure (ForInStep.yield cs)) >>= fun s => _) = _
      rw [if_pos (show (NameKind.free == NameKind.free) = true by decide), e1]
      show (forIn r ((n, c) :: cs) _ : Sem (List (Str × Addr))) = _
      rw [closure_go r _ fun y hy => h y (List.mem_cons_of_mem _ hy)]
      show _ = pure (clOf env.cells r (if NameKind.free = NameKind.free then (n, (env.cells.lookup n).getD 0) :: cs else cs))
      rw [if_pos rfl, hc]
      rfl
    · have hb : (k == NameKind.free) = false := by simpa using hk
      show ((if (k == NameKind.free) = true then (cellOf env n >>= fun a => pure (ForInStep.yield ((n, a) :: cs))) else pure (ForInStep.yield cs)) >>= fun s => _) = _
      rw [hb, if_neg Bool.false_ne_true]
      show (forIn r cs _ : Sem (List (Str × Addr))) = _
      rw [closure_go r _ fun y hy => h y (List.mem_cons_of_mem _ hy)]
      show _ = pure (clOf env.cells r (if k = NameKind.free then _ else cs))
      rw [if_neg hk]
theorem closureFor_of {scope : Scope} {env : Env} (h : ∀ y ∈ scope.names, y.2 = .free → ∃ c, env.cells.lookup y.1 = some c) : closureFor scope env = pure (clOf env.cells scope.names []) := by
  simp only [closureFor]
  rw [closure_go scope.names [] h]
  rfl
theorem clOf_sub {cells : List (Str × Addr)} {x : Str} {c : Addr} : ∀ {names : List (Str × NameKind)} {cs : List (Str × Addr)}, (∀ y ∈ names, y.2 = .free → ∃ c, cells.lookup y.1 = some c) →
    (cs.lookup x = some c → cells.lookup x = some c) → (clOf cells names cs).lookup x = some c → cells.lookup x = some c
  | [], _, _, h0, e => h0 e
  | (n, k) :: r, cs, h, h0, e => by
    refine clOf_sub (names := r) (fun y hy => h y (List.mem_cons_of_mem _ hy)) ?_ e
    intro e'
    by_cases hk : k = .free
    · rw [if_pos hk] at e'
      obtain ⟨c', hc⟩ := h (n, k) List.mem_cons_self hk
      rw [hc] at e'
      by_cases hx : x == n
      · simp only [List.lookup_cons, hx] at e'
        cases e'
        have : x = n := by simpa using hx
        rw [this]; exact hc
      · have hx' : (x == n) = false := by simpa using hx
        simp only [List.lookup_cons, hx'] at e'
        exact h0 e'
    · rw [if_neg hk] at e'; exact h0 e'
theorem clOf_keep {cells : List (Str × Addr)} {x : Str} : ∀ {names : List (Str × NameKind)} {cs : List (Str × Addr)}, (∃ c, cs.lookup x = some c) → ∃ c, (clOf cells names cs).lookup x = some c
  | [], _, h => h
  | (n, k) :: r, cs, ⟨c, h⟩ => by
    refine clOf_keep (names := r) ?_
    by_cases hk : k = .free
    · rw [if_pos hk]
      by_cases hx : x == n
      · exact ⟨(cells.lookup n).getD 0, by simp only [List.lookup_cons, hx]⟩
      · have hx' : (x == n) = false := by simpa using hx
        exact ⟨c, by simp only [List.lookup_cons, hx']; exact h⟩
    · rw [if_neg hk]; exact ⟨c, h⟩
theorem clOf_has {cells : List (Str × Addr)} {x : Str} : ∀ {names : List (Str × NameKind)} {cs : List (Str × Addr)}, (x, NameKind.free) ∈ names → ∃ c, (clOf cells names cs).lookup x = some c
  | [], _, h => nomatch h
  | (n, k) :: r, cs, h => by
    rcases List.mem_cons.mp h with e | e
    · cases e
      refine clOf_keep (names := r) ⟨(cells.lookup x).getD 0, ?_⟩
      rw [if_pos rfl]
      simp [List.lookup_cons]
    · exact clOf_has (names := r) e
noncomputable def rlF (env : Env) : Str × NameKind → Str × NameKind := fun (n, k) => if (k == NameKind.free && env.scope.kind == .function && env.kindOf n == some .cell) then (n, NameKind.cell) else (n, k)
theorem rlF_fst (env : Env) (p : Str × NameKind) : (rlF env p).1 = p.1 := by
  obtain ⟨n, k⟩ := p
  unfold rlF
  dsimp only
  split <;> rfl
theorem lookup_mapf {f : Str × NameKind → Str × NameKind} (h : ∀ p, (f p).1 = p.1) (x : Str) : ∀ names : List (Str × NameKind), (names.map f).lookup x = (names.lookup x).map fun k => (f (x, k)).2
  | [] => rfl
  | (n, k) :: r => by
    have ih := lookup_mapf h x r
    have e : f (n, k) = (n, (f (n, k)).2) := Prod.ext (h (n, k)) rfl
    rw [List.map_cons, e, List.lookup_cons, List.lookup_cons]
    cases hx : x == n with
    | true =>
      have : x = n := by simpa using hx
      subst this
      rfl
    | false => exact ih
theorem lookup_mem {x : Str} {k : NameKind} : ∀ {names : List (Str × NameKind)}, names.lookup x = some k → (x, k) ∈ names
  | [], h => by simp at h
  | (n, k') :: r, h => by
    rw [List.lookup_cons] at h
    cases hx : x == n with
    | true =>
      rw [hx] at h
      have : x = n := by simpa using hx
      subst this
      cases h
      exact List.mem_cons_self
    | false => rw [hx] at h; exact List.mem_cons_of_mem _ (lookup_mem h)
theorem relabel_free {env : Env} {names : List (Str × NameKind)} {x : Str} {kk : NameKind} (hn : ∀ y ∈ names, y.2 ≠ .cell) (hk : kk = .cell ∨ kk = .free) (h : (names.map (rlF env)).lookup x = some kk) : (x, NameKind.free) ∈ names := by
  rw [lookup_mapf (rlF_fst env)] at h
  obtain ⟨k, h1, h2⟩ := Option.map_eq_some_iff.mp h
  have hm := lookup_mem h1
  have hc : k ≠ .cell := hn _ hm
  by_cases hf : k = .free
  · subst hf; exact hm
  · exfalso
    have hb : (k == NameKind.free) = false := by simpa using hf
    unfold rlF at h2
    simp only [hb, Bool.false_and, Bool.false_eq_true, if_false] at h2
    rcases hk with e | e
    · exact hc (h2.trans e)
    · exact hf (h2.trans e)

inductive BSrc where
  | own | cap (j : Nat) | acc
noncomputable def bSlot (σ : St) (acc : Addr) : BSrc → Option V
  | .own => none
  | .cap j => (σ[j]?).join
  | .acc => some (.ref acc)
noncomputable def bSt (src : List BSrc) (σ : St) (acc : Addr) : St := src.map (bSlot σ acc)
noncomputable abbrev Cx.block (X : Cx) (N' : List Str) (scope : Scope) (C : Addr) (s₀ : Shared) (H₀ : Hp) (ex : List Addr) : Cx :=
  { X with N := N', env := compEnvC scope (clOf X.env.cells scope.names []) C X.env, s₀ := s₀, H₀ := H₀, outer := X.stack, stack := X.stack, ex := ex, fn := fun _ => false, pn := [], xe := fun _ _ => False }
structure CompScope (X : Cx) (N' : List Str) (scope : Scope) (src : List BSrc) : Prop where
  kind : scope.kind = .function
  nocell : ∀ y ∈ scope.names, y.2 ≠ .cell
  names : ∀ y ∈ scope.names, y.2 = .local → scope.names.lookup y.1 = some .local
  free : ∀ y ∈ scope.names, y.2 = .free → X.env.kindOf y.1 = some .cell ∨ X.env.kindOf y.1 = some .free
  len : src.length = N'.length
  cap : ∀ (k j : Nat) (x : Str), src[k]? = some (.cap j) → N'[k]? = some x → X.N[j]? = some x ∧ (X.env.kindOf x = some .cell ∨ X.env.kindOf x = some .free) ∧ scope.names.lookup x = some .free
  acc : ∀ (k : Nat) (x : Str), src[k]? = some .acc → N'[k]? = some x → scope.names.lookup x = none
theorem lookup_none_relabel {env : Env} {names : List (Str × NameKind)} {x : Str} (h : names.lookup x = none) : (names.map (rlF env)).lookup x = none := by
  rw [lookup_mapf (rlF_fst env), h]; rfl
theorem lookup_free_relabel {env : Env} {names : List (Str × NameKind)} {x : Str} (h : names.lookup x = some .free) : (names.map (rlF env)).lookup x = some .cell ∨ (names.map (rlF env)).lookup x = some .free := by
  rw [lookup_mapf (rlF_fst env), h]
  unfold rlF
  dsimp only [Option.map]
  split
  · exact .inl rfl
  · exact .inr rfl

section
variable {X : Cx} {N' : List Str} {scope : Scope} {src : List BSrc} {pins : List (Addr × Obj)} {σ : St} {H : Hp} {s : Shared} {C acc : Addr} {fp : List Addr}
theorem block_start {h1 : Heap} {tk : Nat} (S : CompScope X N' scope src) (I : Inv X pins σ H s) (hC : C = s.heap.objs.size) (hf : ∀ b ∈ fp, FpOk X pins H b) (hfo : ∀ b ∈ fp, ∃ o, s.heap.get? b = some o)
    (hns : h1.Ns C fun _ => none) (hk : ∀ b o, s.heap.get? b = some o → h1.get? b = some o) :
    Inv (X.block N' scope C s H fp) [] (bSt src σ acc) H { s with heap := h1, toks := tk } := by
  have cellf : ∀ y ∈ scope.names, y.2 = .free → ∃ c, X.env.cells.lookup y.1 = some c := fun y hy e => I.ok.has y.1 (S.free y hy e)
  have sub : ∀ x c, (clOf X.env.cells scope.names []).lookup x = some c → X.env.cells.lookup x = some c := fun x c e => clOf_sub cellf (fun h => by simp at h) e
  have gt : ∀ b, b < s.heap.objs.size → b ≠ C := fun b hb e => by rw [e, hC] at hb; exact Nat.lt_irrefl _ hb
  refine ⟨⟨I.ok.mod, S.kind, I.ok.glob, I.ok.blt, by rw [hC]; exact Nat.le_refl _, fun x y c h1 h2 => I.ok.inj x y c (sub x c h1) (sub y c h2), fun x hx => ?_, fun x c h => absurd h Bool.false_ne_true, I.ok.hd, I.ok.frames, .inl rfl, fun b hb => ?_, I.bs,
    Nat.le_trans I.ok.bsz I.sz, fun b o e hb => ?_, fun b hb hs => ?_, I.stack, I.stkFree⟩, rfl, I.bare, Un.kept hk, ⟨_, hns, fun i x v e1 e2 e3 => ?_⟩, fun x c e => ?_, ?_, fun x c e => I.freeC x c (sub x c e), fun p hp => ?_, I.hok.kept hk, ?_⟩
  · rcases hx with hx | hx
    · exact clOf_has (relabel_free S.nocell (.inl rfl) hx)
    · exact clOf_has (relabel_free S.nocell (.inr rfl) hx)
  · obtain ⟨f0, f1, f2, f3, f4, f5⟩ := hf b hb
    refine ⟨?_, fun x c e => f4 x c (sub x c e)⟩
    show b ≠ C
    obtain ⟨o, ho⟩ := hfo b hb
    exact gt b (Heap.lt_size ho)
  · obtain ⟨f0, f1, f2, f3, f4, f5⟩ := hf b hb
    rcases f3 with z | z
    · exact I.ok.noex b o e z
    · exact absurd (Nat.lt_of_lt_of_le (Heap.lt_size e) (Nat.le_trans I.ok.bsz z)) (Nat.lt_irrefl _)
  · obtain ⟨f0, f1, f2, f3, f4, f5⟩ := hf b hb
    rcases List.mem_cons.mp (I.stkSub b hs) with z | z
    · exact f1 z
    · exact f2 z
  · have hsrc : ∃ q, src[i]? = some q := by
      cases q : src[i]? with
      | some q0 => exact ⟨q0, rfl⟩
      | none =>
        have e2' : (bSt src σ acc)[i]? = some (some v) := e2
        unfold bSt at e2'
        rw [List.getElem?_map, q] at e2'; cases e2'
    obtain ⟨q, hq⟩ := hsrc
    have e2' : (bSt src σ acc)[i]? = some (some v) := e2
    unfold bSt at e2'
    rw [List.getElem?_map, hq] at e2'
    have e2'' : bSlot σ acc q = some v := Option.some.inj e2'
    cases q with
    | own => cases e2''
    | acc =>
      exfalso
      have hno := lookup_none_relabel (env := X.env) (S.acc i x hq e1)
      have hno' : (relabel scope X.env).names.lookup x = none := hno
      have e3' : Vis (relabel scope X.env) x := e3
      rcases e3' with z | z | z
      · rw [hno'] at z; cases z
      · rw [hno'] at z; cases z
      · rw [hno'] at z; cases z
    | cap j =>
      obtain ⟨hj, hkind, hfr⟩ := S.cap i j x hq e1
      have hσ : σ[j]? = some (some v) := by
        have e4 : (σ[j]?).join = some v := e2''
        cases r : σ[j]? with
        | none => rw [r] at e4; cases e4
        | some o => rw [r] at e4; cases o with
          | none => cases e4
          | some w' => cases e4; rfl
      obtain ⟨m, hn, hl⟩ := I.loc
      obtain ⟨u, ru, l⟩ := hl j x v hj hσ (by rcases hkind with z | z; exact .inr (.inl z); exact .inr (.inr z))
      refine ⟨u, ru, ?_⟩
      rcases l with ⟨z, _⟩ | ⟨_, c, hc, hcell⟩
      · rcases hkind with y | y
        · rw [y] at z; cases z
        · rw [y] at z; cases z
      · have e3' : Vis (relabel scope X.env) x := e3
        have fin : ∀ kk, kk = .cell ∨ kk = .free → (relabel scope X.env).names.lookup x = some kk → Look (X.block N' scope C s H fp).env h1 (fun _ => none) x u := fun kk hkk hx => by
          obtain ⟨c', hc'⟩ := clOf_has (cells := X.env.cells) (cs := []) (relabel_free S.nocell hkk hx)
          have := sub x c' hc'
          rw [hc] at this; cases this
          obtain ⟨oc, hoc, hocd⟩ := hcell
          refine .inr ⟨?_, c, hc', oc, hk c oc hoc, hocd⟩
          rcases hkk with y | y
          · subst y; exact .inl hx
          · subst y; exact .inr hx
        rcases e3' with z | z | z
        · exfalso
          have z' : (relabel scope X.env).names.lookup x = some .local := z
          rcases lookup_free_relabel (env := X.env) hfr with y | y
          · have y' : (relabel scope X.env).names.lookup x = some .cell := y
            rw [z'] at y'; cases y'
          · have y' : (relabel scope X.env).names.lookup x = some .free := y
            rw [z'] at y'; cases y'
        · exact fin .cell (.inl rfl) z
        · exact fin .free (.inr rfl) z
  · obtain ⟨v, oc, hoc, hocd⟩ := I.cell x c (sub x c e)
    exact ⟨v, oc, hk c oc hoc, hocd⟩
  · show H C = none
    rw [hC]; exact I.hok.fresh (Nat.le_refl _)
  · have hp' : p ∈ ([] : List (Addr × Obj)) := by simpa using hp
    exact nomatch hp'
  · show (bSt src σ acc).length = N'.length
    unfold bSt
    rw [List.length_map]; exact S.len

noncomputable def tComp (src : List BSrc) (wi : TI) (g : TG) (tt : TT) (te : TE) : TE := fun σ H Q => wi σ H fun J H1 => ∀ acc, H1 acc = none →
  ∃ W : Nat → Nat → St → Hp → Prop, (∃ m, W 0 m (bSt src σ acc) (upd H1 acc (.lst []))) ∧ ∀ i m σ' H, W i m σ' H → (J.stop i H ∧ Q (.ref acc) H) ∨
    (J.go i H ∧ ∀ x H', J.yld i H x H' → g x σ' H' fun σ2 H2 => tt σ2 H2 fun b H3 => if b = true then te σ2 H3 fun y H4 => rAppend (.ref acc) [y] H4 fun _ H5 => ∃ m', m' < m ∧ W (i + 1) m' σ2 H5 else ∃ m', m' < m ∧ W (i + 1) m' σ2 H3)
noncomputable def PTs (X : Cx) (ifs : List Expr) (t : TT) : Prop :=
  ∀ (pins : List (Addr × Obj)) (s : Shared) (σ : St) (H : Hp) (Q : Bool → Hp → Prop), Inv X pins σ H s → t σ H Q →
    wpAny (model X.prog X.w) X.A (forIn ifs true fun c r => if r = true then do let ok ← isTrue c X.env (eval c X.env); pure (ForInStep.yield ok) else pure (ForInStep.yield r)) (TP X pins σ Q) X.xe s
noncomputable def tTrue : TT := fun _ H Q => Q true H
theorem pts_nil : PTs X [] tTrue := fun _ s σ H Q I h => wpAny_tests_nil ⟨H, I, h⟩
theorem pts_one {c : Expr} {t : TT} (h : PT X c t) : PTs X [c] t := fun pins s σ H Q I q => wpAny_tests_one (h pins s σ H Q I q)

theorem comp_loop {prog : Program} {w : World} {A : Around} {s : Shared} {elt target iter : Expr} {ifs : List Expr} {scope : Scope} {pos : Pos} {it acc : Value} {env : Env} {R : Result → Shared → Prop} (I : Nat → Shared → Prop)
    (turn : ∀ n s, I n s → wpAny (model prog w) A (pyNext it) (fun r s₁ => match r with
      | none => R (.ok .next) s₁
      | some v => wpAny (model prog w) A (letOwnedTupleGo target it v) (fun _ s₀ => wpAny (model prog w) A (assign target env v) (fun _ s₂ =>
          wpAny (model prog w) A (forIn ifs true fun c r => if r = true then do let ok ← isTrue c env (eval c env); pure (ForInStep.yield ok) else pure (ForInStep.yield r)) (fun ok s₃ => if ok = true then wpAny (model prog w) A (eval elt env) (fun x s₄ =>
            wpAny (model prog w) A (call (.builtin "list.append") [acc, x]) (fun _ s₅ => ∃ m, m < n ∧ I m s₅) (fun _ _ => False) s₄) (fun _ _ => False) s₃
            else ∃ m, m < n ∧ I m s₃) (fun _ _ => False) s₂)
          (fun _ _ => False) s₀) (fun _ _ => False) s₁) (fun _ _ => False) s)
    (n : Nat) (h : I n s) : codeAny (model prog w) A (.compLoop (.ListComp elt [⟨target, iter, ifs, 0⟩] scope pos) 0 it acc env) R s := by
  refine codeAny_loop rfl I (fun n s hI => ?_) n h
  show wpAny _ A ((compTurn (.ListComp elt [⟨target, iter, ifs, 0⟩] scope pos) 0 it acc env).onRaise (fun x => do noteFrame x env; theTreesLotGoes x)) _ _ s
  refine wpAny_noted ?_
  rw [compTurn_list]
  refine wpAny_bind (wpAny_standAt (wpAny_bind (wpAny_mono (turn n s hI) (fun r s₁ h₁ => ?_) fun _ _ f => f.elim)))
  cases r with
  | none => exact wpAny_pure h₁
  | some v =>
    refine wpAny_bind (wpAny_mono h₁ (fun _ s₀ h₀' => ?_) fun _ _ f => f.elim)
    refine wpAny_bind (wpAny_mono h₀' (fun _ s₂ h₂ => ?_) fun _ _ f => f.elim)
    refine wpAny_bind (wpAny_mono h₂ (fun okb s₃ h₃ => ?_) fun _ _ f => f.elim)
    cases okb with
    | false => exact wpAny_pure ⟨rfl, h₃⟩
    | true => exact wpAny_bind (wpAny_bind (wpAny_mono h₃ (fun x s₄ h₄ => wpAny_bind (wpAny_mono h₄ (fun _ s₅ h₅ => wpAny_pure (wpAny_pure ⟨rfl, h₅⟩)) fun _ _ f => f.elim)) fun _ _ f => f.elim))

theorem comp_block {tg elt iter : Expr} {ifs : List Expr} {pos : Pos} {g : TG} {tt : TT} {te : TE} {it : Addr} {tn : Nat → Heap → Prop} {J : It} {Q : VK} {RR : Value → Addr → Result → Shared → Prop} {E : Value → Shared → Prop}
    (hc : X.calm = true) (S : CompScope X N' scope src)
    (hg : ∀ (C : Addr) (s₀ : Shared) (H₀ : Hp) (ex : List Addr), PG (X.block N' scope C s₀ H₀ ex) tg g)
    (ht : ∀ (C : Addr) (s₀ : Shared) (H₀ : Hp) (ex : List Addr), PTs (X.block N' scope C s₀ H₀ ex) ifs tt)
    (he : ∀ (C : Addr) (s₀ : Shared) (H₀ : Hp) (ex : List Addr), PE (X.block N' scope C s₀ H₀ ex) elt te)
    (I : Inv X pins σ H s) (T : Turn X.prog X.w X.K tg J fp it tn) (st : tn 0 s.heap) (hf : ∀ b ∈ fp, FpOk X pins H b)
    (q : ∀ acc, H acc = none → ∃ W : Nat → Nat → St → Hp → Prop, (∃ m, W 0 m (bSt src σ acc) (upd H acc (.lst []))) ∧ ∀ i m σ' H, W i m σ' H → (J.stop i H ∧ Q (.ref acc) H) ∨
      (J.go i H ∧ ∀ x H', J.yld i H x H' → g x σ' H' fun σ2 H2 => tt σ2 H2 fun b H3 => if b = true then te σ2 H3 fun y H4 => rAppend (.ref acc) [y] H4 fun _ H5 => ∃ m', m' < m ∧ W (i + 1) m' σ2 H5 else ∃ m', m' < m ∧ W (i + 1) m' σ2 H3))
    (hRR : ∀ (acc C : Addr) (s' : Shared) (H' : Hp) (m : Str → Option Value), Inv X pins σ H' s' → Q (.ref acc) H' → s'.heap.Ns C m → H' C = none → C ≠ X.env.locals → X.s₀.heap.objs.size ≤ C → (∀ x c, X.env.cells.lookup x = some c → c ≠ C) → (∀ p ∈ X.pn ++ pins, p.1 ≠ C) →
      RR (.ref acc) C (.ok .next) s') :
    wpAny (model X.prog X.w) X.A (newList []) (fun acc s₃ => wpAny (model X.prog X.w) X.A (newFunctionEnv scope X.env.globals (clOf X.env.cells scope.names []) [] X.env.qual none .none (some X.env)) (fun cenv s₄ =>
      codeAny (model X.prog X.w) X.A (.compStart (.ListComp elt [⟨tg, iter, ifs, 0⟩] scope pos) 0 (.ref it) acc { cenv with scope := relabel scope X.env }) (RR acc cenv.locals) s₄) E s₃) E s := by
  have hfo : ∀ b ∈ fp, ∃ o, s.heap.get? b = some o := fun b hb => let ⟨o, e, _⟩ := T.obj 0 _ st b hb; ⟨o, e⟩
  refine wpAny_newObj_type (wpAny_newFunctionEnv S.nocell (by intro y hy; simp at hy) (fun h₁ hns₁ hsb₁ => ?_) S.kind)
  dsimp only at hns₁ hsb₁ ⊢
  have hacc : H s.heap.objs.size = none := I.hok.fresh (Nat.le_refl _)
  have I3 : Inv X pins σ (upd H s.heap.objs.size (.lst [])) { s with heap := s.heap.push { cls := .type "list", dict := none, data := .seq ([] : List Value).toArray } } := I.lnew (t' := s.toks) (its := []) (ys := []) .nil (Nat.zero_le _)
  have hf3 : ∀ b ∈ fp, FpOk X pins (upd H s.heap.objs.size (.lst [])) b := fun b hb => by
    obtain ⟨f0, f⟩ := hf b hb
    obtain ⟨o, ho⟩ := hfo b hb
    exact ⟨by rw [upd_ne (Nat.ne_of_lt (Heap.lt_size ho))]; exact f0, f⟩
  have hfo3 : ∀ b ∈ fp, ∃ o, (s.heap.push { cls := .type "list", dict := none, data := .seq ([] : List Value).toArray }).get? b = some o := fun b hb => let ⟨o, e⟩ := hfo b hb; ⟨o, Heap.get?_push_of_some _ e⟩
  obtain ⟨W, ⟨m0, w0⟩, turn⟩ := q _ hacc
  generalize hH2 : s.heap.push { cls := .type "list", dict := none, data := .seq ([] : List Value).toArray } = H2 at hns₁ hsb₁ I3 hfo3 ⊢
  have keep : ∀ b o, H2.get? b = some o → h₁.get? b = some o := fun b o e => hsb₁.extBut b o (Nat.ne_of_lt (Heap.lt_size e)) (Heap.get?_push_of_some _ e)
  have J0 := block_start (N' := N') (scope := scope) (src := src) (acc := s.heap.objs.size) (tk := s.toks + ([] : List (Str × Value)).length) (C := H2.objs.size) S I3 rfl hf3 hfo3 (show h₁.Ns H2.objs.size (fun _ => none) from hns₁) keep
  have st1 : tn 0 h₁ := T.keep 0 s.heap h₁ st fun b hb o e => keep b o (by rw [← hH2]; exact Heap.get?_push_of_some _ e)
  have cne : H2.objs.size ≠ X.env.locals := Nat.ne_of_gt I3.lt
  have csz : X.s₀.heap.objs.size ≤ H2.objs.size := I3.sz
  have ccell : ∀ x c, X.env.cells.lookup x = some c → c ≠ H2.objs.size := fun x c e z => by
    obtain ⟨v, oc, hoc, _⟩ := I3.cell x c e
    exact absurd (Heap.lt_size hoc) (by rw [z]; exact Nat.lt_irrefl _)
  have cpin : ∀ p ∈ X.pn ++ pins, p.1 ≠ H2.objs.size := fun p hp z => absurd (Heap.lt_size (I3.pin p hp).1) (by rw [z]; exact Nat.lt_irrefl _)
  have loop : ∀ s₃ : Shared, s₃ = { s with heap := h₁, toks := s.toks + ([] : List (Str × Value)).length } →
      codeAny (model X.prog X.w) X.A (.compLoop (.ListComp elt [⟨tg, iter, ifs, 0⟩] scope pos) 0 (.ref it) (.ref s.heap.objs.size) (compEnvC scope (clOf X.env.cells scope.names []) H2.objs.size X.env)) (RR (.ref s.heap.objs.size) H2.objs.size) s₃ := by
    rintro s₃ rfl
    refine comp_loop (fun n s' => ∃ i σ' H', Inv (X.block N' scope H2.objs.size { s with heap := H2 } (upd H s.heap.objs.size (.lst [])) fp) [] σ' H' s' ∧ tn i s'.heap ∧ (∀ b ∈ fp, H' b = none) ∧ W i n σ' H') ?_ m0 ⟨0, _, _, J0, st1, fun b hb => (hf3 b hb).1, w0⟩
    rintro n s4 ⟨i, σ4, H4, J4, st4, fr4, w4⟩
    have fok : ∀ {H' : Hp}, (∀ b ∈ fp, H' b = none) → ∀ b ∈ fp, FpOk (X.block N' scope H2.objs.size { s with heap := H2 } (upd H s.heap.objs.size (.lst [])) fp) [] H' b := fun {H'} hn b hb => by
      obtain ⟨f0, f1, f2, f3, f4, f5⟩ := hf3 b hb
      refine ⟨hn b hb, ?_, fun z => J4.ok.exfs b hb z, .inl hb, fun x c e => (J4.ok.exf b hb).2 x c e, fun p hp => ?_⟩
      · exact (J4.ok.exf b hb).1
      · have hp' : p ∈ ([] : List (Addr × Obj)) := by simpa using hp
        exact nomatch hp'
    rcases turn i n σ4 H4 w4 with ⟨stop, qn⟩ | ⟨go, step⟩
    · refine thn (T.done (X.block N' scope H2.objs.size { s with heap := H2 } (upd H s.heap.objs.size (.lst [])) fp) rfl rfl rfl hc i [] s4 σ4 H4 _ J4 (fok fr4) st4 stop) fun r s5 ⟨hr, J5⟩ => ?_
      subst hr
      obtain ⟨m5, hn5, _⟩ := J5.loc
      have I5 : Inv X pins σ H4 s5 := I3.call' (ch := fp) J5.os J5.base J5.hok J5.bare fun b hb => by
        obtain ⟨f0, f1, f2, f3, f4, f5⟩ := hf3 b hb
        exact ⟨f3, f1, f4, f5⟩
      exact hRR _ _ s5 H4 m5 I5 qn hn5 J5.free cne csz ccell cpin
    · refine thn (T.item (X.block N' scope H2.objs.size { s with heap := H2 } (upd H s.heap.objs.size (.lst [])) fp) rfl rfl rfl hc i [] s4 σ4 H4 _ J4 (fok fr4) st4 go) fun r s5 ⟨u, hr, h5⟩ => ?_
      subst hr
      refine thn h5 fun _ s6 ⟨x, H6, J6, r6, y6, st6, fr6⟩ => ?_
      have J6' := J6.pinned (fok fr6) (T.obj _ _ st6)
      have again : ∀ {σ7 : St} {H7 : Hp} {s7 : Shared}, Inv (X.block N' scope H2.objs.size { s with heap := H2 } (upd H s.heap.objs.size (.lst [])) fp) ([] ++ pinsAt fp s6.heap) σ7 H7 s7 → (∃ m', m' < n ∧ W (i + 1) m' σ7 H7) →
          ∃ m, m < n ∧ ∃ i σ' H', Inv (X.block N' scope H2.objs.size { s with heap := H2 } (upd H s.heap.objs.size (.lst [])) fp) [] σ' H' s7 ∧ tn i s7.heap ∧ (∀ b ∈ fp, H' b = none) ∧ W i m σ' H' := fun {σ7 H7 s7} J7 ⟨m', hm, w7⟩ => by
        refine ⟨m', hm, i + 1, σ7, H7, J7.unpinned, T.keep _ _ _ st6 fun b hb o e => (J7.pin (b, o) (List.mem_append_right _ (List.mem_append_right _ (mem_pinsAt hb e)))).1, fun b hb => ?_, w7⟩
        obtain ⟨o, e, d⟩ := T.obj _ _ st6 b hb
        exact (J7.pin (b, o) (List.mem_append_right _ (List.mem_append_right _ (mem_pinsAt hb e)))).2.1
      refine thn (hg _ _ _ _ _ s6 σ4 H6 x u _ J6' r6 (step x H6 y6)) fun _ s7 ⟨σ7, H7, J7, q7⟩ => ?_
      refine thn (ht _ _ _ _ _ s7 σ7 H7 _ J7 q7) fun b s8 ⟨H8, J8, q8⟩ => ?_
      cases b with
      | false => rw [if_neg Bool.false_ne_true] at q8 ⊢; exact again J8 q8
      | true =>
        rw [if_pos rfl] at q8 ⊢
        refine thn (he _ _ _ _ _ s8 σ7 H8 _ J8 q8) fun y s9 ⟨vy, H9, J9, r9, q9⟩ => ?_
        refine thn (mt_append _ s9 σ7 H9 (.ref s.heap.objs.size) [vy] (.ref s.heap.objs.size) [y] _ J9 rfl (.cons r9 .nil) q9) fun _ s10 ⟨_, H10, J10, _, q10⟩ => again J10 q10
  exact codeAny_compStart_list (loop _ rfl) (T.self X.A 0 _ _ _ st1 (loop _ rfl))

theorem pe_comp {tg elt iter : Expr} {ifs : List Expr} {pos : Pos} {wi : TI} {g : TG} {tt : TT} {te : TE} (hc : X.calm = true) (S : CompScope X N' scope src) (hi : PI X tg iter wi)
    (hg : ∀ (C : Addr) (s₀ : Shared) (H₀ : Hp) (ex : List Addr), PG (X.block N' scope C s₀ H₀ ex) tg g)
    (ht : ∀ (C : Addr) (s₀ : Shared) (H₀ : Hp) (ex : List Addr), PTs (X.block N' scope C s₀ H₀ ex) ifs tt)
    (he : ∀ (C : Addr) (s₀ : Shared) (H₀ : Hp) (ex : List Addr), PE (X.block N' scope C s₀ H₀ ex) elt te)
    (hs : ∀ x, foldedSetIterable iter X.env x = pure x := by intro _; rfl) : PE X (.ListComp elt [⟨tg, iter, ifs, 0⟩] scope pos) (tComp src wi g tt te) := by
  intro pins s σ H Q I h
  rw [eval_ListComp]
  refine wpAny_comprehension_free (use := none) rfl hs (closureFor_of fun y hy e => I.ok.has y.1 (S.free y hy e)) S.kind S.names (thn (hi pins s σ H _ I h) fun v s1 h1 => thn h1 fun itv s2 h2 => ?_)
  obtain ⟨it, fp, tn, J, H2, e, I2, T, st2, f2, q⟩ := h2
  subst e
  refine comp_block hc S hg ht he I2 T st2 f2 q fun acc C s' H' m I' q' hn hC c1 c2 c3 c4 => ⟨m, hn, fun h' hs' => ?_⟩
  exact ⟨.ref acc, H', I'.turned (t' := s'.toks) (fun b o hb e => (hs'.2 b hb).trans e) hC c1 (.inr c2) c3 c4, rfl, q'⟩
end
end L2

/-! EXCEPTIONS: what a raised thing is, and that a frame which it leaves keeps all else -/
namespace L2
open PySem PySem.Spec PyProof.Rows
noncomputable def without (h : Heap) (xs : List Addr) : Heap := { objs := (Array.range h.objs.size).map fun a => if a ∈ xs then { cls := .none, data := .freed } else (h.objs[a]?).getD { cls := .none, data := .freed } }
structure Raised (h : Heap) (e : Addr) (cls : Value) (dx tb : Option Addr) : Prop where
  obj : ∃ oe vs, h.get? e = some oe ∧ oe.cls = cls ∧ oe.dict = dx ∧ oe.data = .fields vs ∧ vs[1]? = some (match tb with | none => .none | some T => .ref T)
  tr : ∀ T, tb = some T → T ≠ e ∧ ∃ oT ts fl, h.get? T = some oT ∧ oT.data = .fields ts ∧ ts[3]? = some fl
noncomputable def tbl' : Option Addr → List Addr
  | none => []
  | some T => [T]
structure Noted (l : List Addr) (h h' : Heap) (e : Addr) (cls : Value) (dx tb : Option Addr) (T : Addr) : Prop where
  keep : ∀ b o, b ≠ e → b ∉ tbl' tb → b ∉ l → h.get? b = some o → h'.get? b = some o
  slot : ∀ b o, b ∈ l → h.get? b = some o → ∃ sl, h'.get? b = some { o with slots := sl }
  new : h.get? T = none ∨ some T = tb
  r : Raised h' e cls dx (some T)
section
variable {M : Model} {A : Around} {E : Value → Shared → Prop} {s : Shared} {base : Heap} {env : Env} {outer : List Env} {L e : Addr} {cls : Value} {dx tb : Option Addr} {Q : Unit → Shared → Prop}
theorem dict_map (o : Obj) (f : Array Value → Array Value) : (o.mapFields f).dict = o.dict := by
  obtain ⟨c, d, dt, sl⟩ := o
  cases dt <;> rfl
theorem entry_any {oe : Obj} {vs : Array Value} {head : Value} {hadNext : Bool} (hf : A.frames = some (env :: outer)) (ff : s.heap.FunFrames base (env :: outer)) (hL : env.frame = some L)
    (h1 : s.heap.get? e = some oe) (h3 : oe.data = .fields vs) (hz : 1 < vs.size) (he : e ∉ frs (env :: outer))
    (h : ∀ h' T, (∀ b o, b ≠ e → b ∉ frs (env :: outer) → s.heap.get? b = some o → h'.get? b = some o) → (∀ b o, b ≠ e → b ∈ frs (env :: outer) → s.heap.get? b = some o → ∃ sl, h'.get? b = some { o with slots := sl }) → s.heap.get? T = none → T ≠ e →
      h'.get? e = some (oe.mapFields (·.setIfInBounds 1 (.ref T))) → (∃ oT ts fl, h'.get? T = some oT ∧ oT.data = .fields ts ∧ ts[3]? = some fl) → Q () { s with heap := h' }) :
    wpAny M A (do let a ← frameOf env; let pl ← entryPlaceOf L hadNext; let b ← EntryCells.newEntry head a .none (rawInt L) .none pl; setField (.ref e) 1 b) Q E s := by
  refine wpAny_bind (wpAny_frameOf_fun hf ff hL fun g1 sl1 => wpAny_bind (wpAny_entryPlaceOf fun pl ip => ?_))
  unfold EntryCells.newEntry newFields
  have e1 : g1.get? e = some oe := (sl1.2.1 e he).trans h1
  refine wpAny_bind (wpAny_newObj_type (wpAny_setField (Heap.get?_push_of_some _ e1) h3 hz ?_) (ip.sizeOk5 _ _ _ _ _))
  have ne : g1.objs.size ≠ e := Nat.ne_of_gt (Heap.lt_size e1)
  have kp : ∀ b o, b ≠ e → g1.get? b = some o → ((g1.push { cls := .type "traceback", dict := none, data := .fields ([head, .ref L, .none, rawInt L, .none] ++ (if pl.isEmpty then List.replicate 6 Value.none else pl)).toArray }).update e (Obj.mapFields (·.setIfInBounds 1 (Value.ref g1.objs.size)))).get? b = some o := fun b o nb q => by
    rw [Heap.get?_update_other _ _ (Ne.symm nb)]
    exact Heap.get?_push_of_some _ q
  refine h _ g1.objs.size (fun b o nb nf q => kp b o nb ((sl1.2.1 b nf).trans q)) (fun b o nb hb q => ?_) (Heap.get?_none_of_le (by rw [sl1.1]; exact Nat.le_refl _)) ne ?_ ?_
  · obtain ⟨sl, q1⟩ := sl1.2.2 b o q
    exact ⟨sl, kp b _ nb q1⟩
  · exact Heap.get?_update_self _ (Heap.get?_push_of_some _ e1) (Obj.isFreed_of_fields (Obj.data_mapFields h3 _))
  · refine ⟨_, _, rawInt L, (Heap.get?_update_other _ _ (Ne.symm ne)).trans (Heap.get?_push_size g1 rfl), rfl, ?_⟩
    simp
theorem note_any (hf : A.frames = some (env :: outer)) (ff : s.heap.FunFrames base (env :: outer)) (hL : env.frame = some L) (r : Raised s.heap e cls dx tb)
    (h : ∀ h' T, Noted (frs (env :: outer)) s.heap h' e cls dx tb T → Q () { s with heap := h' }) : wpAny M A (noteFrame (.ref e) env) Q E s := by
  obtain ⟨oe, vs, h1, h2, hd, h3, h5⟩ := r.obj
  have norec : ∀ b o ws, s.heap.get? b = some o → o.data = .fields ws → b ∉ frs (env :: outer) := fun b o ws q qd hm => by
    obtain ⟨_, o', q1, q2⟩ := ff.mem hm
    rw [q] at q1; cases q1
    exact q2 ws qd
  have he := norec e oe vs h1 h3
  have hz : 1 < vs.size := (Array.getElem?_eq_some_iff.mp h5).1
  have obj' : ∀ (h' : Heap) (T : Addr), h'.get? e = some (oe.mapFields (·.setIfInBounds 1 (.ref T))) → ∃ oe vs, h'.get? e = some oe ∧ oe.cls = cls ∧ oe.dict = dx ∧ oe.data = .fields vs ∧ vs[1]? = some (.ref T) := fun h' T q =>
    ⟨_, _, q, (Obj.cls_mapFields _ _).trans h2, (dict_map _ _).trans hd, Obj.data_mapFields h3 _, by simp [hz]⟩
  unfold noteFrame
  simp only [hL]
  refine wpAny_bind (wpAny_field h1 h3 h5 ?_)
  cases tb with
  | none =>
    rw [if_neg (by decide)]
    exact entry_any hf ff hL h1 h3 hz he fun h' T k1 k2 k3 k4 k5 k6 => h h' T ⟨fun b o n1 _ n3 q => k1 b o n1 n3 q, fun b o hb q => k2 b o (fun z => he (z ▸ hb)) hb q, .inl k3, obj' h' T k5, fun T' z => by cases z; exact ⟨k4, k6⟩⟩
  | some T0 =>
    obtain ⟨r1, oT, ts, fl, r2, r3, r4⟩ := r.tr T0 rfl
    have hT := norec T0 oT ts r2 r3
    rw [if_pos (show (Value.ref T0 != Value.none) = true from by simp)]
    refine wpAny_bind (wpAny_field r2 r3 r4 ?_)
    by_cases hfl : (fl == rawInt L) = true
    · rw [if_pos hfl]
      exact wpAny_pure (h s.heap T0 ⟨fun _ _ _ _ _ q => q, fun b o _ q => ⟨o.slots, q⟩, .inr rfl, r⟩)
    · rw [if_neg hfl]
      have oth : ∀ b, b ≠ T0 → (s.heap.update T0 (Obj.mapFields (·.setIfInBounds 3 Value.none))).get? b = s.heap.get? b := fun b hb => Heap.get?_update_other _ _ (Ne.symm hb)
      have sz3 := (Array.getElem?_eq_some_iff.mp r4).1
      have atT : (s.heap.update T0 (Obj.mapFields (·.setIfInBounds 3 Value.none))).get? T0 = some (oT.mapFields (·.setIfInBounds 3 Value.none)) := Heap.get?_update_self _ r2 (Obj.isFreed_of_fields (Obj.data_mapFields r3 _))
      refine wpAny_bind (wpAny_setField r2 r3 sz3 (entry_any (base := base) hf (ff.of_keeps fun b o q nf => ⟨o, (oth b fun z => nf ts (by rw [z, r2] at q; cases q; exact r3)).trans q, rfl⟩) hL ((oth e (Ne.symm r1)).trans h1) h3 hz he fun h' T k1 k2 k3 k4 k5 k6 => ?_))
      refine h h' T ⟨fun b o n1 n2 n3 q => k1 b o n1 n3 ((oth b fun z => n2 (by rw [z]; exact List.mem_singleton.mpr rfl)).trans q), fun b o hb q => k2 b o (fun z => he (z ▸ hb)) hb ((oth b fun z => hT (z ▸ hb)).trans q), ?_, obj' h' T k5, fun T' z => by cases z; exact ⟨k4, k6⟩⟩
      by_cases z : T = T0
      · exact .inr (by rw [z])
      · exact .inl ((oth T z).symm.trans k3)
theorem flight_any {T : Addr} {fr : Option Addr} {l : List Addr} (r : Raised s.heap e cls dx (some T)) (hn : ∀ b o ws, s.heap.get? b = some o → o.data = .fields ws → b ∉ l)
    (h : ∀ h', Noted l s.heap h' e cls dx (some T) T → Q () { s with heap := h' }) : wpAny M A (setFlight (.ref e) fr) Q E s := by
  obtain ⟨oe, vs, h1, h2, hd, h3, h5⟩ := r.obj
  obtain ⟨r1, oT, ts, fl, r2, r3, r4⟩ := r.tr T rfl
  have sz3 := (Array.getElem?_eq_some_iff.mp r4).1
  unfold setFlight
  refine wpAny_bind (wpAny_field h1 h3 h5 ?_)
  rw [if_pos (show (Value.ref T != Value.none) = true from by simp)]
  have oth : ∀ b, b ≠ T → (s.heap.update T (Obj.mapFields (·.setIfInBounds 3 (fr.elim .none fun f => rawInt f)))).get? b = s.heap.get? b := fun b hb => Heap.get?_update_other _ _ (Ne.symm hb)
  refine wpAny_setField r2 r3 sz3 (h _ ⟨fun b o n1 n2 n3 q => (oth b fun z => n2 (by rw [z]; exact List.mem_singleton.mpr rfl)).trans q, fun b o hb q => ⟨o.slots, (oth b fun z => hn T oT ts r2 r3 (z ▸ hb)).trans q⟩, .inr rfl, ⟨oe, vs, (oth e (Ne.symm r1)).trans h1, h2, hd, h3, h5⟩, fun T' z => ?_⟩)
  cases z
  exact ⟨r1, _, _, fr.elim .none fun f => rawInt f, Heap.get?_update_self _ r2 (Obj.isFreed_of_fields (Obj.data_mapFields r3 _)), Obj.data_mapFields r3 _, by simp [sz3]⟩
theorem Noted.trans {l : List Addr} {h h1 h2 : Heap} {T T' : Addr} (a : Noted l h h1 e cls dx tb T) (b : Noted l h1 h2 e cls dx (some T) T') (hT : T ∉ l) (hT0 : ∀ T0, tb = some T0 → h.get? T = none ∨ T = T0) : Noted l h h2 e cls dx tb T' := by
  have nT : ∀ b o, b ∉ tbl' tb → h.get? b = some o → b ≠ T := fun b o n q z => by
    rcases a.new with k | k
    · rw [z, k] at q; cases q
    · rw [← k] at n; exact n (by rw [z]; exact List.mem_singleton.mpr rfl)
  refine ⟨fun c o n1 n2 n3 q => b.keep c o n1 (fun z => nT c o n2 q (List.mem_singleton.mp z)) n3 (a.keep c o n1 n2 n3 q), fun c o hc q => ?_, ?_, b.r⟩
  · obtain ⟨sl, q1⟩ := a.slot c o hc q
    obtain ⟨sl', q2⟩ := b.slot c _ hc q1
    exact ⟨sl', q2⟩
  · rcases b.new with k | k
    · by_cases hm : some T' = tb
      · exact .inr hm
      · refine .inl ?_
        cases z : h.get? T' with
        | none => rfl
        | some o =>
          exfalso
          by_cases hl : T' ∈ l
          · obtain ⟨sl, q1⟩ := a.slot T' o hl z
            rw [k] at q1; cases q1
          · by_cases he : T' = e
            · obtain ⟨oe, vs, q1, _⟩ := a.r.obj
              rw [← he, k] at q1; cases q1
            · have := a.keep T' o he (fun y => hm (by cases tb with
                | none => cases y
                | some T0 => rw [List.mem_singleton.mp y])) hl z
              rw [k] at this; cases this
    · cases k
      rcases a.new with k | k
      · exact .inl k
      · exact .inr k
theorem leaving_raised (hf : A.frames = some (env :: outer)) (ff : s.heap.FunFrames base (env :: outer)) (hL : env.frame = some L) (r : Raised s.heap e cls dx tb)
    (h : ∀ h' T, Noted (frs (env :: outer)) s.heap h' e cls dx tb T → Q () { s with heap := h' }) : wpAny M A (leaving env (.ref e)) Q E s := by
  have norec : ∀ b o ws, s.heap.get? b = some o → o.data = .fields ws → b ∉ frs (env :: outer) := fun b o ws q qd hm => by
    obtain ⟨_, o', q1, q2⟩ := ff.mem hm
    rw [q] at q1; cases q1
    exact q2 ws qd
  unfold leaving
  refine wpAny_bind (note_any hf ff hL r fun h1 T1 n1 => ?_)
  have norec1 : ∀ b o ws, h1.get? b = some o → o.data = .fields ws → b ∉ frs (env :: outer) := fun b o ws q qd hm => by
    obtain ⟨_, o', q1, q2⟩ := ff.mem hm
    obtain ⟨sl, q3⟩ := n1.slot b o' hm q1
    rw [q] at q3; cases q3
    exact q2 ws qd
  refine flight_any (s := { s with heap := h1 }) n1.r norec1 fun h2 n2 => ?_
  obtain ⟨_, oT, ts, fl, r2, r3, _⟩ := n1.r.tr T1 rfl
  exact h h2 T1 (n1.trans n2 (norec1 T1 oT ts r2 r3) fun T0 z => by
    rcases n1.new with k | k
    · exact .inl k
    · rw [z] at k; cases k; exact .inr rfl)
end
end L2

namespace L2
open PySem PySem.Spec PyProof.Rows
noncomputable def CX1 (P : Program) (w : World) : CXT := fun outer H s E e s' => ∃ (a : Addr) (cls : Value) (dx : Option Addr) (T : Addr) (H' : Hp), e = .ref a ∧ s'.os = s.os ∧ AllBare s'.gens ∧ Un (frs outer) [] H H' s.heap s'.heap ∧ HOk P w H' s'.heap ∧
  Raised s'.heap a cls dx (some T) ∧ s.heap.get? a = none ∧ s.heap.get? T = none ∧ H' a = none ∧ H' T = none ∧ E cls dx H'
noncomputable def Throws (X : Cx) (EX : XK) : Prop := ∀ (pins : List (Addr × Obj)) (σ : St) (H : Hp) (s : Shared) (e : Addr) (cls : Value) (dx tb : Option Addr), Inv X pins σ H s → Raised s.heap e cls dx tb → X.s₀.heap.get? e = none → H e = none →
  (∀ T, tb = some T → X.s₀.heap.get? T = none ∧ H T = none) → EX cls dx H → X.xe (.ref e) s
theorem ObjOk.has {P : Program} {w : World} {H : Hp} {h : Heap} {a : Addr} : ∀ {o : HO}, ObjOk P w H h a o → ∃ u, h.get? a = some u := by
  intro o
  induction o with
  | lst xs => intro ⟨_, _, _, _, e⟩; exact ⟨_, e⟩
  | tup xs => intro ⟨_, _, _, _, e, _⟩; exact ⟨_, e⟩
  | dK kvs => intro ⟨_, _, _, _, o, _, _, e, _⟩; exact ⟨_, e⟩
  | dT kvs => intro ⟨_, _, _, _, o, _, _, e, _⟩; exact ⟨_, e⟩
  | set S n => intro ⟨o, _, _, _, e, _⟩; exact ⟨_, e⟩
  | ins C dx fs => intro ⟨_, _, _, e, _⟩; exact ⟨_, e⟩
  | own y => intro ⟨_, e⟩; exact ⟨_, e⟩
  | xd fs => intro ⟨_, ⟨_, _, _, e, _⟩, _⟩; exact ⟨_, e⟩
  | rng lo hi => intro ⟨_, _, _, e⟩; exact ⟨_, e⟩
  | frz ob u _ => intro ⟨e, _⟩; exact ⟨_, e⟩
  | tbl ps => intro e; exact ⟨_, (show h.get? a = some _ from e)⟩
  | met f y => intro e; exact ⟨_, (show h.get? a = some _ from e)⟩
  | ext φ => intro ⟨_, ⟨_, e⟩, _⟩; exact ⟨_, e⟩
theorem HOk.gone {P : Program} {w : World} {H : Hp} {h : Heap} (ok : HOk P w H h) {a : Addr} (n : h.get? a = none) : H a = none := by
  cases e : H a with
  | none => rfl
  | some o =>
    obtain ⟨u, q⟩ := (ok a o e).has
    rw [n] at q; cases q
theorem hok_but {P : Program} {w : World} {H : Hp} {h h' : Heap} (ok : HOk P w H h) (k : ∀ b o, H b ≠ none → h.get? b = some o → h'.get? b = some o) : HOk P w H h' := fun a o e =>
  (ok a o e).stay (fun b u hb q => k b u (by rcases hb with hb | hb <;> rw [hb] <;> simp [e]) q) (fun _ z => z) fun _ _ z => z
theorem frs_cons {env : Env} {l : List Env} {b : Addr} (h : b ∈ frs l) : b ∈ frs (env :: l) := by
  unfold frs at h ⊢
  obtain ⟨x, hx, e⟩ := List.mem_filterMap.mp h
  exact List.mem_filterMap.mpr ⟨x, List.mem_cons_of_mem _ hx, e⟩
theorem throws_fn {P : Program} {w : World} {K : PySem.W.Frag} {mg : Str → Option Value} {base : Heap} {N : List Str} {qual : Str} {scope : Scope} {f : Addr} {cd : Value} {A : Around} {outer : List Env} {s : Shared} {H : Hp} {E : XK} :
    Throws (cxOf (CX1 P w) P w K mg base N qual scope f cd A outer s H E) E := by
  intro pins σ H1 s1 e cls dx tb I r he heH hT q
  have hf := I.ok.frames
  have ff := I.stack
  have hfr : (cxOf (CX1 P w) P w K mg base N qual scope f cd A outer s H E).env.frame = some (cxOf (CX1 P w) P w K mg base N qual scope f cd A outer s H E).env.locals := by
    rcases I.ok.stk with z | z
    · have := congrArg List.length z
      exact absurd this (by show outer.length + 1 ≠ outer.length; omega)
    · exact z.2
  have sf := I.stkFree
  have he' : s.heap.get? e = none := he
  have up : Un (frs outer) [] H H1 s.heap s1.heap := I.base
  refine leaving_raised hf ff hfr r fun h' T ⟨k1, k2, k3, r'⟩ => ?_
  have hT' : s.heap.get? T = none ∧ H1 T = none := by
    rcases k3 with k3 | k3
    · refine ⟨?_, I.hok.gone k3⟩
      cases z : s.heap.get? T with
      | none => rfl
      | some o =>
        obtain ⟨o', q'⟩ := up.there T o z (by simp)
        rw [k3] at q'; cases q'
    · exact hT T k3.symm
  have old : ∀ b o, s.heap.get? b = some o → b ≠ e ∧ b ∉ tbl' tb := fun b o qb => by
    refine ⟨(fun z => by rw [z, he'] at qb; cases qb), fun z => ?_⟩
    cases tb with
    | none => cases z
    | some T0 =>
      have := (hT T0 rfl).1
      rw [List.mem_singleton.mp z] at qb
      have this' : s.heap.get? T0 = none := this
      rw [this'] at qb; cases qb
  have loc : ∀ b o, s.heap.get? b = some o → b ∉ frs outer → b ∉ frs ((cxOf (CX1 P w) P w K mg base N qual scope f cd A outer s H E).env :: outer) := fun b o qb hb hm => by
    unfold frs at hm
    rw [List.filterMap_cons, hfr] at hm
    rcases List.mem_cons.mp hm with z | z
    · have := I.ok.above
      have h2 := Heap.lt_size qb
      rw [z] at h2
      exact absurd h2 (Nat.not_lt.mpr this)
    · exact hb z
  refine ⟨e, cls, dx, T, H1, rfl, I.os, I.bare, ⟨fun b o qb n hb hx => ?_, fun b o qb n hb hx => ?_, fun b o qb n hx => up.free b o qb n hx, fun b o qb hx => ?_, up.tups, up.frzs, up.tbls⟩, ?_, r', he', hT'.1, heH, hT'.2, q⟩
  · obtain ⟨o1, o2⟩ := old b o qb
    exact k1 b o o1 o2 (loc b o qb hb) (up.keep b o qb n hb hx)
  · obtain ⟨sl, q1⟩ := up.slot b o qb n hb hx
    obtain ⟨sl', q2⟩ := k2 b _ (frs_cons hb) q1
    exact ⟨sl', q2⟩
  · obtain ⟨o', q1⟩ := up.there b o qb hx
    obtain ⟨o1, o2⟩ := old b o qb
    by_cases b1 : b ∈ frs ((cxOf (CX1 P w) P w K mg base N qual scope f cd A outer s H E).env :: outer)
    · obtain ⟨sl, z⟩ := k2 b o' b1 q1; exact ⟨_, z⟩
    · exact ⟨o', k1 b o' o1 o2 b1 q1⟩
  · refine hok_but I.hok fun b o hb qb => k1 b o (fun z => hb (by rw [z]; exact heH)) (fun z => ?_) (fun z => hb (sf b z)) qb
    cases tb with
    | none => cases z
    | some T0 => exact hb (by rw [List.mem_singleton.mp z]; exact (hT T0 rfl).2)
end L2

/-! raise C(e), C an own class of exceptions without an __init__ of its own -/
namespace L2
open PySem PySem.Spec PyProof.Rows
abbrev VEB : List Value := [.type "ValueError", .type "Exception", .type "BaseException", .type "object"]
theorem tail_keeps {h h' : Heap} {bmB : List Value} (k : ∀ b o, h.get? b = some o → h'.get? b = some o) : ∀ {bm : List Value}, OwnTail h bmB bm → OwnTail h' bmB bm := by
  intro bm t
  induction t with
  | base => exact .base
  | own e n m _ ih => exact .own (k _ _ e) (n.keeps k) m ih
noncomputable def tRaise (EX : XK) (C : Addr) (t : TA) : TS := fun _ σ H => t σ H fun vs H1 => vs.length ≤ sizeLine ∧ EX (.ref C) none H1
theorem ps_raise {X : Cx} {EX : XK} {x : Str} {C : Addr} {np cpos pos : Pos} {a : Expr} {t : TA} (th : Throws X EX) (hc : X.calm = true) (hex : X.ex = []) (oc : OwnCls x C VEB "ValueError.__new__" X.mg X.base) (hg : Gl X x) (ha : PA X [a] t)
    (he : starEach [a] X.env = (false, eval a X.env) :: starEach [] X.env := by rfl) (hpl : ((backTo cpos (starEach [a] X.env)).any fun x => x.1) = false := by rfl)
    (hbk : ∃ y rest, backTo cpos (starEach [a] X.env) = (false, y) :: rest := by exact ⟨_, _, rfl⟩)
    (hbm : ∀ h bm, OwnTail h VEB bm → bm.contains (.type "BaseException") = true) (hd : (x == ("__debug__" : Str)) = false := by decide) : PS X (.Raise (some (.Call (.Name x np) [a] [] cpos)) none pos) (tRaise EX C t) := by
  intro pins s σ H D I h
  obtain ⟨hb, bm, N, nm, q, bs, hdct, sn, sub, ab, col, dd, k0, k1, k2, k3, k5, mN, o1, o2, o3, o4⟩ := oc
  refine wpAny_Raise_call_subU (C := C) (Bn := "ValueError") (B := "ValueError") (nm := nm) (q := q) (N := N) (bs := bs) (bm := bm) (hdct := hdct) (sn := sn) (sub := sub) (ab := ab) (col := col) (dd := dd) (k0 := k0) (k1 := k1) (k2 := k2) (k3 := k3) (k5 := k5) (mN := mN) PySem.F.excBase_ValueError (by decide) PySem.F.excBase_ValueError (hbm _ _ o4) (I.ok.hd hc) hpl o3 ?_
  refine ld_glob I hg hb ⟨rfl, ?_⟩ hd
  obtain ⟨y, rest, hy⟩ := hbk
  rw [hy]
  refine Calls.evalArgs_plain ?_
  rw [← hy]
  refine thn (ha cpos pins s σ H _ I h) fun us s2 ⟨vs, H2, I2, r2, zl, q2⟩ => ⟨rfl, (by rw [← r2.length]; exact zl), I2.bk _ _ o1, o2.keeps I2.bk, tail_keeps I2.bk o4, fun h' e m => ?_⟩
  · obtain ⟨T, m1, m2, m3⟩ := m.there
    have I3 : Inv X pins σ H2 { s2 with heap := h' } := I2.kept (t' := s2.toks) m.keeps
    refine th pins σ H2 _ e (.ref C) none none I3 ⟨⟨_, _, m1, rfl, rfl, rfl, rfl⟩, fun T' z => nomatch z⟩ ?_ ?_ (fun T' z => nomatch z) q2
    · cases z : X.s₀.heap.get? e with
      | none => rfl
      | some o =>
        obtain ⟨o', z'⟩ := I2.base.there e o z (by rw [hex]; simp)
        rw [m.new] at z'; cases z'
    · exact HOk.gone I2.hok m.new
end L2

namespace L2
open PySem PySem.Spec PyProof.Rows
noncomputable abbrev EXT := Value → Option Addr → St → Hp → Prop
noncomputable def ThrowsT (X : Cx) (EX : EXT) : Prop := ∀ (pins : List (Addr × Obj)) (σ : St) (H : Hp) (s : Shared) (e : Addr) (cls : Value) (dx : Option Addr) (T : Addr), Inv X pins σ H s → Raised s.heap e cls dx (some T) → X.s₀.heap.get? e = none → H e = none →
  X.s₀.heap.get? T = none → H T = none → (∀ p ∈ X.pn ++ pins, p.1 ≠ e ∧ p.1 ≠ T) → (e ≠ X.env.locals ∧ T ≠ X.env.locals) → (∀ x c, X.env.cells.lookup x = some c → c ≠ e ∧ c ≠ T) → EX cls dx σ H → X.xe (.ref e) s
theorem Throws.t {X : Cx} {EX : XK} (h : Throws X EX) : ThrowsT X fun cls od _ H => EX cls od H := fun pins σ H s e cls dx T I r h1 h2 h3 h4 _ _ _ q => h pins σ H s e cls dx (some T) I r h1 h2 (fun T' z => by cases z; exact ⟨h3, h4⟩) q
theorem pass_at {X : Cx} {EX : EXT} (th : ThrowsT X EX) (hex : X.ex = []) {pins : List (Addr × Obj)} {σ : St} {H : Hp} {s s' : Shared} {e : Value} (I : Inv X pins σ H s) (h : CX1 X.prog X.w X.stack H s (fun cls od H' => EX cls od σ H') e s') : X.xe e s' := by
  obtain ⟨a, cls, dx, T, H', he, os, bare, un, hok, r, n1, n2, n3, n4, q⟩ := h
  subst he
  have I' : Inv X pins σ H' s' := I.call' (ch := []) os un hok bare (fun b hb => nomatch hb)
  have old : ∀ b, s.heap.get? b = none → X.s₀.heap.get? b = none := fun b hb => by
    cases z : X.s₀.heap.get? b with
    | none => rfl
    | some o =>
      obtain ⟨o', z'⟩ := I.base.there b o z (by rw [hex]; simp)
      rw [hb] at z'; cases z'
  have pin : ∀ b, s.heap.get? b = none → ∀ p ∈ X.pn ++ pins, p.1 ≠ b := fun b hb p hp z => by
    have := (I.pin p hp).1
    rw [z, hb] at this; cases this
  have loc : ∀ b, s.heap.get? b = none → b ≠ X.env.locals := fun b hb z => by
    obtain ⟨m, ⟨o, es, ep, ho, _⟩, _⟩ := id I.loc
    rw [z, ho] at hb; cases hb
  have cel : ∀ b, s.heap.get? b = none → ∀ x c, X.env.cells.lookup x = some c → c ≠ b := fun b hb x c hc z => by
    obtain ⟨v, o, ho, _⟩ := I.cell x c hc
    rw [z, hb] at ho; cases ho
  exact th pins σ H' s' a cls dx T I' r (old a n1) n3 (old T n2) n4 (fun p hp => ⟨pin a n1 p hp, pin T n2 p hp⟩) ⟨loc a n1, loc T n2⟩ (fun x c hc => ⟨cel a n1 x c hc, cel T n2 x c hc⟩) q
noncomputable def PassX (X : Cx) (EX : EXT) : Prop := ∀ (pins : List (Addr × Obj)) (σ : St) (H : Hp) (s : Shared) (e : Value) (s' : Shared), Inv X pins σ H s → CX1 X.prog X.w X.stack H s (fun cls od H' => EX cls od σ H') e s' → X.xe e s'
theorem ThrowsT.pass {X : Cx} {EX : EXT} (th : ThrowsT X EX) (hex : X.ex = []) : PassX X EX := fun _ _ _ _ _ _ I h => pass_at th hex I h
noncomputable def tCallX (sp : Sp) (EX : EXT) (t : TA) : TE := fun σ H Q => t σ H fun vs H1 => sp vs H1 Q fun cls od H' => EX cls od σ H'
theorem pe_callX {X : Cx} {EX : EXT} {k : Nat} {f : Addr} {fd : FuncData} {ps : List Str} {sp : Sp} {x : Str} {p pos : Pos} {e : Expr} {es : List Expr} {t : TA} (F : FnOk X.prog X.w X.K X.mg X.base (CX1 X.prog X.w) k f fd ps sp) (hr : Room k X.A) (hg : Gl X x) (hm : X.mg x = some (.ref f)) (hk : PySem.W.keepIn X.K (.ref f) = true) (hb : Binds X.K fd ps [])
    (th : PassX X EX) (ha : PA X (e :: es) t) (hdb : (x == ("__debug__" : Str)) = false := by decide) (he : starEach (e :: es) X.env = (false, eval e X.env) :: starEach es X.env := by rfl) (hpl : (backTo pos (starEach es X.env)).any (·.1) = false := by rfl) :
    PE X (.Call (.Name x p) (e :: es) [] pos) (tCallX sp EX t) := by
  intro pins s σ H Q I h
  refine wpAny_Call_Name_kw (ld_glob I hg hm ?_ hdb)
  refine PySem.W.callWith_K (h₀ := X.base) I.ok.mod.kin hk (thn (ha pos pins s σ H _ I h) fun us s1 ⟨vs, H1, I1, r, q⟩ => ⟨I1.kIn, ?_⟩) he hpl
  have hl : (us ++ []).length = ps.length := by rw [List.append_nil, ← r.length]; exact F.len _ _ _ _ q
  have bb := hb s1 us I1.kIn hl
  rw [List.append_nil] at bb
  refine wpAny_call (codeAny_mono (F.run X.A X.stack s1 H1 ⟨us, []⟩ us vs Q _ hr I1.env0 bb r q) fun r' s' hq => ?_)
  cases r' with
  | error e => exact th _ _ _ _ _ _ I1 hq
  | ok fl =>
    cases fl with
    | ret u => exact I1.after hq
    | next => exact False.elim hq
    | brk => exact False.elim hq
    | cont => exact False.elim hq
end L2

/-! try: what was raised comes back, is noted, and a handler takes it -/
namespace L2
open PySem PySem.Spec PyProof.Rows
structure Air (X : Cx) (pins : List (Addr × Obj)) (H : Hp) (s : Shared) (e : Addr) (cls : Value) (dx : Option Addr) (T : Addr) : Prop where
  r : Raised s.heap e cls dx (some T)
  e0 : X.s₀.heap.get? e = none
  eH : H e = none
  t0 : X.s₀.heap.get? T = none
  tH : H T = none
  pe : ∀ p ∈ X.pn ++ pins, p.1 ≠ e ∧ p.1 ≠ T
  le : e ≠ X.env.locals ∧ T ≠ X.env.locals
  ce : ∀ x c, X.env.cells.lookup x = some c → c ≠ e ∧ c ≠ T
section
variable {X : Cx} {pins : List (Addr × Obj)} {σ : St} {H : Hp} {s : Shared} {e T : Addr} {cls : Value} {dx : Option Addr}
theorem Inv.air {h' : Heap} {T' : Addr} (I : Inv X pins σ H s) (a : Air X pins H s e cls dx T) (hex : X.ex = []) (k1 : ∀ b o, b ≠ e → b ≠ T → b ∉ frs X.stack → s.heap.get? b = some o → h'.get? b = some o)
    (k2 : ∀ b o, b ∈ frs X.stack → s.heap.get? b = some o → ∃ sl, h'.get? b = some { o with slots := sl }) (r' : Raised h' e cls dx (some T')) (hT : s.heap.get? T' = none ∨ T' = T) :
    Inv X pins σ H { s with heap := h' } ∧ Air X pins H { s with heap := h' } e cls dx T' := by
  have old : ∀ b o, X.s₀.heap.get? b = some o → b ≠ e ∧ b ≠ T := fun b o q => ⟨(fun z => by rw [z, a.e0] at q; cases q), (fun z => by rw [z, a.t0] at q; cases q)⟩
  have nl : ∀ b o, X.s₀.heap.get? b = some o → b ≠ X.env.locals := fun b o q => Nat.ne_of_lt (Nat.lt_of_lt_of_le (Heap.lt_size q) I.ok.above)
  have nst : ∀ b, b ≠ X.env.locals → b ∉ X.fs → b ∉ frs X.stack := fun b h1 h2 z => (List.mem_cons.mp (I.stkSub b z)).elim h1 h2
  have any : ∀ b o, b ≠ e → b ≠ T → s.heap.get? b = some o → ∃ sl, h'.get? b = some { o with slots := sl } := fun b o n1 n2 q => by
    by_cases hb : b ∈ frs X.stack
    · exact k2 b o hb q
    · exact ⟨o.slots, k1 b o n1 n2 hb q⟩
  have cellK : ∀ x c, X.env.cells.lookup x = some c → ∀ v, s.heap.IsCell c v → h'.IsCell c v := fun x c ec v ⟨o, ho, hd⟩ => by
    obtain ⟨sl, q⟩ := any c o (a.ce x c ec).1 (a.ce x c ec).2 ho
    exact ⟨_, q, hd⟩
  refine ⟨⟨I.ok, I.os, I.bare, ⟨fun b o q n hb hx => ?_, fun b o q n hb hx => ?_, I.base.free, fun b o q hx => ?_, I.base.tups, I.base.frzs, I.base.tbls⟩, ?_, fun x c ec => ?_, I.free, I.freeC, fun p hp => ?_, ?_, I.len⟩, ⟨r', a.e0, a.eH, ?_, ?_, fun p hp => ⟨(a.pe p hp).1, ?_⟩, ⟨a.le.1, ?_⟩, fun x c ec => ⟨(a.ce x c ec).1, ?_⟩⟩⟩
  · exact k1 b o (old b o q).1 (old b o q).2 (nst b (nl b o q) hb) (I.base.keep b o q n hb hx)
  · obtain ⟨sl, q1⟩ := I.base.slot b o q n hb hx
    obtain ⟨sl', q2⟩ := any b _ (old b o q).1 (old b o q).2 q1
    exact ⟨sl', q2⟩
  · obtain ⟨o', q1⟩ := I.base.there b o q hx
    obtain ⟨sl', q2⟩ := any b _ (old b o q).1 (old b o q).2 q1
    exact ⟨_, q2⟩
  · obtain ⟨m, ⟨o, es, ep, ho, rr⟩, hl⟩ := I.loc
    obtain ⟨sl, q2⟩ := any _ o (Ne.symm a.le.1) (Ne.symm a.le.2) ho
    refine ⟨m, ⟨_, es, ep, q2, rr⟩, fun i x v e1 e2 e3 => ?_⟩
    obtain ⟨u, r, l⟩ := hl i x v e1 e2 e3
    refine ⟨u, r, ?_⟩
    rcases l with l | ⟨k, c, ec, z⟩
    · exact .inl l
    · exact .inr ⟨k, c, ec, cellK x c ec _ z⟩
  · obtain ⟨v, z⟩ := I.cell x c ec
    exact ⟨v, cellK x c ec v z⟩
  · obtain ⟨q, n, ne, nf, d⟩ := I.pin p hp
    exact ⟨k1 p.1 p.2 (a.pe p hp).1 (a.pe p hp).2 (nst _ ne nf) q, n, ne, nf, d⟩
  · exact hok_but I.hok fun b o hb q => k1 b o (fun z => hb (by rw [z]; exact a.eH)) (fun z => hb (by rw [z]; exact a.tH)) (fun z => hb (I.stkFree b z)) q
  · rcases hT with hT | hT
    · cases z : X.s₀.heap.get? T' with
      | none => rfl
      | some o =>
        obtain ⟨o', q⟩ := I.base.there T' o z (by rw [hex]; simp)
        rw [hT] at q; cases q
    · rw [hT]; exact a.t0
  · rcases hT with hT | hT
    · exact I.hok.gone hT
    · rw [hT]; exact a.tH
  · rcases hT with hT | hT
    · intro z
      have := (I.pin p hp).1
      rw [z, hT] at this; cases this
    · rw [hT]; exact (a.pe p hp).2
  · rcases hT with hT | hT
    · intro z
      obtain ⟨m, ⟨o, es, ep, ho, _⟩, _⟩ := I.loc
      rw [← z, hT] at ho; cases ho
    · rw [hT]; exact a.le.2
  · rcases hT with hT | hT
    · intro z
      obtain ⟨v, o, ho, _⟩ := I.cell x c ec
      rw [z, hT] at ho; cases ho
    · rw [hT]; exact (a.ce x c ec).2
theorem Inv.noted {h' : Heap} {T' : Addr} (I : Inv X pins σ H s) (a : Air X pins H s e cls dx T) (hex : X.ex = []) (n : Noted (frs X.stack) s.heap h' e cls dx (some T) T') : Inv X pins σ H { s with heap := h' } ∧ Air X pins H { s with heap := h' } e cls dx T' :=
  I.air a hex (fun b o n1 n2 n3 q => n.keep b o n1 (fun z => n2 (List.mem_singleton.mp z)) n3 q) n.slot n.r (by
    rcases n.new with k | k
    · exact .inl k
    · cases k; exact .inr rfl)
theorem flight_raised {M : Model} {A : Around} {E : Value → Shared → Prop} {Q : Shared → Prop} (I : Inv X pins σ H s) (a : Air X pins H s e cls dx T) (hex : X.ex = []) (hA : A.frames = some X.stack) (hst : X.stack = X.env :: X.outer) (hfr : X.env.frame = some X.env.locals)
    (k : ∀ h' T', Inv X pins σ H { s with heap := h' } → Air X pins H { s with heap := h' } e cls dx T' → Q { s with heap := h' }) :
    wpAny M A (noteFrame (.ref e) X.env) (fun _ s2 => wpAny M A (setFlight (.ref e) none) (fun _ s3 => Q s3) E s2) E s ∧ wpAny M A (setFlight (.ref e) none) (fun _ s3 => Q s3) E s := by
  have nor : ∀ {σ : St} {H : Hp} {s : Shared}, Inv X pins σ H s → ∀ b o ws, s.heap.get? b = some o → o.data = .fields ws → b ∉ frs X.stack := fun {σ H s} I b o ws q qd hm => by
    obtain ⟨_, o', q1, q2⟩ := I.stack.mem hm
    rw [q] at q1; cases q1
    exact q2 ws qd
  constructor
  · have ff : s.heap.FunFrames X.base (X.env :: X.outer) := by rw [← hst]; exact I.stack
    refine note_any (by rw [hA, hst]) ff hfr a.r fun h1 T1 n1 => ?_
    rw [← hst] at n1
    obtain ⟨I1, a1⟩ := I.noted a hex n1
    refine flight_any (s := { s with heap := h1 }) a1.r (nor I1) fun h2 n2 => ?_
    obtain ⟨I2, a2⟩ := I1.noted a1 hex n2
    exact k h2 T1 I2 a2
  · refine flight_any a.r (nor I) fun h2 n2 => ?_
    obtain ⟨I2, a2⟩ := I.noted a hex n2
    exact k h2 T I2 a2
end
/-! contexts: within try, within a handler's suite -/
noncomputable abbrev Cx.inTry (X : Cx) (pn : List (Addr × Obj)) (xe : Value → Shared → Prop) : Cx := { X with pn := pn, xe := xe }
noncomputable abbrev Cx.inSuite (X : Cx) (a : Addr) : Cx := { X with A := X.A.mark (some (.ref a)), calm := false, xe := fun _ _ => False }
section
variable {X : Cx} {pins : List (Addr × Obj)} {σ : St} {H : Hp} {s : Shared} {e T : Addr} {cls : Value} {dx : Option Addr} {xe : Value → Shared → Prop}
theorem Cx.Ok.tryIn {pn : List (Addr × Obj)} (k : X.Ok) : (X.inTry pn xe).Ok := ⟨k.mod, k.kind, k.glob, k.blt, k.above, k.inj, k.has, k.cab, k.hd, k.frames, k.stk, k.exf, k.bs, k.bsz, k.noex, k.exfs, k.funs, k.frf⟩
theorem Cx.Ok.suiteIn (k : X.Ok) : (X.inSuite e).Ok := ⟨k.mod, k.kind, k.glob, k.blt, k.above, k.inj, k.has, k.cab, (fun h => nomatch h), k.frames, k.stk, k.exf, k.bs, k.bsz, k.noex, k.exfs, k.funs, k.frf⟩
theorem Inv.tryIn (I : Inv X pins σ H s) : Inv (X.inTry (X.pn ++ pins) xe) [] σ H s := ⟨I.ok.tryIn, I.os, I.bare, I.base, I.loc, I.cell, I.free, I.freeC, (fun p hp => I.pin p (by simpa using hp)), I.hok, I.len⟩
theorem Inv.tryOut {pins' : List (Addr × Obj)} (k : X.Ok) (I : Inv (X.inTry (X.pn ++ pins) xe) pins' σ H s) : Inv X pins σ H s := ⟨k, I.os, I.bare, I.base, I.loc, I.cell, I.free, I.freeC, (fun p hp => I.pin p (List.mem_append_left _ hp)), I.hok, I.len⟩
theorem Inv.suiteIn (I : Inv X pins σ H s) : Inv (X.inSuite e) pins σ H s := ⟨I.ok.suiteIn, I.os, I.bare, I.base, I.loc, I.cell, I.free, I.freeC, I.pin, I.hok, I.len⟩
theorem Inv.suiteOut (k : X.Ok) (I : Inv (X.inSuite e) pins σ H s) : Inv X pins σ H s := ⟨k, I.os, I.bare, I.base, I.loc, I.cell, I.free, I.freeC, I.pin, I.hok, I.len⟩
theorem SP.out {D : Ends} {f : Flow} (k : X.Ok) (h : SP (X.inSuite e) pins D f s) : SP X pins D f s := by
  cases f with
  | next => obtain ⟨σ', H', I, q⟩ := h; exact ⟨σ', H', I.suiteOut k, q⟩
  | brk => obtain ⟨σ', H', I, q⟩ := h; exact ⟨σ', H', I.suiteOut k, q⟩
  | cont => obtain ⟨σ', H', I, q⟩ := h; exact ⟨σ', H', I.suiteOut k, q⟩
  | ret u => obtain ⟨v, σ', H', I, q⟩ := h; exact ⟨v, σ', H', I.suiteOut k, q⟩
theorem SP.outT {D : Ends} {f : Flow} (k : X.Ok) (h : SP (X.inTry (X.pn ++ pins) xe) [] D f s) : SP X pins D f s := by
  cases f with
  | next => obtain ⟨σ', H', I, q⟩ := h; exact ⟨σ', H', I.tryOut k, q⟩
  | brk => obtain ⟨σ', H', I, q⟩ := h; exact ⟨σ', H', I.tryOut k, q⟩
  | cont => obtain ⟨σ', H', I, q⟩ := h; exact ⟨σ', H', I.tryOut k, q⟩
  | ret u => obtain ⟨v, σ', H', I, q⟩ := h; exact ⟨v, σ', H', I.tryOut k, q⟩
noncomputable def excAt (a C : Addr) (dx : Option Addr) : Heap → Prop := fun h => ∃ o, h.get? a = some o ∧ o.cls = .ref C ∧ o.dict = dx ∧ PySem.W.notCls o = true
theorem Inv.track {C : Addr} (I : Inv X pins σ H s) (a : Air X pins H s e (.ref C) dx T) : Inv X pins σ (upd H e (.ext (excAt e C dx))) s := by
  obtain ⟨oe, vs, h1, h2, hdx, h3, h5⟩ := a.r.obj
  have hnc : PySem.W.notCls oe = true := by unfold PySem.W.notCls; rw [h3]
  refine ⟨I.ok, I.os, I.bare, ⟨I.base.keep, I.base.slot, fun b o q n hx => ?_, I.base.there, fun b xs q => ?_, fun b o u q => ?_, fun b ps q => ?_⟩, I.loc, I.cell, ?_, fun x c ec => ?_, fun p hp => ?_, fun b u q => ?_, I.len⟩
  · rw [upd_ne (fun z => by rw [z, a.e0] at q; cases q)]; exact I.base.free b o q n hx
  · have := I.base.tups b xs q
    rw [upd_ne (fun z => by rw [z, a.eH] at this; cases this)]; exact this
  · have := I.base.frzs b o u q
    rw [upd_ne (fun z => by rw [z, a.eH] at this; cases this)]; exact this
  · obtain ⟨m, this⟩ := I.base.tbls b ps q
    exact ⟨m, by rw [upd_ne (fun z => by rw [z, a.eH] at this; cases this)]; exact this⟩
  · rw [upd_ne (Ne.symm a.le.1)]; exact I.free
  · rw [upd_ne (a.ce x c ec).1]; exact I.freeC x c ec
  · obtain ⟨q, n, r⟩ := I.pin p hp
    exact ⟨q, by rw [upd_ne (a.pe p hp).1]; exact n, r⟩
  · by_cases hb : b = e
    · subst hb
      rw [upd_same] at q; cases q
      exact ⟨⟨oe, h1, h2, hdx, hnc⟩, ⟨oe, h1⟩, fun g1 g2 ⟨o, z1, z2⟩ k => ⟨o, k o z1, z2⟩⟩
    · rw [upd_ne hb] at q
      exact (I.hok b u q).stay (fun c v _ z => z) (fun c z => by rw [upd_ne (fun y => by rw [y, a.eH] at z; cases z)]; exact z) fun c xs z => by rw [upd_ne (fun y => by rw [y, a.eH] at z; cases z)]; exact z
theorem goes_ok {M : Model} {A : Around} {E : Value → Shared → Prop} {i : Nat} {n : Str} {pos : Pos} {Q : Unit → Shared → Prop} (I : Inv X pins σ H s) (hN : X.N.Nodup) (hi : X.N[i]? = some n) (hk : X.env.kindOf n = some .local)
    (h : ∀ s', Inv X pins (σ.set i none) H s' → Q () s') : wpAny M A (do bindName X.env n .none; unbindBehindTheSuite X.env n pos) Q E s := by
  obtain ⟨m, hn, hl⟩ := id I.loc
  have hcls : (X.env.scope.kind == .class || (X.env.scope.kind == .module && X.env.locals != X.env.globals)) = false := by rw [I.ok.kind]; rfl
  refine wpAny_nameGoes_keeps hk hn hcls fun h' u hn' hs => ?_
  obtain ⟨oL, _, _, hoL, _⟩ := id hn
  have cne := I.cne
  have nl : ∀ b o, X.s₀.heap.get? b = some o → b ≠ X.env.locals := fun b o q => Nat.ne_of_lt (Nat.lt_of_lt_of_le (Heap.lt_size q) I.ok.above)
  refine h _ ⟨I.ok, I.os, I.bare, ⟨fun b o q n hb hx => ?_, fun b o q n hb hx => ?_, I.base.free, fun b o q hx => ?_, I.base.tups, I.base.frzs, I.base.tbls⟩, ⟨_, hn', fun j y v' e1 e2 e3 => ?_⟩, fun y c ec => ?_, I.free, I.freeC, fun p hp => ?_, fun b ob q => ?_, by simpa using I.len⟩
  · exact (hs.2 b (nl b o q)).trans (I.base.keep b o q n hb hx)
  · obtain ⟨sl, e1⟩ := I.base.slot b o q n hb hx
    exact ⟨sl, (hs.2 b (nl b o q)).trans e1⟩
  · obtain ⟨o', e1⟩ := I.base.there b o q hx
    exact ⟨o', (hs.2 b (nl b o q)).trans e1⟩
  · by_cases hj : j = i
    · subst hj
      have : j < σ.length := by
        have := (List.getElem?_eq_some_iff.mp e2).1
        simpa using this
      rw [List.getElem?_set_self this] at e2; cases e2
    · rw [List.getElem?_set_ne (Ne.symm hj)] at e2
      obtain ⟨u', r', q⟩ := hl j y v' e1 e2 e3
      refine ⟨u', r', ?_⟩
      rcases q with ⟨k, z⟩ | ⟨k, c, z, z'⟩
      · refine .inl ⟨k, ?_⟩
        have : y ≠ n := fun z => hj (nodup_ix hN e1 (z ▸ hi))
        simp [this, z]
      · exact .inr ⟨k, c, z, z'.sameBut hs (cne y c z)⟩
  · obtain ⟨w', z⟩ := I.cell y c ec
    exact ⟨w', z.sameBut hs (cne y c ec)⟩
  · obtain ⟨q, n, ne, nf, d⟩ := I.pin p hp
    exact ⟨(hs.2 p.1 ne).trans q, n, ne, nf, d⟩
  · refine (I.hok b ob q).stay (fun c w' hc z => (hs.2 c ?_).trans z) (fun _ z => z) fun _ _ z => z
    rintro rfl
    rcases hc with hc | hc
    · rw [← hc, I.free] at q; cases q
    · rw [I.free] at hc; cases hc
end
end L2

namespace L2
open PySem PySem.Spec PyProof.Rows
theorem matches_K {M : Model} {A : Around} {E : Value → Shared → Prop} {s : Shared} {K : PySem.W.Frag} {e C B : Addr} {b : Bool} {Q : Bool → Shared → Prop} (X : K.In s.heap) {dx : Option Addr} (he : excAt e C dx s.heap) (hty : PySem.W.typeIn K (.ref B) = some (.type "type"))
    (hcl : PySem.W.isClsIn K B = true) (hB : PySem.W.mroIn K B (.type "BaseException") = some true) (hm : PySem.W.mroIn K C (.ref B) = some b) (h : Q b s) : wpAny M A (excMatches (.ref e) (.ref B)) Q E s := by
  obtain ⟨hp, g, d, tk, os⟩ := s
  obtain ⟨o, h1, h2, _⟩ := he
  have lt : PySem.W.Looks M hp (typeOf (.ref B)) (.type "type") := PySem.W.looks_typeIn X hty
  have li : PySem.W.Looks M hp (isType (.ref B)) true := by
    unfold PySem.W.isClsIn PySem.W.clsIn at hcl
    split at hcl
    · rename_i ho
      intro A' Q' E' s' k q
      unfold isType loadHead
      exact wpAny_bind (wpAny_loadPart (k _ _ (X _ _ ho)) (wpAny_pure q))
    · cases hcl
  have lb := PySem.W.looks_mroIn (M := M) X hB
  have lm := PySem.W.looks_mroIn (M := M) X hm
  have le : PySem.W.Looks M hp (typeOf (.ref e)) (.ref C) := h2 ▸ (PySem.W.Looks.ld h1).andThen .now
  have lx : PySem.W.Looks M hp (isExcClass (.ref B)) true := by
    unfold isExcClass
    exact li.andThen lb
  have l0 : PySem.W.Looks M hp (isInstance (.ref B) (.type "tuple")) false := by
    unfold isInstance
    exact lt.andThen (.of_pure tc_notTuple)
  unfold excMatches
  refine wpAny_bind (l0.at ?_)
  dsimp only
  rw [if_neg Bool.false_ne_true]
  refine wpAny_bind (wpAny_pure ?_)
  refine wpAny_bind ?_
  rw [List.forIn_cons]
  refine wpAny_bind (wpAny_bind (lx.at ?_))
  rw [if_neg (by decide)]
  refine wpAny_pure ?_
  dsimp only
  rw [List.forIn_nil]
  refine wpAny_pure ?_
  refine wpAny_bind (le.at ?_)
  refine wpAny_bind ?_
  rw [List.forIn_cons]
  refine wpAny_bind (wpAny_bind (lm.at ?_))
  cases b with
  | true =>
    rw [if_pos rfl]
    exact wpAny_pure (wpAny_pure (wpAny_pure h))
  | false =>
    rw [if_neg Bool.false_ne_true]
    refine wpAny_pure ?_
    dsimp only
    rw [List.forIn_nil]
    exact wpAny_pure (wpAny_pure h)
structure Hd where
  x : Str
  np : Pos
  nm : Option (Str × Nat)
  b0 : Stmt
  suite : List Stmt
  pos : Pos
  B : Addr
  t : TS
noncomputable def Hd.ast (h : Hd) : ExceptHandler := .ExceptHandler (some (.Name h.x h.np)) (h.nm.map (·.1)) (h.b0 :: h.suite) h.pos
noncomputable def Ends.but (D : Ends) (i : Nat) : Ends := { nx := fun σ H => D.nx (σ.set i none) H, bk := fun σ H => D.bk (σ.set i none) H, ct := fun σ H => D.ct (σ.set i none) H, rt := D.rt }
noncomputable def Hd.run (h : Hd) (C : Addr) (dx : Option Addr) (D : Ends) (σ : St) (H : Hp) : Prop := match h.nm with
  | none => h.t D σ H
  | some (_, i) => ∀ a, H a = none → h.t (D.but i) (σ.set i (some (.ref a))) (upd H a (.ext (excAt a C dx)))
noncomputable def pickH (K : PySem.W.Frag) (C : Addr) : List Hd → Option Hd
  | [] => none
  | h :: r => match PySem.W.mroIn K C (.ref h.B) with
    | some true => some h
    | some false => pickH K C r
    | none => none
structure Hd.Ok (X : Cx) (h : Hd) : Prop where
  gl : Gl X h.x
  mg : X.mg h.x = some (.ref h.B)
  ty : PySem.W.typeIn X.K (.ref h.B) = some (.type "type")
  cl : PySem.W.isClsIn X.K h.B = true
  bs : PySem.W.mroIn X.K h.B (.type "BaseException") = some true
  db : (h.x == ("__debug__" : Str)) = false
  nm : ∀ n i, h.nm = some (n, i) → X.N.Nodup ∧ X.N[i]? = some n ∧ Loc X.env.scope n ∧ X.env.kindOf n = some .local ∧ X.env.scope.names.lookup n = some .local
  su : ∀ a, PSs (X.inSuite a) (h.b0 :: h.suite) h.t
section
variable {X : Cx} {pins : List (Addr × Obj)} {σ : St} {H : Hp} {s : Shared} {e T C : Addr} {dx : Option Addr} {D : Ends}
theorem Air.at' (a : Air X pins H s e (.ref C) dx T) : excAt e C dx s.heap := by
  obtain ⟨oe, vs, h1, h2, h3, h4, _⟩ := a.r.obj
  exact ⟨oe, h1, h2, h3, by unfold PySem.W.notCls; rw [h4]⟩
theorem handle_ok (hex : X.ex = []) (hst : X.stack = X.env :: X.outer) (hfr : X.env.frame = some X.env.locals) {h : Hd} (I : Inv X pins σ H s) (a : Air X pins H s e (.ref C) dx T) (q : h.run C dx D σ H) :
    ∀ {hs : List Hd}, (∀ h ∈ hs, h.Ok X) → pickH X.K C hs = some h → wpAny (model X.prog X.w) X.A (handleBy (.ref e) X.env (hs.map Hd.ast)) (SP X pins D) X.xe s
  | [], _, p => nomatch p
  | g :: r, ok, p => by
    have kg := ok g List.mem_cons_self
    show wpAny _ _ (handleBy (.ref e) X.env (.ExceptHandler (some (.Name g.x g.np)) (g.nm.map (·.1)) (g.b0 :: g.suite) g.pos :: r.map Hd.ast)) _ _ s
    have Is : Inv (X.inSuite e) pins σ H s := I.suiteIn
    refine wpAny_handleBy_cons (codeAny_handlers_test (ld_glob (X := X.inSuite e) Is kg.gl kg.mg ?_ kg.db)) (by intro z; cases z)
    unfold pickH at p
    split at p
    · rename_i hm
      cases p
      refine matches_K I.kIn a.at' kg.ty kg.cl kg.bs hm ?_
      show codeAny _ _ _ _ s
      unfold Hd.run at q
      split at q
      · rename_i hn
        rw [hn]
        refine codeAny_handlers_suite ?_
        refine (flight_raised (M := model X.prog X.w) (A := X.A.mark (some (.ref e))) I a hex I.ok.frames hst hfr fun h' T' I' a' => ?_).2
        refine wpAny_mono (kg.su e pins _ σ H D I'.suiteIn q) (fun f s2 z => ?_) fun _ _ z => z.elim
        exact SP.out I.ok z
      · rename_i n i hn
        rw [hn]
        obtain ⟨n1, n2, n3, n4, n5⟩ := kg.nm n i hn
        refine codeAny_handlers_suite_as ?_
        refine (flight_raised (M := model X.prog X.w) (A := X.A.mark (some (.ref e))) I a hex I.ok.frames hst hfr fun h' T' I' a' => ?_).2
        refine store_ok (X := X.inSuite e) (v := .ref e) (i := i) (I'.track a').suiteIn n1 n2 n3 rfl (fun s2 I2 => ?_) (.inr n5)
        refine wpAny_mono (kg.su e pins _ _ _ (D.but i) I2 (q e a.eH)) (fun f s3 z => ?_) fun _ _ z => z.elim
        show wpAny _ X.A _ _ _ s3
        cases f with
        | next =>
          obtain ⟨σ', H', I3, z⟩ := z
          exact goes_ok (I3.suiteOut I.ok) n1 n2 n4 fun s4 I4 => ⟨_, H', I4, z⟩
        | brk =>
          obtain ⟨σ', H', I3, z⟩ := z
          exact goes_ok (I3.suiteOut I.ok) n1 n2 n4 fun s4 I4 => ⟨_, H', I4, z⟩
        | cont =>
          obtain ⟨σ', H', I3, z⟩ := z
          exact goes_ok (I3.suiteOut I.ok) n1 n2 n4 fun s4 I4 => ⟨_, H', I4, z⟩
        | ret u =>
          obtain ⟨v, σ', H', I3, z⟩ := z
          exact goes_ok (I3.suiteOut I.ok) n1 n2 n4 fun s4 I4 => ⟨v, _, H', I4, z⟩
    · rename_i hm
      refine matches_K I.kIn a.at' kg.ty kg.cl kg.bs hm ?_
      exact handle_ok hex hst hfr I a q (fun h hh => ok h (List.mem_cons_of_mem _ hh)) p
    · cases p
noncomputable def tTry (K : PySem.W.Frag) (tb : EXT → TS) (hs : List Hd) : TS := fun D σ H => tb (fun cls dx σ' H' => ∃ C h, cls = .ref C ∧ pickH K C hs = some h ∧ h.run C dx D σ' H') D σ H
theorem ps_try {body : List Stmt} {tb : EXT → TS} {h0 : Hd} {hs : List Hd} {pos : Pos} (hb : ∀ pn xe EX, ThrowsT (X.inTry pn xe) EX → PSs (X.inTry pn xe) body (tb EX)) (ok : ∀ h ∈ h0 :: hs, h.Ok X) (hex : X.ex = [])
    (hst : X.stack = X.env :: X.outer) (hfr : X.env.frame = some X.env.locals) : PS X (.Try body ((h0 :: hs).map Hd.ast) [] [] pos) (tTry X.K tb (h0 :: hs)) := by
  intro pins s σ H D I h
  refine wpAny_Try_except (h₀ := h0.ast) (hs := hs.map Hd.ast) ?_
  refine wpAny_mono (hb (X.pn ++ pins) _ _ ?_ [] s σ H D I.tryIn h) (fun f s1 z => ?_) fun _ _ z => z
  · intro pins' σ' H' s' e cls dx T I' r e0 eH t0 tH pe le ce ⟨C, g, ec, hp, q⟩
    subst ec
    have I2 : Inv X pins σ' H' s' := I'.tryOut I.ok
    have a : Air X pins H' s' e (.ref C) dx T := ⟨r, e0, eH, t0, tH, fun p hp => pe p (List.mem_append_left _ hp), le, ce⟩
    exact (flight_raised (M := model X.prog X.w) (A := X.A) I2 a hex I.ok.frames hst hfr fun h' T' I3 a3 => handle_ok hex hst hfr I3 a3 q ok hp).1
  · have z' := SP.outT I.ok z
    cases f with
    | next => exact PySem.wpAny_execs_nil z'
    | brk => exact z'
    | cont => exact z'
    | ret u => exact z'
end
end L2

/-! isinstance of an exception -/
namespace L2
open PySem PySem.Spec PySem.Calls PyProof.Rows Builtin.ObjectAttr Builtin.Getset_descriptor
structure ExcKit (K : PySem.W.Frag) (C : Addr) : Prop where
  cl : PySem.W.isClsIn K C = true
  ga : PySem.W.findIn K (.ref C) "__getattribute__" = some (some (.builtin "BaseException.__getattribute__"))
  gt : PySem.W.findIn K (.ref C) "__getattr__" = some none
  ca : PySem.W.findIn K (.ref C) "__class__" = some (some (.builtin "object.__class__"))
  gs : PySem.W.specialIn K (.builtin "object.__class__") "__get__" = some (some (.builtin "getset_descriptor.__get__"))
  tk : PySem.W.takesIn K (.builtin "object.__class__") = some true
  ob : PySem.W.mroIn K C (.type "object") = some true
  be : PySem.W.mroIn K C (.type "BaseException") = some true
section
variable {prog : Program} {w : World} {A : Around} {E : Value → Shared → Prop} {s : Shared} {K : PySem.W.Frag} {x C : Addr} {dx : Option Addr}
theorem exc_type {M : Model} {h : Heap} (p : excAt x C dx h) : PySem.W.Looks M h (typeOf (.ref x)) (.ref C) := by
  obtain ⟨o, h1, h2, _⟩ := p
  exact h2 ▸ (PySem.W.Looks.ld h1).andThen .now
theorem exc_find {M : Model} {h : Heap} (X : K.In h) (k : ExcKit K C) : PySem.W.Looks M h (find (.ref x) (.ref C) "__class__") (.bind (.builtin "getset_descriptor.__get__") (.builtin "object.__class__")) := by
  have l1 := PySem.W.looks_findIn (M := M) X k.ca
  have l2 : PySem.W.Looks M h (getOf (some (.builtin "object.__class__"))) (some (.builtin "getset_descriptor.__get__")) := PySem.W.looks_specialIn X k.gs
  have l3 := PySem.W.looks_takesIn (M := M) X k.tk
  have l4 : PySem.W.Looks M h (dataDescriptor? (some (.builtin "object.__class__")) (some (.builtin "getset_descriptor.__get__"))) (some (.builtin "getset_descriptor.__get__", .builtin "object.__class__")) := l3.andThen .now
  exact l1.andThen (l2.andThen (l4.andThen (PySem.W.Looks.tag .now)))
theorem exc_get {R : Result → Shared → Prop} {tp : Value} (X : K.In s.heap) (p : excAt x C dx s.heap) (k : ExcKit K C) (h : R (.ok (.ret (.ref C))) s) :
    codeAny (model prog w) A (.call (.builtin "getset_descriptor.__get__") ⟨[.builtin "object.__class__", .ref x, tp], []⟩) R s := by
  obtain ⟨hh, g, dr, t, os⟩ := s
  have l0 := exc_type (M := model prog w) p
  have l1 := PySem.W.looks_mroIn (M := model prog w) X k.ob
  refine codeAny_call_builtin PySem.W.KF.slot_gs.plain
    PySem.W.KF.entry_gs (PySem.W.KF.slot_gs.check _ _ _ _ _ _ _ _
      PySem.W.KF.type_class (PySem.W.KF.args_gs _ _ _) ?_)
  unfold Builtin.«getset_descriptor.__get__» descrGet
  rw [PySem.W.dga_obj]
  refine wpAny_bind (wpAny_pure ?_)
  unfold descrGetter descrCheckInstance descrNameAndClass isInstance
  simp only [PySem.W.KF.owner_class]
  repeat lk
  refine ⟨Code.quiet_builtin _ (by decide +kernel),
    codeAny_builtin PySem.W.KF.entry_class ?_⟩
  unfold Builtin.«object.__class__» shownTypeOf
  repeat lk
  exact h
theorem exc_entry {tk : Tok} {Q : Fin → Shared → Prop} (X : K.In s.heap) (p : excAt x C dx s.heap) (k : ExcKit K C) (h : Q (.done (.ret (.ref C))) s) :
    wpAny (model prog w) A (Builtin.«object.__getattribute__» ⟨[.ref x, .str "__class__" tk], []⟩) Q E s := by
  obtain ⟨hh, g, dr, t, os⟩ := s
  have l0 := exc_type (M := model prog w) p
  have l1 := exc_find (M := model prog w) (x := x) X k
  refine wpAny_bind (wpAny_pure (wpAny_bind (wpAny_pure (wpAny_bind (l0.at (wpAny_bind (l1.at ?_)))))))
  show wpAny _ _ (holding [.builtin "object.__class__"] (call (.builtin "getset_descriptor.__get__") [.builtin "object.__class__", .ref x, .ref C]) >>= ret) _ _ _
  exact wpAny_bind (wpAny_holding (wpAny_call (exc_get (s := ⟨hh, g, dr, t, os⟩) X p k (wpAny_pure h))))
theorem exc_check {M : Model} {nv : Value} {Q : Unit → Shared → Prop} (X : K.In s.heap) (p : excAt x C dx s.heap) (k : ExcKit K C) (h : Q () s) : wpAny M A (checkBuiltinCall "BaseException.__getattribute__" ⟨[.ref x, nv], []⟩) Q E s := by
  obtain ⟨hh, g, dr, t, os⟩ := s
  have l0 := exc_type (M := M) p
  have l1 := PySem.W.looks_mroIn (M := M) X k.be
  have li : PySem.W.Looks M hh (isInstance (.ref x) (.type "BaseException")) true := l0.andThen l1
  have e1 : builtinKind "BaseException.__getattribute__" = some .slot := by decide +kernel
  have e2 : splitId "BaseException.__getattribute__" = some ("BaseException", "__getattribute__") := by decide +kernel
  have e3 := PySem.F.args_bexc_ga (.ref x) nv
  simp only [checkBuiltinCall, e1, e2]
  refine wpAny_bind (li.at ?_)
  rw [if_neg (by decide)]
  unfold argsOk at e3
  split
  · rename_i sig hs
    rw [hs] at e3
    have e4 : Bind.checkArgs "BaseException.__getattribute__" sig { pos := [Value.ref x, nv] } = pure () := e3
    rw [e4]
    exact wpAny_pure h
  · exact wpAny_pure h
theorem exc_class {Q : Option Value → Shared → Prop} (X : K.In s.heap) (p : excAt x C dx s.heap) (k : ExcKit K C) (h : Q (some (.ref C)) { s with toks := s.toks + 1 }) : wpAny (model prog w) A (getAttr? (.ref x) "__class__") Q E s := by
  obtain ⟨hh, g, d, t, os⟩ := s
  have l0 := exc_type (M := model prog w) p
  have l1 := PySem.W.looks_findIn (M := model prog w) X k.ga
  have l2 := PySem.W.looks_findIn (M := model prog w) X k.gt
  unfold getAttr? getAttrBy? getAttrBy
  refine wpAny_bind (wpAny_mkText (wpAny_bind (wpAny_attempt (wpAny_holding (wpAny_bind (l0.at (wpAny_bind (l1.at ?_))))))))
  dsimp only
  have hb : (Value.builtin "BaseException.__getattribute__" == Value.builtin "object.__getattribute__") = false := by decide +kernel
  rw [if_neg (by rw [hb, Bool.and_false]; exact Bool.false_ne_true)]
  unfold getAttrByItsOwn hookBefore
  refine wpAny_bind ?_
  rw [if_pos (show onTheHeap (Value.ref C) = true from rfl)]
  refine l2.at ?_
  refine wpAny_bind (wpAny_attempt (wpAny_holding ?_))
  unfold callGetattribute
  rw [if_neg (by decide)]
  unfold boundAndCalled
  rw [PySem.F.excAttr_ValueError.ga.bind (.ref x)]
  refine wpAny_bind (wpAny_pure ?_)
  refine wpAny_call (codeAny_call_builtin PySem.F.excAttr_ValueError.ga.plain PySem.F.entry_bexc_ga (exc_check X p k (exc_entry (s := ⟨hh, g, d, t + 1, os⟩) X p k ?_)))
  show wpAny (model prog w) A (handedOut (.ref C)) _ _ _
  exact wpAny_pure (wpAny_pure h)
theorem kitx_exc (k : ExcKit K C) : PySem.W.KitX K (.ref x) (.ref C) (excAt x C dx) where
  ty := fun M h _ p => exc_type p
  it := fun _ _ X _ => by
    have hc := k.cl
    unfold PySem.W.isClsIn PySem.W.clsIn at hc
    split at hc
    · rename_i ho
      intro A' Q' E' s' kk q
      unfold isType loadHead
      exact wpAny_bind (wpAny_loadPart (kk _ _ (X _ _ ho)) (wpAny_pure q))
    · cases hc
  ne := fun h tp dd its n sl X htp => by
    have hc := k.cl
    refine Bool.eq_false_iff.mpr fun q => ?_
    have e : C = tp := Value.ref.inj (beq_iff_eq.mp q)
    subst e
    unfold PySem.W.isClsIn PySem.W.clsIn at hc
    split at hc
    · rename_i ho
      have z := (X _ _ ho).symm.trans htp
      cases z
    · cases hc
  ca := fun X p kk => exc_class X p k kk
end
section
variable {X : Cx}
noncomputable def rIsX (K : PySem.W.Frag) (c : V) (cv : Value) : List V → Hp → VK → Prop := fun xs H Q => ∃ a C dx b, xs = [.ref a, c] ∧ H a = some (.ext (excAt a C dx)) ∧ ExcKit K C ∧ PySem.W.kitOne K (.ref C) cv = some b ∧ Q (.bl b) H
theorem call_isX {c : V} {cv : Value} (hc : ∀ u, RelV c u → u = cv) : CallR X (.builtin "isinstance") (rIsX X.K c cv) := by
  intro pins s σ H xs us Q I r h
  obtain ⟨a, C, dx, b, rfl, ha, k, e, q⟩ := h
  obtain ⟨u, w', rfl, r1, r2⟩ := vals2 r
  cases r1
  cases hc _ r2
  have p : excAt a C dx s.heap := (I.hok a _ ha).1
  exact PySem.W.kia_one (kitx_exc k) I.kIn p e (fun z => nomatch z) fun tk => ⟨.bl b, H, I.tok _, rfl, q⟩
noncomputable def rIsXT (K : PySem.W.Frag) (Bs : List Addr) : List V → Hp → VK → Prop := fun xs H Q => ∃ a C dx p b, xs = [.ref a, .ref p] ∧ H a = some (.ext (excAt a C dx)) ∧ ExcKit K C ∧ H p = some (.tup (Bs.map V.ref)) ∧ PySem.W.kitAny K (.ref C) (Bs.map Value.ref) = some b ∧ Q (.bl b) H
theorem refs_of : ∀ {Bs : List Addr} {us : List Value}, Vals (Bs.map V.ref) us → us = Bs.map Value.ref
  | [], _, r => by rw [List.map_nil] at r; cases r; rfl
  | B :: Bs, _, r => by
    rw [List.map_cons] at r
    cases r with
    | cons h t => rw [show _ = Value.ref B from h, refs_of t]; rfl
theorem call_isXT {Bs : List Addr} : CallR X (.builtin "isinstance") (rIsXT X.K Bs) := by
  intro pins s σ H xs us Q I r h
  obtain ⟨a, C, dx, p, b, rfl, ha, k, hp, e, q⟩ := h
  obtain ⟨u, w', rfl, r1, r2⟩ := vals2 r
  cases r1
  cases r2
  have pa : excAt a C dx s.heap := (I.hok a _ ha).1
  obtain ⟨_, its, rv, ⟨o, h1, h2, n, h3⟩⟩ := (show ObjOk X.prog X.w H s.heap p (.tup (Bs.map V.ref)) from I.hok p _ hp)
  have ei := refs_of rv
  subst ei
  obtain ⟨oc, od, oda, osl⟩ := o
  dsimp only at h2 h3
  subst h2 h3
  exact PySem.W.kia_tup (kitx_exc k) I.kIn pa h1 e (fun z => nomatch z) fun tk => ⟨.bl b, H, I.tok _, rfl, q⟩
end
end L2

/-! a comprehension whose block may raise -/
namespace L2
open PySem PySem.Spec PyProof.Rows
section
variable {X : Cx} {pins : List (Addr × Obj)} {σ : St} {H : Hp} {s s' : Shared}
end
noncomputable abbrev Cx.blockX (X : Cx) (N' : List Str) (scope : Scope) (C : Addr) (s₀ : Shared) (H₀ : Hp) (ex : List Addr) (xe : Value → Shared → Prop) : Cx :=
  { X with N := N', env := compEnvC scope (clOf X.env.cells scope.names []) C X.env, s₀ := s₀, H₀ := H₀, outer := X.stack, stack := X.stack, ex := ex, fn := fun _ => false, pn := [], xe := xe }
section
variable {X : Cx} {N' : List Str} {scope : Scope} {src : List BSrc} {pins : List (Addr × Obj)} {σ : St} {H : Hp} {s : Shared} {C acc : Addr} {fp : List Addr}

noncomputable def tCompX (src : List BSrc) (wi : TI) (g : TG) (tt : TT) (te : EXT → TE) (EX : EXT) : TE := fun σ H Q => wi σ H fun J H1 => ∀ acc, H1 acc = none →
  ∃ W : Nat → Nat → St → Hp → Prop, (∃ m, W 0 m (bSt src σ acc) (upd H1 acc (.lst []))) ∧ ∀ i m σ' H, W i m σ' H → (J.stop i H ∧ Q (.ref acc) H) ∨
    (J.go i H ∧ ∀ x H', J.yld i H x H' → g x σ' H' fun σ2 H2 => tt σ2 H2 fun b H3 => if b = true then te (fun cls od _ H' => EX cls od σ H') σ2 H3 fun y H4 => rAppend (.ref acc) [y] H4 fun _ H5 => ∃ m', m' < m ∧ W (i + 1) m' σ2 H5 else ∃ m', m' < m ∧ W (i + 1) m' σ2 H3)
end
end L2

/-! VALUES WITHOUT A HEAP. A datum D is a tree; F is the part of the abstract heap that is never changed again; what a slot owns may still be changed. -/
namespace DL
open PySem L2
variable {K : PySem.W.Frag}

inductive D where
  | non | bl (b : Bool) | int (i : Int) | str (x : Str)
  | tup (xs : List D) | lst (xs : List D)
  | dK (ks : List Key) (vs : List D) | dT (ks : List (List Key)) (vs : List D)
  | exc (c : Str) (ks : List Str) (vs : List D)
noncomputable def ClsIs (K : PySem.W.Frag) (c : Str) (C : Addr) : Prop := PySem.W.nsIn K mainGlobals c = some (some (.ref C))

mutual
inductive Rep (K : PySem.W.Frag) (F : Hp) : D → V → Prop where
  | non : Rep K F .non .non
  | bl (b : Bool) : Rep K F (.bl b) (.bl b)
  | int (i : Int) : Rep K F (.int i) (.int i)
  | str (x : Str) : Rep K F (.str x) (.str x)
  | tup {a : Addr} {xs : List D} {vs : List V} (h : F a = some (.tup vs)) (r : Reps K F xs vs) : Rep K F (.tup xs) (.ref a)
  | lst {a : Addr} {xs : List D} {vs : List V} (h : SqL K F a vs) (r : Reps K F xs vs) : Rep K F (.lst xs) (.ref a)
  | dK {a : Addr} {ks : List Key} {ds : List D} {kvs : List (Key × V)} (h : F a = some (.dK kvs)) (e : kvs.map (·.1) = ks) (r : Reps K F ds (kvs.map (·.2))) : Rep K F (.dK ks ds) (.ref a)
  | dT {a : Addr} {ks : List (List Key)} {ds : List D} {kvs : List (List Key × V)} (h : F a = some (.dT kvs)) (e : kvs.map (·.1) = ks) (r : Reps K F ds (kvs.map (·.2))) : Rep K F (.dT ks ds) (.ref a)
  | exc {a C : Addr} {c : Str} (cl : ClsIs K c C) (h : F a = some (.ext (excAt a C none))) : Rep K F (.exc c [] []) (.ref a)
  | exd {a C dx : Addr} {c : Str} {ks : List Str} {ds : List D} {fs : List (Str × V)} (cl : ClsIs K c C) (h : F a = some (.ext (excAt a C (some dx)))) (hx : F dx = some (.xd fs)) (e : fs.map (·.1) = ks) (r : Reps K F ds (fs.map (·.2))) : Rep K F (.exc c ks ds) (.ref a)
inductive Reps (K : PySem.W.Frag) (F : Hp) : List D → List V → Prop where
  | nil : Reps K F [] []
  | cons {d : D} {v : V} {ds : List D} {vs : List V} (h : Rep K F d v) (t : Reps K F ds vs) : Reps K F (d :: ds) (v :: vs)
end

theorem rdMono {F F' : Hp} (s : Same F F') {a : Addr} {u : HO} (h : Rd F a u) : Rd F' a u := by
  rcases h with h | ⟨o, h⟩
  · exact .inl (s _ _ h)
  · exact .inr ⟨o, s _ _ h⟩
theorem sqL_mono {F F' : Hp} (s : Same F F') {a : Addr} {xs : List V} (h : SqL K F a xs) : SqL K F' a xs := by
  rcases h with h | h
  · exact .inl (rdMono s h)
  · exact .inr h
theorem sqT_mono {F F' : Hp} (s : Same F F') {a : Addr} {xs : List V} (h : SqT K F a xs) : SqT K F' a xs := by
  rcases h with h | h
  · exact .inl (rdMono s h)
  · exact .inr h
theorem tupSq {F : Hp} {a : Addr} {vs : List V} (h : F a = some (.tup vs)) : SqT K F a vs := .inl (.inl h)
mutual
theorem Rep.mono {F F' : Hp} (s : Same F F') : ∀ {d : D} {v : V}, Rep K F d v → Rep K F' d v
  | _, _, .non => .non
  | _, _, .bl b => .bl b
  | _, _, .int i => .int i
  | _, _, .str x => .str x
  | _, _, .tup h r => .tup (s _ _ h) (Reps.mono s r)
  | _, _, .lst h r => .lst (sqL_mono s h) (Reps.mono s r)
  | _, _, .dK h e r => .dK (s _ _ h) e (Reps.mono s r)
  | _, _, .dT h e r => .dT (s _ _ h) e (Reps.mono s r)
  | _, _, .exc cl h => .exc cl (s _ _ h)
  | _, _, .exd cl h hx e r => .exd cl (s _ _ h) (s _ _ hx) e (Reps.mono s r)
theorem Reps.mono {F F' : Hp} (s : Same F F') : ∀ {ds : List D} {vs : List V}, Reps K F ds vs → Reps K F' ds vs
  | _, _, .nil => .nil
  | _, _, .cons h t => .cons (Rep.mono s h) (Reps.mono s t)
end
theorem Reps.length {F : Hp} : ∀ {ds : List D} {vs : List V}, Reps K F ds vs → ds.length = vs.length
  | _, _, .nil => rfl
  | _, _, .cons _ t => by rw [List.length_cons, List.length_cons, Reps.length t]
theorem Reps.append {F : Hp} : ∀ {ds es : List D} {vs us : List V}, Reps K F ds vs → Reps K F es us → Reps K F (ds ++ es) (vs ++ us)
  | _, _, _, _, .nil, q => q
  | _, _, _, _, .cons h t, q => .cons h (t.append q)
theorem Reps.snoc {F : Hp} {ds : List D} {vs : List V} {d : D} {v : V} (r : Reps K F ds vs) (h : Rep K F d v) : Reps K F (ds ++ [d]) (vs ++ [v]) := r.append (.cons h .nil)
theorem Reps.get {F : Hp} : ∀ {ds : List D} {vs : List V} {i : Nat} {d : D}, Reps K F ds vs → ds[i]? = some d → ∃ v, vs[i]? = some v ∧ Rep K F d v
  | _, _, _, _, .nil, e => by simp at e
  | _, _, 0, _, .cons h t, e => by simp at e; subst e; exact ⟨_, rfl, h⟩
  | _, _, i + 1, d, .cons h t, e => by
    obtain ⟨v, h1, h2⟩ := Reps.get (i := i) (d := d) t (by simpa using e)
    exact ⟨v, by simpa using h1, h2⟩
theorem Reps.take {F : Hp} : ∀ {ds : List D} {vs : List V} (n : Nat), Reps K F ds vs → Reps K F (ds.take n) (vs.take n)
  | _, _, 0, _ => .nil
  | _, _, _ + 1, .nil => .nil
  | _, _, n + 1, .cons h t => .cons h (t.take n)
theorem Reps.drop {F : Hp} : ∀ {ds : List D} {vs : List V} (n : Nat), Reps K F ds vs → Reps K F (ds.drop n) (vs.drop n)
  | _, _, 0, r => r
  | _, _, _ + 1, .nil => .nil
  | _, _, n + 1, .cons h t => t.drop n

inductive SV where
  | fz (d : D) | ol (xs : List D) | oK (ks : List Key) (vs : List D) | oT (ks : List (List Key)) (vs : List D) | oN (ks : List Key) (xss : List (List D))
@[simp] noncomputable def SV.toD : SV → D
  | .fz d => d
  | .ol xs => .lst xs
  | .oK ks vs => .dK ks vs
  | .oT ks vs => .dT ks vs
  | .oN ks xss => .dK ks (xss.map D.lst)
noncomputable abbrev Nodes := List (Addr × HO)
inductive Kids (K : PySem.W.Frag) (F : Hp) : List (List D) → List V → Nodes → Prop where
  | nil : Kids K F [] [] []
  | cons {xs : List D} {xss : List (List D)} {b : Addr} {vs : List V} {ws : List V} {ns : Nodes} (r : Reps K F xs vs) (t : Kids K F xss ws ns) : Kids K F (xs :: xss) (.ref b :: ws) ((b, .lst vs) :: ns)
inductive Shape (K : PySem.W.Frag) (F : Hp) : SV → V → Nodes → Prop where
  | fz {d : D} {v : V} (h : Rep K F d v) : Shape K F (.fz d) v []
  | ol {a : Addr} {xs : List D} {vs : List V} (r : Reps K F xs vs) : Shape K F (.ol xs) (.ref a) [(a, .lst vs)]
  | oK {a : Addr} {ks : List Key} {ds : List D} {kvs : List (Key × V)} (e : kvs.map (·.1) = ks) (r : Reps K F ds (kvs.map (·.2))) : Shape K F (.oK ks ds) (.ref a) [(a, .dK kvs)]
  | oT {a : Addr} {ks : List (List Key)} {ds : List D} {kvs : List (List Key × V)} (e : kvs.map (·.1) = ks) (r : Reps K F ds (kvs.map (·.2))) : Shape K F (.oT ks ds) (.ref a) [(a, .dT kvs)]
  | oN {a : Addr} {ks : List Key} {xss : List (List D)} {kvs : List (Key × V)} {ns : Nodes} (e : kvs.map (·.1) = ks) (r : Kids K F xss (kvs.map (·.2)) ns) : Shape K F (.oN ks xss) (.ref a) ((a, .dK kvs) :: ns)
theorem Kids.mono {F F' : Hp} (s : Same F F') : ∀ {xss : List (List D)} {ws : List V} {ns : Nodes}, Kids K F xss ws ns → Kids K F' xss ws ns
  | _, _, _, .nil => .nil
  | _, _, _, .cons r t => .cons (r.mono s) (t.mono s)
theorem Shape.mono {F F' : Hp} (s : Same F F') {sv : SV} {v : V} {ns : Nodes} (h : Shape K F sv v ns) : Shape K F' sv v ns := by
  cases h with
  | fz h => exact .fz (h.mono s)
  | ol r => exact .ol (r.mono s)
  | oK e r => exact .oK e (r.mono s)
  | oT e r => exact .oT e (r.mono s)
  | oN e r => exact .oN e (r.mono s)

noncomputable def addL (F : Hp) : Nodes → Hp
  | [] => F
  | p :: r => upd (addL F r) p.1 p.2
noncomputable abbrev adr (ns : Nodes) : List Addr := ns.map (·.1)
theorem addL_old {F : Hp} {b : Addr} : ∀ {ns : Nodes}, b ∉ adr ns → addL F ns b = F b
  | [], _ => rfl
  | p :: r, h => by
    have h1 : b ≠ p.1 := fun e => h (by rw [e]; exact List.mem_cons_self)
    have h2 : b ∉ adr r := fun e => h (List.mem_cons_of_mem _ e)
    show upd (addL F r) p.1 p.2 b = F b
    rw [upd_ne h1, addL_old h2]
theorem addL_new {F : Hp} {p : Addr × HO} : ∀ {ns : Nodes}, (adr ns).Nodup → p ∈ ns → addL F ns p.1 = some p.2
  | [], _, h => nomatch h
  | q :: r, nd, h => by
    obtain ⟨n1, n2⟩ := List.nodup_cons.mp nd
    show upd (addL F r) q.1 q.2 p.1 = some p.2
    rcases List.mem_cons.mp h with e | e
    · subst e; exact upd_same
    · rw [upd_ne fun z => n1 (List.mem_map.mpr ⟨p, e, z⟩)]
      exact addL_new n2 e
theorem addL_same {F : Hp} {ns : Nodes} (h : ∀ p ∈ ns, F p.1 = none) : Same F (addL F ns) := fun b o e => by
  by_cases hb : b ∈ adr ns
  · obtain ⟨p, hp, ep⟩ := List.mem_map.mp hb
    subst ep
    rw [h p hp] at e; cases e
  · rw [addL_old hb]; exact e
theorem addL_le {F H : Hp} {ns : Nodes} (nd : (adr ns).Nodup) (le : Same F H) (h : ∀ p ∈ ns, H p.1 = some p.2) : Same (addL F ns) H := fun b o e => by
  by_cases hb : b ∈ adr ns
  · obtain ⟨p, hp, ep⟩ := List.mem_map.mp hb
    subst ep
    rw [addL_new nd hp] at e
    cases e
    exact h p hp
  · rw [addL_old hb] at e; exact le b o e
theorem addL_fro {Z : Hp × Hp} {F : Hp} {ns : Nodes} (nd : (adr ns).Nodup) (fro : ∀ (b : Addr) (o : HO), F b = some o → Z.2 b = some o ∨ Z.1 b = none) (hz : ∀ p ∈ ns, Z.1 p.1 = none) : ∀ (b : Addr) (o : HO), addL F ns b = some o → Z.2 b = some o ∨ Z.1 b = none := fun b o e => by
  by_cases hb : b ∈ adr ns
  · obtain ⟨p, hp, ep⟩ := List.mem_map.mp hb
    subst ep
    exact .inr (hz p hp)
  · rw [addL_old hb] at e; exact fro b o e
theorem Kids.rep {F F' : Hp} (s : Same F F') : ∀ {xss : List (List D)} {ws : List V} {ns : Nodes}, Kids K F xss ws ns → (∀ p ∈ ns, F' p.1 = some p.2) → Reps K F' (xss.map D.lst) ws
  | _, _, _, .nil, _ => .nil
  | _, _, _, .cons r t, h => .cons (.lst (.inl (.inl (h _ List.mem_cons_self))) (r.mono s)) (t.rep s fun p hp => h p (List.mem_cons_of_mem _ hp))
theorem Shape.rep {F : Hp} {sv : SV} {v : V} {ns : Nodes} (h : Shape K F sv v ns) (nd : (adr ns).Nodup) (hn : ∀ p ∈ ns, F p.1 = none) : Rep K (addL F ns) sv.toD v := by
  have s := addL_same hn
  have a : ∀ p ∈ ns, addL F ns p.1 = some p.2 := fun p hp => addL_new nd hp
  cases h with
  | fz h => exact h
  | ol r => exact .lst (.inl (.inl (a (_, _) List.mem_cons_self))) (r.mono s)
  | oK e r => exact .dK (a (_, _) List.mem_cons_self) e (r.mono s)
  | oT e r => exact .dT (a (_, _) List.mem_cons_self) e (r.mono s)
  | oN e r => exact .dK (a (_, _) List.mem_cons_self) e (r.rep s fun p hp => a p (List.mem_cons_of_mem _ hp))

noncomputable abbrev DSt := List (Option SV)
structure Ent (K : PySem.W.Frag) where
  h : Hp
  f : Hp
  x : EXT
noncomputable abbrev ent (H F : Hp) : Ent K := ⟨H, F, fun _ _ _ _ => False⟩
structure Exn where
  c : Str
  ks : List Str := []
  vs : List D := []
noncomputable def ExcRep (K : PySem.W.Frag) (F : Hp) (e : Exn) (cls : Value) (od : Option Addr) : Prop := ∃ C, ClsIs K e.c C ∧ cls = .ref C ∧ match od with
  | none => e.ks = [] ∧ e.vs = []
  | some dx => ∃ fs : List (Str × V), F dx = some (.xd fs) ∧ fs.map (·.1) = e.ks ∧ Reps K F e.vs (fs.map (·.2))
structure SR (Z : Ent K) (F H : Hp) (σ : St) (δ : DSt) (own : Nat → Nodes) : Prop where
  le : Same F H
  fro : ∀ (b : Addr) (o : HO), F b = some o → Z.f b = some o ∨ Z.h b = none
  old : Same Z.h H
  len : σ.length = δ.length
  at' : ∀ (i : Nat) (sv : SV), δ[i]? = some (some sv) → ∃ v, σ[i]? = some (some v) ∧ Shape K F sv v (own i)
  nod : ∀ i : Nat, (adr (own i)).Nodup
  ok : ∀ (i : Nat) (p : Addr × HO), p ∈ own i → F p.1 = none ∧ Z.h p.1 = none ∧ H p.1 = some p.2
  sep : ∀ (i j : Nat) (p q : Addr × HO), i ≠ j → p ∈ own i → q ∈ own j → p.1 ≠ q.1
inductive RV where
  | tmp (sv : SV) | bw (i : Nat)
structure TmpOk (Z : Ent K) (F H : Hp) (own : Nat → Nodes) (sv : SV) (v : V) (ns : Nodes) : Prop where
  sh : Shape K F sv v ns
  nd : (adr ns).Nodup
  ok : ∀ p ∈ ns, F p.1 = none ∧ Z.h p.1 = none ∧ H p.1 = some p.2
  sep : ∀ (i : Nat) (p q : Addr × HO), p ∈ ns → q ∈ own i → p.1 ≠ q.1
noncomputable def RVRep (Z : Ent K) (F H : Hp) (σ : St) (own : Nat → Nodes) : RV → V → Prop
  | .tmp sv, v => ∃ ns, TmpOk Z F H own sv v ns
  | .bw i, v => σ[i]? = some (some v)

theorem TmpOk.fz {Z : Ent K} {F H : Hp} {own : Nat → Nodes} {d : D} {v : V} (h : Rep K F d v) : TmpOk Z F H own (.fz d) v [] :=
  ⟨.fz h, List.nodup_nil, fun _ h => (nomatch h), fun _ _ _ h => (nomatch h)⟩

theorem same_new {H : Hp} {p : Addr} {o : HO} (h : H p = none) : Same H (upd H p o) := fun b u e => by
  rw [upd_ne fun z => by rw [z, h] at e; cases e]; exact e
theorem SR.grow {Z : Ent K} {F H H' : Hp} {σ : St} {δ : DSt} {own : Nat → Nodes} (s : SR Z F H σ δ own) (h : Same H H') : SR Z F H' σ δ own :=
  ⟨s.le.trans h, s.fro, s.old.trans h, s.len, s.at', s.nod, fun i p hp => let ⟨a, b, c⟩ := s.ok i p hp; ⟨a, b, h _ _ c⟩, s.sep⟩
theorem SR.addF {Z : Ent K} {F H : Hp} {σ : St} {δ : DSt} {own : Nat → Nodes} {ns : Nodes} (s : SR Z F H σ δ own) (nd : (adr ns).Nodup) (hn : ∀ p ∈ ns, F p.1 = none) (hH : ∀ p ∈ ns, H p.1 = some p.2) (hz : ∀ p ∈ ns, Z.h p.1 = none)
    (hs : ∀ (i : Nat) (p q : Addr × HO), p ∈ ns → q ∈ own i → p.1 ≠ q.1) : SR Z (addL F ns) H σ δ own := by
  have sm := addL_same hn
  refine ⟨addL_le nd s.le hH, addL_fro (Z := (Z.h, Z.f)) nd s.fro hz, s.old, s.len, fun i sv e => ?_, s.nod, fun i p hp => ?_, s.sep⟩
  · obtain ⟨v, h1, h2⟩ := s.at' i sv e
    exact ⟨v, h1, h2.mono sm⟩
  · obtain ⟨a, b, c⟩ := s.ok i p hp
    refine ⟨?_, b, c⟩
    rw [addL_old fun hb => ?_]
    · exact a
    · obtain ⟨q, hq, e⟩ := List.mem_map.mp hb
      exact hs i q p hq hp e
theorem SR.settle {Z : Ent K} {F H : Hp} {σ : St} {δ : DSt} {own : Nat → Nodes} {sv : SV} {v : V} {ns : Nodes} (s : SR Z F H σ δ own) (t : TmpOk Z F H own sv v ns) :
    ∃ F1, Same F F1 ∧ SR Z F1 H σ δ own ∧ Rep K F1 sv.toD v :=
  ⟨addL F ns, addL_same fun p hp => (t.ok p hp).1, s.addF t.nd (fun p hp => (t.ok p hp).1) (fun p hp => (t.ok p hp).2.2) (fun p hp => (t.ok p hp).2.1) t.sep, t.sh.rep t.nd fun p hp => (t.ok p hp).1⟩

noncomputable def put (own : Nat → Nodes) (i : Nat) (ns : Nodes) : Nat → Nodes := fun j => if j = i then ns else own j
theorem put_same {own : Nat → Nodes} {i : Nat} {ns : Nodes} : put own i ns i = ns := if_pos rfl
theorem put_ne {own : Nat → Nodes} {i j : Nat} {ns : Nodes} (h : j ≠ i) : put own i ns j = own j := if_neg h
theorem SR.freeze {Z : Ent K} {F H : Hp} {σ : St} {δ : DSt} {own : Nat → Nodes} {i : Nat} {sv : SV} (s : SR Z F H σ δ own) (e : δ[i]? = some (some sv)) :
    ∃ F1 v, Same F F1 ∧ σ[i]? = some (some v) ∧ Rep K F1 sv.toD v ∧ SR Z F1 H σ (δ.set i (some (.fz sv.toD))) (put own i []) := by
  obtain ⟨v, h1, h2⟩ := s.at' i sv e
  have hn : ∀ p ∈ own i, F p.1 = none := fun p hp => (s.ok i p hp).1
  have sm := addL_same hn
  have hi : i < δ.length := (List.getElem?_eq_some_iff.mp e).1
  refine ⟨addL F (own i), v, sm, h1, h2.rep (s.nod i) hn, ⟨addL_le (s.nod i) s.le fun p hp => (s.ok i p hp).2.2, addL_fro (Z := (Z.h, Z.f)) (s.nod i) s.fro fun p hp => (s.ok i p hp).2.1, s.old, by rw [List.length_set]; exact s.len, fun j sw ej => ?_, fun j => ?_, fun j p hp => ?_, fun j k p q hjk hp hq => ?_⟩⟩
  · by_cases hj : j = i
    · subst hj
      rw [List.getElem?_set_self hi] at ej
      cases ej
      rw [put_same]
      exact ⟨v, h1, .fz (h2.rep (s.nod j) hn)⟩
    · rw [List.getElem?_set_ne (Ne.symm hj)] at ej
      obtain ⟨w, g1, g2⟩ := s.at' j sw ej
      rw [put_ne hj]
      exact ⟨w, g1, g2.mono sm⟩
  · by_cases hj : j = i
    · subst hj; rw [put_same]; exact List.nodup_nil
    · rw [put_ne hj]; exact s.nod j
  · by_cases hj : j = i
    · subst hj; rw [put_same] at hp; exact nomatch hp
    · rw [put_ne hj] at hp
      obtain ⟨a, b, c⟩ := s.ok j p hp
      refine ⟨?_, b, c⟩
      rw [addL_old fun hb => ?_]
      · exact a
      · obtain ⟨q, hq, z⟩ := List.mem_map.mp hb
        exact s.sep i j q p (Ne.symm hj) hq hp z
  · by_cases hj : j = i
    · subst hj; rw [put_same] at hp; exact nomatch hp
    · by_cases hk : k = i
      · subst hk; rw [put_same] at hq; exact nomatch hq
      · rw [put_ne hj] at hp
        rw [put_ne hk] at hq
        exact s.sep j k p q hjk hp hq
theorem SR.store {Z : Ent K} {F H : Hp} {σ : St} {δ : DSt} {own : Nat → Nodes} {i : Nat} {sv : SV} {v : V} {ns : Nodes} (s : SR Z F H σ δ own) (t : TmpOk Z F H own sv v ns) (hi : i < σ.length) :
    SR Z F H (σ.set i (some v)) (δ.set i (some sv)) (put own i ns) := by
  refine ⟨s.le, s.fro, s.old, by rw [List.length_set, List.length_set]; exact s.len, fun j sw ej => ?_, fun j => ?_, fun j p hp => ?_, fun j k p q hjk hp hq => ?_⟩
  · by_cases hj : j = i
    · subst hj
      have hd : j < δ.length := by
        have := (List.getElem?_eq_some_iff.mp ej).1
        simpa using this
      rw [List.getElem?_set_self hd] at ej
      cases ej
      rw [put_same, List.getElem?_set_self hi]
      exact ⟨v, rfl, t.sh⟩
    · rw [List.getElem?_set_ne (Ne.symm hj)] at ej
      rw [put_ne hj, List.getElem?_set_ne (Ne.symm hj)]
      exact s.at' j sw ej
  · by_cases hj : j = i
    · subst hj; rw [put_same]; exact t.nd
    · rw [put_ne hj]; exact s.nod j
  · by_cases hj : j = i
    · subst hj; rw [put_same] at hp; exact t.ok p hp
    · rw [put_ne hj] at hp; exact s.ok j p hp
  · by_cases hj : j = i
    · subst hj
      rw [put_same] at hp
      rw [put_ne (Ne.symm hjk)] at hq
      exact t.sep k p q hp hq
    · by_cases hk : k = i
      · subst hk
        rw [put_same] at hq
        rw [put_ne hj] at hp
        exact Ne.symm (t.sep j q p hq hp)
      · rw [put_ne hj] at hp
        rw [put_ne hk] at hq
        exact s.sep j k p q hjk hp hq
theorem SR.change {Z : Ent K} {F H : Hp} {σ : St} {δ : DSt} {own : Nat → Nodes} {i : Nat} {sv sv' : SV} {a : Addr} {o o' : HO} {v : V} {ns' : Nodes} (s : SR Z F H σ δ own) (e : δ[i]? = some (some sv)) (hv : σ[i]? = some (some v))
    (ha : (a, o) ∈ own i) (hs : Shape K F sv' v ns') (hns : ∀ p ∈ ns', p = (a, o') ∨ (p ∈ own i ∧ p.1 ≠ a)) (nd : (adr ns').Nodup) : SR Z F (upd H a o') σ (δ.set i (some sv')) (put own i ns') := by
  obtain ⟨fa, ha0, hHa⟩ := s.ok i (a, o) ha
  have hi : i < δ.length := (List.getElem?_eq_some_iff.mp e).1
  refine ⟨fun b u eb => ?_, s.fro, fun b u eb => ?_, by rw [List.length_set]; exact s.len, fun j sw ej => ?_, fun j => ?_, fun j p hp => ?_, fun j k p q hjk hp hq => ?_⟩
  · rw [upd_ne fun z => by rw [z] at eb; rw [fa] at eb; cases eb]; exact s.le b u eb
  · rw [upd_ne fun z => by rw [z] at eb; rw [ha0] at eb; cases eb]; exact s.old b u eb
  · by_cases hj : j = i
    · subst hj
      rw [List.getElem?_set_self hi] at ej
      cases ej
      rw [put_same]
      exact ⟨v, hv, hs⟩
    · rw [List.getElem?_set_ne (Ne.symm hj)] at ej
      rw [put_ne hj]
      exact s.at' j sw ej
  · by_cases hj : j = i
    · subst hj; rw [put_same]; exact nd
    · rw [put_ne hj]; exact s.nod j
  · by_cases hj : j = i
    · subst hj
      rw [put_same] at hp
      rcases hns p hp with z | ⟨z, ne⟩
      · subst z; exact ⟨fa, ha0, upd_same⟩
      · obtain ⟨x, y, w⟩ := s.ok j p z
        exact ⟨x, y, by rw [upd_ne ne]; exact w⟩
    · rw [put_ne hj] at hp
      obtain ⟨x, y, w⟩ := s.ok j p hp
      exact ⟨x, y, by rw [upd_ne (s.sep j i p (a, o) hj hp ha)]; exact w⟩
  · have own' : ∀ r ∈ ns', ∃ r' ∈ own i, r.1 = r'.1 := fun r hr => by
      rcases hns r hr with z | ⟨z, _⟩
      · subst z; exact ⟨(a, o), ha, rfl⟩
      · exact ⟨r, z, rfl⟩
    by_cases hj : j = i
    · subst hj
      rw [put_same] at hp
      rw [put_ne (Ne.symm hjk)] at hq
      obtain ⟨r', hr', er⟩ := own' p hp
      rw [er]
      exact s.sep j k r' q hjk hr' hq
    · by_cases hk : k = i
      · subst hk
        rw [put_same] at hq
        rw [put_ne hj] at hp
        obtain ⟨r', hr', er⟩ := own' q hq
        rw [er]
        exact s.sep j k p r' hjk hp hr'
      · rw [put_ne hj] at hp
        rw [put_ne hk] at hq
        exact s.sep j k p q hjk hp hq
end DL

namespace DL
open PySem L2
variable {K : PySem.W.Frag}

noncomputable abbrev FE := DSt → Option (RV × DSt)
noncomputable abbrev FT := DSt → Option (Bool × DSt)
noncomputable abbrev FA := DSt → Option (List RV × DSt)
noncomputable abbrev FD := DSt → Option (List D × DSt)
@[simp] noncomputable def SV.nested : SV → Bool
  | .oN _ _ => true
  | _ => false
@[simp] noncomputable def rdv : RV → DSt → Option D
  | .tmp sv, _ => some sv.toD
  | .bw i, δ => (δ[i]?.join).bind fun sv => if sv.nested then none else some sv.toD
@[simp] noncomputable def frz : RV → DSt → Option (D × DSt)
  | .tmp sv, δ => some (sv.toD, δ)
  | .bw i, δ => (δ[i]?.join).bind fun sv => some (sv.toD, δ.set i (some (.fz sv.toD)))
theorem join_some {δ : DSt} {i : Nat} {sv : SV} (h : δ[i]?.join = some sv) : δ[i]? = some (some sv) := by
  cases e : δ[i]? with
  | none => rw [e] at h; cases h
  | some o => rw [e] at h; cases o with
    | none => cases h
    | some s => cases h; rfl

noncomputable def liftE (Z : Ent K) (f : FE) : TE := fun σ H Q => ∃ F δ own rv δ', SR Z F H σ δ own ∧ f δ = some (rv, δ') ∧
  ∀ v H' F' own', Same H H' → Same F F' → SR Z F' H' σ δ' own' → RVRep Z F' H' σ own' rv v → Q v H'
noncomputable def liftT (Z : Ent K) (f : FT) : TT := fun σ H Q => ∃ F δ own b δ', SR Z F H σ δ own ∧ f δ = some (b, δ') ∧
  ∀ H' F' own', Same H H' → Same F F' → SR Z F' H' σ δ' own' → Q b H'
noncomputable def RVS (K : PySem.W.Frag) (F : Hp) (σ : St) : RV → V → Prop
  | .tmp sv, v => Rep K F sv.toD v
  | .bw i, v => σ[i]? = some (some v)
inductive RVSs (K : PySem.W.Frag) (F : Hp) (σ : St) : List RV → List V → Prop where
  | nil : RVSs K F σ [] []
  | cons {rv : RV} {v : V} {rvs : List RV} {vs : List V} (h : RVS K F σ rv v) (t : RVSs K F σ rvs vs) : RVSs K F σ (rv :: rvs) (v :: vs)
noncomputable def liftA (Z : Ent K) (f : FA) : TA := fun σ H Q => ∃ F δ own rvs δ', SR Z F H σ δ own ∧ f δ = some (rvs, δ') ∧
  ∀ vs H' F' own', Same H H' → Same F F' → SR Z F' H' σ δ' own' → RVSs K F' σ rvs vs → Q vs H'
noncomputable def liftD (Z : Ent K) (f : FD) : TA := fun σ H Q => ∃ F δ own ds δ', SR Z F H σ δ own ∧ f δ = some (ds, δ') ∧
  ∀ vs H' F' own', Same H H' → Same F F' → SR Z F' H' σ δ' own' → Reps K F' ds vs → Q vs H'

section
variable {Z : Ent K} {F H F' H' : Hp} {σ : St} {δ δ' : DSt} {own : Nat → Nodes} {rv : RV} {v : V} {d : D} {Q : VK}
theorem RVS.mono (s : Same F F') (h : RVS K F σ rv v) : RVS K F' σ rv v := by
  cases rv with
  | tmp sv => exact Rep.mono s h
  | bw i => exact h
theorem SR.settleR (s : SR Z F H σ δ own) (h : RVRep Z F H σ own rv v) : ∃ F1, Same F F1 ∧ SR Z F1 H σ δ own ∧ RVS K F1 σ rv v := by
  cases rv with
  | tmp sv => obtain ⟨ns, t⟩ := h; exact s.settle t
  | bw i => exact ⟨F, Same.refl F, s, h⟩
theorem SR.frzR (s : SR Z F H σ δ own) (h : RVS K F σ rv v) (e : frz rv δ = some (d, δ')) : ∃ F1 own1, Same F F1 ∧ SR Z F1 H σ δ' own1 ∧ Rep K F1 d v := by
  cases rv with
  | tmp sv => cases e; exact ⟨F, own, Same.refl F, s, h⟩
  | bw i =>
    obtain ⟨sv, e1, e2⟩ := Option.bind_eq_some_iff.mp e
    cases e2
    obtain ⟨F1, w, h1, h2, h3, h4⟩ := s.freeze (join_some e1)
    have h' : σ[i]? = some (some v) := h
    rw [h'] at h2; cases h2
    exact ⟨F1, _, h1, h4, h3⟩

noncomputable def RepN (K : PySem.W.Frag) (F H : Hp) (d : D) (v : V) : Prop := ∃ sv ns, sv.toD = d ∧ sv.nested = false ∧ Shape K F sv v ns ∧ ∀ p ∈ ns, H p.1 = some p.2
theorem RepN.of (h : Rep K F d v) : RepN K F H d v := ⟨.fz d, [], rfl, rfl, .fz h, fun _ h => nomatch h⟩
theorem SR.rd (s : SR Z F H σ δ own) (h : RVS K F σ rv v) (e : rdv rv δ = some d) : RepN K F H d v := by
  cases rv with
  | tmp sv => cases e; exact RepN.of h
  | bw i =>
    obtain ⟨sv, e1, e2⟩ := Option.bind_eq_some_iff.mp e
    cases hn : sv.nested with
    | true => rw [hn] at e2; cases e2
    | false =>
      rw [hn] at e2
      cases e2
      obtain ⟨w, h1, h2⟩ := s.at' i sv (join_some e1)
      have h' : σ[i]? = some (some v) := h
      rw [h'] at h1; cases h1
      exact ⟨sv, own i, rfl, hn, h2, fun p hp => (s.ok i p hp).2.2⟩
inductive RepNs (K : PySem.W.Frag) (F H : Hp) : List D → List V → Prop where
  | nil : RepNs K F H [] []
  | cons {d : D} {v : V} {ds : List D} {vs : List V} (h : RepN K F H d v) (t : RepNs K F H ds vs) : RepNs K F H (d :: ds) (v :: vs)
theorem RepN.non (h : RepN K F H .non v) : v = .non := by
  obtain ⟨sv, ns, e, n, sh, hp⟩ := h
  cases sh with
  | fz r => cases e; cases r; rfl
  | ol r => cases e
  | oK e' r => cases e
  | oT e' r => cases e
  | oN e' r => cases n
theorem RepN.bl {b : Bool} (h : RepN K F H (.bl b) v) : v = .bl b := by
  obtain ⟨sv, ns, e, n, sh, hp⟩ := h
  cases sh with
  | fz r => cases e; cases r; rfl
  | ol r => cases e
  | oK e' r => cases e
  | oT e' r => cases e
  | oN e' r => cases n
theorem RepN.int {i : Int} (h : RepN K F H (.int i) v) : v = .int i := by
  obtain ⟨sv, ns, e, n, sh, hp⟩ := h
  cases sh with
  | fz r => cases e; cases r; rfl
  | ol r => cases e
  | oK e' r => cases e
  | oT e' r => cases e
  | oN e' r => cases n
theorem RepN.str {x : Str} (h : RepN K F H (.str x) v) : v = .str x := by
  obtain ⟨sv, ns, e, n, sh, hp⟩ := h
  cases sh with
  | fz r => cases e; cases r; rfl
  | ol r => cases e
  | oK e' r => cases e
  | oT e' r => cases e
  | oN e' r => cases n
theorem RepN.tup {xs : List D} (le : Same F H) (h : RepN K F H (.tup xs) v) : ∃ a vs, v = .ref a ∧ SqT K H a vs ∧ Reps K F xs vs := by
  obtain ⟨sv, ns, e, n, sh, hp⟩ := h
  cases sh with
  | fz r => cases e; cases r with | tup h r => exact ⟨_, _, rfl, sqT_mono le (tupSq h), r⟩
  | ol r => cases e
  | oK e' r => cases e
  | oT e' r => cases e
  | oN e' r => cases n
theorem RepN.lst {xs : List D} (le : Same F H) (h : RepN K F H (.lst xs) v) : ∃ a vs, v = .ref a ∧ SqL K H a vs ∧ Reps K F xs vs := by
  obtain ⟨sv, ns, e, n, sh, hp⟩ := h
  cases sh with
  | fz r => cases e; cases r with | lst h r => exact ⟨_, _, rfl, sqL_mono le h, r⟩
  | ol r => cases e; exact ⟨_, _, rfl, .inl (.inl (hp _ List.mem_cons_self)), r⟩
  | oK e' r => cases e
  | oT e' r => cases e
  | oN e' r => cases n
theorem RepN.dK {ks : List Key} {ds : List D} (le : Same F H) (h : RepN K F H (.dK ks ds) v) : ∃ a kvs, v = .ref a ∧ H a = some (.dK kvs) ∧ kvs.map (·.1) = ks ∧ Reps K F ds (kvs.map (·.2)) := by
  obtain ⟨sv, ns, e, n, sh, hp⟩ := h
  cases sh with
  | fz r => cases e; cases r with | dK h e r => exact ⟨_, _, rfl, le _ _ h, e, r⟩
  | ol r => cases e
  | oK e' r => cases e; exact ⟨_, _, rfl, hp _ List.mem_cons_self, e', r⟩
  | oT e' r => cases e
  | oN e' r => cases n
theorem RepN.dT {ks : List (List Key)} {ds : List D} (le : Same F H) (h : RepN K F H (.dT ks ds) v) : ∃ a kvs, v = .ref a ∧ H a = some (.dT kvs) ∧ kvs.map (·.1) = ks ∧ Reps K F ds (kvs.map (·.2)) := by
  obtain ⟨sv, ns, e, n, sh, hp⟩ := h
  cases sh with
  | fz r => cases e; cases r with | dT h e r => exact ⟨_, _, rfl, le _ _ h, e, r⟩
  | ol r => cases e
  | oK e' r => cases e
  | oT e' r => cases e; exact ⟨_, _, rfl, hp _ List.mem_cons_self, e', r⟩
  | oN e' r => cases n
end

theorem nd1 {a : Addr} : ([a] : List Addr).Nodup := List.nodup_cons.mpr ⟨fun h => (nomatch h), List.nodup_nil⟩
noncomputable def Fin (Z : Ent K) (F H : Hp) (σ : St) (δ : DSt) (own : Nat → Nodes) (sv : SV) (Q : VK) : Prop :=
  ∀ v H' F' ns, Same H H' → Same F F' → SR Z F' H' σ δ own → TmpOk Z F' H' own sv v ns → Q v H'
section
variable {Z : Ent K} {F H : Hp} {σ : St} {δ : DSt} {own : Nat → Nodes} {Q : VK}
theorem Fin.fz {d : D} {v : V} (f : Fin Z F H σ δ own (.fz d) Q) (s : SR Z F H σ δ own) (h : Rep K F d v) : Q v H := f v H F [] (Same.refl H) (Same.refl F) s (.fz h)
theorem Fin.one {sv : SV} {o : HO} {p : Addr} (f : Fin Z F H σ δ own sv Q) (s : SR Z F H σ δ own) (sh : Shape K F sv (.ref p) [(p, o)]) (hp : H p = none) : Q (.ref p) (upd H p o) := by
  have sm := same_new (o := o) hp
  refine f (.ref p) (upd H p o) F [(p, o)] sm (Same.refl F) (s.grow sm) ⟨sh, nd1, fun q hq => ?_, fun i q r hq hr => ?_⟩
  · obtain rfl := List.mem_singleton.mp hq
    exact ⟨s.le.free hp, s.old.free hp, upd_same⟩
  · obtain rfl := List.mem_singleton.mp hq
    intro e
    have e' : p = r.1 := e
    have z := (s.ok i r hr).2.2
    rw [← e', hp] at z; cases z
theorem Fin.lst {xs : List D} {vs : List V} {p : Addr} (f : Fin Z F H σ δ own (.ol xs) Q) (s : SR Z F H σ δ own) (r : Reps K F xs vs) (hp : H p = none) : Q (.ref p) (upd H p (.lst vs)) := f.one s (.ol r) hp
theorem Fin.tup {xs : List D} {vs : List V} {p : Addr} (f : Fin Z F H σ δ own (.fz (.tup xs)) Q) (s : SR Z F H σ δ own) (r : Reps K F xs vs) (hp : H p = none) : Q (.ref p) (upd H p (.tup vs)) := by
  have sm := same_new (o := .tup vs) hp
  have sF : Same F (addL F [(p, .tup vs)]) := addL_same fun q hq => by obtain rfl := List.mem_singleton.mp hq; exact s.le.free hp
  refine f (.ref p) (upd H p (.tup vs)) (addL F [(p, .tup vs)]) [] sm sF ?_ (.fz (.tup upd_same (r.mono sF)))
  refine (s.grow sm).addF (nd1) (fun q hq => ?_) (fun q hq => ?_) (fun q hq => ?_) fun i q u hq hu => ?_
  · obtain rfl := List.mem_singleton.mp hq; exact s.le.free hp
  · obtain rfl := List.mem_singleton.mp hq; exact upd_same
  · obtain rfl := List.mem_singleton.mp hq; exact s.old.free hp
  · obtain rfl := List.mem_singleton.mp hq
    intro e
    have e' : p = u.1 := e
    have z := (s.ok i u hu).2.2
    rw [← e', hp] at z; cases z
end

theorem shape_fz {F : Hp} {d : D} {v : V} {ns : Nodes} (h : Shape K F (.fz d) v ns) : Rep K F d v := by
  cases h with
  | fz r => exact r
/-! ### expressions -/
section
variable {Z : Ent K} {H : Hp} {σ : St} {Q : VK}
@[simp] noncomputable def nameF (i : Nat) : FE := fun δ => match δ[i]? with
  | some (some (.fz d)) => some (.tmp (.fz d), δ)
  | some (some _) => some (.bw i, δ)
  | _ => none
theorem l_var {i : Nat} (h : liftE Z (nameF i) σ H Q) : tVar i σ H Q := by
  obtain ⟨F, δ, own, rv, δ', s, e, k⟩ := h
  unfold nameF at e
  split at e
  · rename_i d hd
    cases e
    obtain ⟨v, h1, h2⟩ := s.at' i _ hd
    exact ⟨v, h1, k v H F own (Same.refl H) (Same.refl F) s ⟨[], .fz (shape_fz h2)⟩⟩
  · rename_i sv hsv hd
    cases e
    obtain ⟨v, h1, h2⟩ := s.at' i _ hd
    exact ⟨v, h1, k v H F own (Same.refl H) (Same.refl F) s h1⟩
  · cases e
@[simp] noncomputable def constF (d : D) : FE := fun δ => some (.tmp (.fz d), δ)
theorem l_const {d : D} {v : V} (hr : ∀ F, Rep K F d v) (h : liftE Z (constF d) σ H Q) : tC v σ H Q := by
  obtain ⟨F, δ, own, rv, δ', s, e, k⟩ := h
  cases e
  exact k v H F own (Same.refl H) (Same.refl F) s ⟨[], .fz (hr F)⟩

/-! arguments, from the left -/
@[simp] noncomputable def argNil : FA := fun δ => some ([], δ)
@[simp] noncomputable def argCons (fe : FE) (fa : FA) : FA := fun δ => (fe δ).bind fun p => (fa p.2).bind fun q => some (p.1 :: q.1, q.2)
theorem l_argNil {R : List V → Hp → Prop} (h : liftA Z argNil σ H R) : tNil σ H R := by
  obtain ⟨F, δ, own, rvs, δ', s, e, k⟩ := h
  cases e
  exact k [] H F own (Same.refl H) (Same.refl F) s .nil
theorem l_argCons {fe : FE} {fa : FA} {R : List V → Hp → Prop} (h : liftA Z (argCons fe fa) σ H R) : tCons (liftE Z fe) (liftA Z fa) σ H R := by
  obtain ⟨F, δ, own, rvs, δ', s, e, k⟩ := h
  obtain ⟨⟨rv, δ1⟩, e1, e2⟩ := Option.bind_eq_some_iff.mp e
  obtain ⟨⟨rr, δ2⟩, e3, e4⟩ := Option.bind_eq_some_iff.mp e2
  cases e4
  refine ⟨F, δ, own, rv, δ1, s, e1, fun v H1 F1 own1 sH sF s1 r1 => ?_⟩
  obtain ⟨F2, sF2, s2, r2⟩ := s1.settleR r1
  exact ⟨F2, δ1, own1, rr, δ2, s2, e3, fun vs H3 F3 own3 sH3 sF3 s3 r3 => k _ H3 F3 own3 (sH.trans sH3) (sF.trans (sF2.trans sF3)) s3 (.cons (r2.mono sF3) r3)⟩
@[simp] noncomputable def readAll : List RV → DSt → Option (List D)
  | [], _ => some []
  | rv :: r, δ => (rdv rv δ).bind fun d => (readAll r δ).bind fun ds => some (d :: ds)
theorem SR.rdAll {F : Hp} {δ : DSt} {own : Nat → Nodes} (s : SR Z F H σ δ own) : ∀ {rvs : List RV} {vs : List V} {ds : List D}, RVSs K F σ rvs vs → readAll rvs δ = some ds → RepNs K F H ds vs
  | _, _, _, .nil, e => by cases e; exact .nil
  | _, _, _, .cons h t, e => by
    obtain ⟨d, e1, e2⟩ := Option.bind_eq_some_iff.mp e
    obtain ⟨ds, e3, e4⟩ := Option.bind_eq_some_iff.mp e2
    cases e4
    exact .cons (s.rd h e1) (s.rdAll t e3)
@[simp] noncomputable def primF (g : List D → Option SV) (fa : FA) : FE := fun δ => (fa δ).bind fun p => (readAll p.1 p.2).bind fun ds => (g ds).bind fun sv => some (.tmp sv, p.2)
noncomputable def PrimN (Z : Ent K) (r : List V → Hp → VK → Prop) (g : List D → Option SV) : Prop :=
  ∀ (F H : Hp) (σ : St) (δ : DSt) (own : Nat → Nodes) (vs : List V) (ds : List D) (sv : SV) (Q : VK), SR Z F H σ δ own → RepNs K F H ds vs → g ds = some sv → Fin Z F H σ δ own sv Q → r vs H Q
theorem l_prim {r : List V → Hp → VK → Prop} {g : List D → Option SV} {fa : FA} (hg : PrimN Z r g) (h : liftE Z (primF g fa) σ H Q) : tCB r (liftA Z fa) σ H Q := by
  obtain ⟨F, δ, own, rv, δ', s, e, k⟩ := h
  obtain ⟨⟨rvs, δ1⟩, e1, e2⟩ := Option.bind_eq_some_iff.mp e
  obtain ⟨ds, e3, e4⟩ := Option.bind_eq_some_iff.mp e2
  obtain ⟨sv, e5, e6⟩ := Option.bind_eq_some_iff.mp e4
  cases e6
  refine ⟨F, δ, own, rvs, δ1, s, e1, fun vs H1 F1 own1 sH sF s1 r1 => ?_⟩
  exact hg F1 H1 σ δ1 own1 vs ds sv Q s1 (s1.rdAll r1 e3) e5 fun v H2 F2 ns sH2 sF2 s2 t => k v H2 F2 own1 (sH.trans sH2) (sF.trans sF2) s2 ⟨ns, t⟩
@[simp] noncomputable def g2 (g : D → D → Option SV) : List D → Option SV
  | [x, y] => g x y
  | _ => none
@[simp] noncomputable def binF (g : D → D → Option SV) (fa fb : FE) : FE := primF (g2 g) (argCons fa (argCons fb argNil))
noncomputable def Prim2 (Z : Ent K) (r : R2) (g : D → D → Option SV) : Prop :=
  ∀ (F H : Hp) (σ : St) (δ : DSt) (own : Nat → Nodes) (x y : V) (d1 d2 : D) (sv : SV) (Q : VK), SR Z F H σ δ own → RepN K F H d1 x → RepN K F H d2 y → g d1 d2 = some sv → Fin Z F H σ δ own sv Q → r x y H Q
theorem l_bin {r : R2} {g : D → D → Option SV} {fa fb : FE} (hg : Prim2 Z r g) (h : liftE Z (binF g fa fb) σ H Q) : tOp r (liftE Z fa) (liftE Z fb) σ H Q := by
  have hN : PrimN Z (fun vs H Q => ∃ x y, vs = [x, y] ∧ r x y H Q) (g2 g) := by
    intro F H σ δ own vs ds sv Q s rs e f
    cases rs with
    | nil => cases e
    | cons h1 t1 =>
      cases t1 with
      | nil => cases e
      | cons h2 t2 =>
        cases t2 with
        | nil => exact ⟨_, _, rfl, hg F H σ δ own _ _ _ _ sv Q s h1 h2 e f⟩
        | cons h3 t3 => cases e
  obtain ⟨F, δ, own, rv, δ', s, e, k⟩ := l_prim hN h
  obtain ⟨⟨rv1, δ1⟩, e1, e2⟩ := Option.bind_eq_some_iff.mp e
  obtain ⟨⟨rr, δ2⟩, e3, e4⟩ := Option.bind_eq_some_iff.mp e2
  cases e4
  obtain ⟨⟨rv2, δ3⟩, e5, e6⟩ := Option.bind_eq_some_iff.mp e3
  obtain ⟨⟨rr', δ4⟩, e7, e8⟩ := Option.bind_eq_some_iff.mp e6
  cases e8
  cases e7
  refine ⟨F, δ, own, rv1, δ1, s, e1, fun v H1 F1 own1 sH sF s1 r1 => ?_⟩
  obtain ⟨F2, sF2, s2, r2⟩ := s1.settleR r1
  refine ⟨F2, δ1, own1, rv2, δ3, s2, e5, fun u H3 F3 own3 sH3 sF3 s3 r3 => ?_⟩
  obtain ⟨F4, sF4, s4, r4⟩ := s3.settleR r3
  obtain ⟨x, y, exy, q⟩ := k [v, u] H3 F4 own3 (sH.trans sH3) (sF.trans (sF2.trans (sF3.trans sF4))) s4 (.cons (r2.mono (sF3.trans sF4)) (.cons r4 .nil))
  injection exy with ex ey
  injection ey with ey _
  subst ex ey
  exact q
@[simp] noncomputable def unF (g : D → Option SV) (fa : FE) : FE := primF (fun | [x] => g x | _ => none) (argCons fa argNil)
noncomputable def Prim1 (Z : Ent K) (r : V → Hp → VK → Prop) (g : D → Option SV) : Prop :=
  ∀ (F H : Hp) (σ : St) (δ : DSt) (own : Nat → Nodes) (x : V) (d : D) (sv : SV) (Q : VK), SR Z F H σ δ own → RepN K F H d x → g d = some sv → Fin Z F H σ δ own sv Q → r x H Q
theorem l_un {r : V → Hp → VK → Prop} {g : D → Option SV} {fa : FE} (hg : Prim1 Z r g) (h : liftE Z (unF g fa) σ H Q) : tUn r (liftE Z fa) σ H Q := by
  obtain ⟨F, δ, own, rv, δ', s, e, k⟩ := h
  obtain ⟨⟨rvs, δ1⟩, e1, e2⟩ := Option.bind_eq_some_iff.mp e
  obtain ⟨ds, e3, e4⟩ := Option.bind_eq_some_iff.mp e2
  obtain ⟨sv, e5, e6⟩ := Option.bind_eq_some_iff.mp e4
  cases e6
  obtain ⟨⟨rv1, δ2⟩, e7, e8⟩ := Option.bind_eq_some_iff.mp e1
  obtain ⟨⟨rr', δ4⟩, e9, e10⟩ := Option.bind_eq_some_iff.mp e8
  cases e10
  cases e9
  obtain ⟨d, e11, e12⟩ := Option.bind_eq_some_iff.mp e3
  cases e12
  refine ⟨F, δ, own, rv1, δ2, s, e7, fun v H1 F1 own1 sH sF s1 r1 => ?_⟩
  obtain ⟨F2, sF2, s2, r2⟩ := s1.settleR r1
  exact hg F2 H1 σ δ2 own1 v d sv Q s2 (s2.rd r2 e11) e5 fun v H2 F2' ns sH2 sF2' s2 t => k v H2 F2' own1 (sH.trans sH2) (sF.trans (sF2.trans sF2')) s2 ⟨ns, t⟩
/-! displays: every item is frozen -/
@[simp] noncomputable def dispNil : FD := fun δ => some ([], δ)
@[simp] noncomputable def dispCons (fe : FE) (fd : FD) : FD := fun δ => (fe δ).bind fun p => (frz p.1 p.2).bind fun q => (fd q.2).bind fun r => some (q.1 :: r.1, r.2)
theorem l_dispNil {R : List V → Hp → Prop} (h : liftD Z dispNil σ H R) : tNil σ H R := by
  obtain ⟨F, δ, own, rvs, δ', s, e, k⟩ := h
  cases e
  exact k [] H F own (Same.refl H) (Same.refl F) s .nil
theorem l_dispCons {fe : FE} {fd : FD} {R : List V → Hp → Prop} (h : liftD Z (dispCons fe fd) σ H R) : tCons (liftE Z fe) (liftD Z fd) σ H R := by
  obtain ⟨F, δ, own, rvs, δ', s, e, k⟩ := h
  obtain ⟨⟨rv, δ1⟩, e1, e2⟩ := Option.bind_eq_some_iff.mp e
  obtain ⟨⟨d, δ2⟩, e3, e4⟩ := Option.bind_eq_some_iff.mp e2
  obtain ⟨⟨ds, δ3⟩, e5, e6⟩ := Option.bind_eq_some_iff.mp e4
  cases e6
  refine ⟨F, δ, own, rv, δ1, s, e1, fun v H1 F1 own1 sH sF s1 r1 => ?_⟩
  obtain ⟨F2, sF2, s2, r2⟩ := s1.settleR r1
  obtain ⟨F3, own3, sF3, s3, r3⟩ := s2.frzR r2 e3
  exact ⟨F3, δ2, own3, ds, δ3, s3, e5, fun vs H4 F4 own4 sH4 sF4 s4 r4 => k _ H4 F4 own4 (sH.trans sH4) (sF.trans (sF2.trans (sF3.trans sF4))) s4 (.cons (r3.mono sF4) r4)⟩
@[simp] noncomputable def tupF (fd : FD) : FE := fun δ => (fd δ).bind fun p => if p.1.length ≤ PySem.sizeLine then some (.tmp (.fz (.tup p.1)), p.2) else none
@[simp] noncomputable def lstF (fd : FD) : FE := fun δ => (fd δ).bind fun p => if p.1.length ≤ PySem.sizeLine then some (.tmp (.ol p.1), p.2) else none
theorem l_tup {fd : FD} (h : liftE Z (tupF fd) σ H Q) : tTup (liftD Z fd) σ H Q := by
  obtain ⟨F, δ, own, rv, δ', s, e, k⟩ := h
  obtain ⟨⟨ds, δ1⟩, e1, e2⟩ := Option.bind_eq_some_iff.mp e
  by_cases hz : ds.length ≤ PySem.sizeLine
  · rw [if_pos hz] at e2
    cases e2
    refine ⟨F, δ, own, ds, δ1, s, e1, fun vs H1 F1 own1 sH sF s1 r1 => ⟨by rw [← r1.length]; exact hz, fun p hp => ?_⟩⟩
    exact Fin.tup (fun v H2 F2 ns a b c t => k v H2 F2 own1 (sH.trans a) (sF.trans b) c ⟨ns, t⟩) s1 r1 hp
  · rw [if_neg hz] at e2; cases e2
theorem l_lst {fd : FD} (h : liftE Z (lstF fd) σ H Q) : tLst (liftD Z fd) σ H Q := by
  obtain ⟨F, δ, own, rv, δ', s, e, k⟩ := h
  obtain ⟨⟨ds, δ1⟩, e1, e2⟩ := Option.bind_eq_some_iff.mp e
  by_cases hz : ds.length ≤ PySem.sizeLine
  · rw [if_pos hz] at e2
    cases e2
    refine ⟨F, δ, own, ds, δ1, s, e1, fun vs H1 F1 own1 sH sF s1 r1 => ⟨by rw [← r1.length]; exact hz, fun p hp => ?_⟩⟩
    exact Fin.lst (fun v H2 F2 ns a b c t => k v H2 F2 own1 (sH.trans a) (sF.trans b) c ⟨ns, t⟩) s1 r1 hp
  · rw [if_neg hz] at e2; cases e2
end

/-! ### a def's contract -/
@[simp] noncomputable def SV.scal : SV → Bool
  | .fz .non => true
  | .fz (.bl _) => true
  | .fz (.int _) => true
  | .fz (.str _) => true
  | _ => false
noncomputable def spOf (K : PySem.W.Frag) (n : Nat) (g : List D → Option SV) : Sp := fun vs H Q _ => ∃ F ds sv, Same F H ∧ Reps K F ds vs ∧ ds.length = n ∧ g ds = some sv ∧
  ∀ v H' F' ns, Same H H' → Same F F' → Same F' H' → (∀ (b : Addr) (o : HO), F' b = some o → F b = some o ∨ H b = none) → Shape K F' sv v ns → (adr ns).Nodup → (∀ p ∈ ns, F' p.1 = none ∧ H p.1 = none ∧ H' p.1 = some p.2) → Q v H'
@[simp] noncomputable def frzAll : List RV → DSt → Option (List D × DSt)
  | [], δ => some ([], δ)
  | rv :: r, δ => (frz rv δ).bind fun p => (frzAll r p.2).bind fun q => some (p.1 :: q.1, q.2)
theorem RVSs.mono {F F' : Hp} {σ : St} (s : Same F F') : ∀ {rvs : List RV} {vs : List V}, RVSs K F σ rvs vs → RVSs K F' σ rvs vs
  | _, _, .nil => .nil
  | _, _, .cons h t => .cons (h.mono s) (t.mono s)
section
variable {Z : Ent K} {H : Hp} {σ : St} {Q : VK}
theorem SR.frzAll {F : Hp} {δ : DSt} {own : Nat → Nodes} : ∀ {rvs : List RV} {vs : List V} {ds : List D} {δ' : DSt} {F : Hp} {δ : DSt} {own : Nat → Nodes}, SR Z F H σ δ own → RVSs K F σ rvs vs → DL.frzAll rvs δ = some (ds, δ') →
    ∃ F1 own1, Same F F1 ∧ SR Z F1 H σ δ' own1 ∧ Reps K F1 ds vs
  | _, _, _, _, F, _, own, s, .nil, e => by cases e; exact ⟨F, own, Same.refl F, s, .nil⟩
  | _, _, _, _, F, _, own, s, .cons h t, e => by
    obtain ⟨⟨d, δ1⟩, e1, e2⟩ := Option.bind_eq_some_iff.mp e
    obtain ⟨⟨ds, δ2⟩, e3, e4⟩ := Option.bind_eq_some_iff.mp e2
    cases e4
    obtain ⟨F1, own1, sF1, s1, r1⟩ := s.frzR h e1
    obtain ⟨F2, own2, sF2, s2, r2⟩ := SR.frzAll (own := own) (F := F) (δ := δ1) s1 (t.mono sF1) e3
    exact ⟨F2, own2, sF1.trans sF2, s2, .cons (r1.mono sF2) r2⟩
@[simp] noncomputable def callF (n : Nat) (g : List D → Option SV) (fa : FA) : FE := fun δ => (fa δ).bind fun p => (DL.frzAll p.1 p.2).bind fun q => if q.1.length = n then (g q.1).bind fun sv => some (.tmp sv, if sv.scal then p.2 else q.2) else none
theorem scal_rep {F F' : Hp} {sv : SV} {v : V} {ns : Nodes} (h : sv.scal = true) (sh : Shape K F sv v ns) : ns = [] ∧ Shape K F' sv v [] := by
  cases sh with
  | fz r => 
    refine ⟨rfl, .fz ?_⟩
    cases r with
    | non => exact .non
    | bl b => exact .bl b
    | int i => exact .int i
    | str x => exact .str x
    | tup _ _ => cases h
    | lst _ _ => cases h
    | dK _ _ _ => cases h
    | dT _ _ _ => cases h
    | exc _ _ => cases h
    | exd _ _ _ _ _ => cases h
  | ol _ => cases h
  | oK _ _ => cases h
  | oT _ _ => cases h
  | oN _ _ => cases h
theorem l_call {n : Nat} {g : List D → Option SV} {fa : FA} {E : XK} (h : liftE Z (callF n g fa) σ H Q) : tCall (spOf K n g) [] E (liftA Z fa) σ H Q := by
  obtain ⟨F, δ, own, rv, δ', s, e, k⟩ := h
  obtain ⟨⟨rvs, δ1⟩, e1, e2⟩ := Option.bind_eq_some_iff.mp e
  obtain ⟨⟨ds, δ2⟩, e3, e4⟩ := Option.bind_eq_some_iff.mp e2
  by_cases hn : ds.length = n
  · rw [if_pos hn] at e4
    obtain ⟨sv, e5, e6⟩ := Option.bind_eq_some_iff.mp e4
    refine ⟨F, δ, own, rvs, δ1, s, e1, fun vs H1 F1 own1 sH sF s1 r1 => ?_⟩
    obtain ⟨F2, own2, sF2, s2, r2⟩ := s1.frzAll (own := own) (F := F) (δ := δ) r1 e3
    rw [List.append_nil]
    refine ⟨F2, ds, sv, s2.le, r2, hn, e5, fun v H3 F3 ns sH3 sF3 le3 fro3 sh nd ok => ?_⟩
    by_cases hs : sv.scal = true
    · rw [if_pos hs] at e6
      cases e6
      obtain ⟨_, sh'⟩ := scal_rep (F' := F1) hs sh
      exact k v H3 F1 own1 (sH.trans sH3) sF (s1.grow sH3) ⟨[], sh', List.nodup_nil, fun _ h => (nomatch h), fun _ _ _ h => (nomatch h)⟩
    · rw [if_neg hs] at e6
      cases e6
      have s3 : SR Z F3 H3 σ δ2 own2 := by
        refine ⟨le3, fun b o e => ?_, s2.old.trans sH3, s2.len, fun i sw ei => ?_, s2.nod, fun i p hp => ?_, s2.sep⟩
        · rcases fro3 b o e with z | z
          · exact s2.fro b o z
          · exact .inr (s2.old.free z)
        · obtain ⟨w, h1, h2⟩ := s2.at' i sw ei
          exact ⟨w, h1, h2.mono sF3⟩
        · obtain ⟨a, b, c⟩ := s2.ok i p hp
          refine ⟨?_, b, sH3 _ _ c⟩
          cases z : F3 p.1 with
          | none => rfl
          | some u =>
            rcases fro3 _ u z with y | y
            · rw [a] at y; cases y
            · rw [c] at y; cases y
      exact k v H3 F3 own2 (sH.trans sH3) (sF.trans (sF2.trans sF3)) s3 ⟨ns, sh, nd, fun p hp => ⟨(ok p hp).1, (s2.old).free (ok p hp).2.1, (ok p hp).2.2⟩, fun i p q hp hq e => by
        have z := (s2.ok i q hq).2.2
        rw [← e, (ok p hp).2.1] at z; cases z⟩
  · rw [if_neg hn] at e4; cases e4
end
end DL

namespace DL
open PySem L2
variable {K : PySem.W.Frag}

/-! ### tests -/
section
variable {Z : Ent K} {H : Hp} {σ : St} {R : Bool → Hp → Prop} {Q : VK}
@[simp] noncomputable def testF (fe : FE) : FT := fun δ => (fe δ).bind fun p => match p.1 with
  | .tmp (.fz (.bl b)) => some (b, p.2)
  | _ => none
theorem l_test {fe : FE} (h : liftT Z (testF fe) σ H R) : tTest (liftE Z fe) σ H R := by
  obtain ⟨F, δ, own, b, δ', s, e, k⟩ := h
  obtain ⟨⟨rv, δ1⟩, e1, e2⟩ := Option.bind_eq_some_iff.mp e
  refine ⟨F, δ, own, rv, δ1, s, e1, fun v H1 F1 own1 sH sF s1 r1 => ?_⟩
  dsimp only at e2
  split at e2
  · cases e2
    obtain ⟨ns, t⟩ := r1
    cases shape_fz t.sh
    exact ⟨_, rfl, k H1 F1 own1 sH sF s1⟩
  · cases e2
theorem l_testB {fe : FE} (h : liftT Z (testF fe) σ H R) : tB (liftE Z fe) σ H R := l_test h
@[simp] noncomputable def andF (f g : FT) : FT := fun δ => (f δ).bind fun p => if p.1 = true then g p.2 else some (false, p.2)
@[simp] noncomputable def orF (f g : FT) : FT := fun δ => (f δ).bind fun p => if p.1 = true then some (true, p.2) else g p.2
@[simp] noncomputable def notF (f : FT) : FT := fun δ => (f δ).bind fun p => some (!p.1, p.2)
theorem l_or {f g : FT} (h : liftT Z (orF f g) σ H R) : tOr (liftT Z f) (liftT Z g) σ H R := by
  obtain ⟨F, δ, own, b, δ', s, e, k⟩ := h
  obtain ⟨⟨c, δ1⟩, e1, e2⟩ := Option.bind_eq_some_iff.mp e
  refine ⟨F, δ, own, c, δ1, s, e1, fun H1 F1 own1 sH sF s1 => ?_⟩
  cases c with
  | true =>
    rw [if_pos rfl] at e2 ⊢
    cases e2
    exact k H1 F1 own1 sH sF s1
  | false =>
    rw [if_neg Bool.false_ne_true] at e2 ⊢
    exact ⟨F1, δ1, own1, b, δ', s1, e2, fun H2 F2 own2 a c d => k H2 F2 own2 (sH.trans a) (sF.trans c) d⟩
theorem l_not {f : FT} (h : liftT Z (notF f) σ H R) : tNot (liftT Z f) σ H R := by
  obtain ⟨F, δ, own, b, δ', s, e, k⟩ := h
  obtain ⟨⟨c, δ1⟩, e1, e2⟩ := Option.bind_eq_some_iff.mp e
  cases e2
  exact ⟨F, δ, own, c, δ1, s, e1, k⟩
@[simp] noncomputable def andV (f g : FE) : FE := fun δ => (testF f δ).bind fun p => if p.1 = true then g p.2 else some (.tmp (.fz (.bl false)), p.2)
@[simp] noncomputable def orV (f g : FE) : FE := fun δ => (testF f δ).bind fun p => if p.1 = true then some (.tmp (.fz (.bl true)), p.2) else g p.2
@[simp] noncomputable def notV (f : FE) : FE := fun δ => (testF f δ).bind fun p => some (.tmp (.fz (.bl (!p.1))), p.2)
theorem fin_b {F : Hp} {own : Nat → Nodes} {b : Bool} : RVRep Z F H σ own (.tmp (.fz (.bl b))) (.bl b) := ⟨[], .fz (.bl b)⟩
theorem l_andV {f g : FE} (h : liftE Z (andV f g) σ H Q) : tAndV (liftE Z f) (liftE Z g) σ H Q := by
  obtain ⟨F, δ, own, rv, δ', s, e, k⟩ := h
  obtain ⟨⟨c, δ1⟩, e1, e2⟩ := Option.bind_eq_some_iff.mp e
  refine l_test ⟨F, δ, own, c, δ1, s, e1, fun H1 F1 own1 sH sF s1 => ?_⟩
  cases c with
  | true =>
    rw [if_pos rfl] at e2 ⊢
    exact ⟨F1, δ1, own1, rv, δ', s1, e2, fun v H2 F2 own2 a c d => k v H2 F2 own2 (sH.trans a) (sF.trans c) d⟩
  | false =>
    rw [if_neg Bool.false_ne_true] at e2 ⊢
    cases e2
    exact k _ H1 F1 own1 sH sF s1 fin_b
theorem l_notV {f : FE} (h : liftE Z (notV f) σ H Q) : tNotV (liftE Z f) σ H Q := by
  obtain ⟨F, δ, own, rv, δ', s, e, k⟩ := h
  obtain ⟨⟨c, δ1⟩, e1, e2⟩ := Option.bind_eq_some_iff.mp e
  cases e2
  exact l_test ⟨F, δ, own, c, δ1, s, e1, fun H1 F1 own1 sH sF s1 => k _ H1 F1 own1 sH sF s1 fin_b⟩
@[simp] noncomputable def ifF (t : FT) (f g : FE) : FE := fun δ => (t δ).bind fun p => if p.1 = true then f p.2 else g p.2
theorem l_if {t : FT} {f g : FE} (h : liftE Z (ifF t f g) σ H Q) : tIf (liftT Z t) (liftE Z f) (liftE Z g) σ H Q := by
  obtain ⟨F, δ, own, rv, δ', s, e, k⟩ := h
  obtain ⟨⟨c, δ1⟩, e1, e2⟩ := Option.bind_eq_some_iff.mp e
  refine ⟨F, δ, own, c, δ1, s, e1, fun H1 F1 own1 sH sF s1 => ?_⟩
  cases c with
  | true =>
    rw [if_pos rfl] at e2 ⊢
    exact ⟨F1, δ1, own1, rv, δ', s1, e2, fun v H2 F2 own2 a c d => k v H2 F2 own2 (sH.trans a) (sF.trans c) d⟩
  | false =>
    rw [if_neg Bool.false_ne_true] at e2 ⊢
    exact ⟨F1, δ1, own1, rv, δ', s1, e2, fun v H2 F2 own2 a c d => k v H2 F2 own2 (sH.trans a) (sF.trans c) d⟩
@[simp] noncomputable def chainF (g g' : D → D → Option SV) (fa fb fc : FE) : FE := fun δ => (fa δ).bind fun p => (fb p.2).bind fun q => (rdv p.1 q.2).bind fun x => (rdv q.1 q.2).bind fun y => (g x y).bind fun
  | .fz (.bl true) => (fc q.2).bind fun r => (rdv q.1 r.2).bind fun y' => (rdv r.1 r.2).bind fun z => (g' y' z).bind fun sv => some (.tmp sv, r.2)
  | .fz (.bl false) => some (.tmp (.fz (.bl false)), q.2)
  | _ => none
theorem l_chain {r r' : R2} {g g' : D → D → Option SV} {fa fb fc : FE} (hg : Prim2 Z r g) (hg' : Prim2 Z r' g') (h : liftE Z (chainF g g' fa fb fc) σ H Q) : tChain r r' (liftE Z fa) (liftE Z fb) (liftE Z fc) σ H Q := by
  obtain ⟨F, δ, own, rv, δ', s, e, k⟩ := h
  obtain ⟨⟨rv1, δ1⟩, e1, e⟩ := Option.bind_eq_some_iff.mp e
  obtain ⟨⟨rv2, δ2⟩, e2, e⟩ := Option.bind_eq_some_iff.mp e
  obtain ⟨x, e3, e⟩ := Option.bind_eq_some_iff.mp e
  obtain ⟨y, e4, e⟩ := Option.bind_eq_some_iff.mp e
  obtain ⟨sv, e5, e⟩ := Option.bind_eq_some_iff.mp e
  refine ⟨F, δ, own, rv1, δ1, s, e1, fun v H1 F1 own1 sH1 sF1 s1 r1 => ?_⟩
  obtain ⟨F1', sF1', s1', r1'⟩ := s1.settleR r1
  refine ⟨F1', δ1, own1, rv2, δ2, s1', e2, fun u H2 F2 own2 sH2 sF2 s2 r2 => ?_⟩
  obtain ⟨F3, sF3, s3, r3⟩ := s2.settleR r2
  refine hg F3 H2 σ δ2 own2 v u x y sv _ s3 (s3.rd (r1'.mono (sF2.trans sF3)) e3) (s3.rd r3 e4) e5 fun z H4 F4 ns sH4 sF4 s4 t4 => ?_
  dsimp only at e
  split at e
  · cases shape_fz t4.sh
    refine ⟨true, rfl, ?_⟩
    rw [if_pos rfl]
    obtain ⟨⟨rv5, δ5⟩, e6, e⟩ := Option.bind_eq_some_iff.mp e
    obtain ⟨y', e7, e⟩ := Option.bind_eq_some_iff.mp e
    obtain ⟨z', e8, e⟩ := Option.bind_eq_some_iff.mp e
    obtain ⟨sv', e9, e⟩ := Option.bind_eq_some_iff.mp e
    cases e
    refine ⟨F4, δ2, own2, rv5, δ5, s4, e6, fun w H5 F5 own5 sH5 sF5 s5 r5 => ?_⟩
    obtain ⟨F6, sF6, s6, r6⟩ := s5.settleR r5
    refine hg' F6 H5 σ δ5 own5 u w y' z' sv' _ s6 (s6.rd (r3.mono (sF4.trans (sF5.trans sF6))) e7) (s6.rd r6 e8) e9 fun q H7 F7 ns7 sH7 sF7 s7 t7 => ?_
    exact k q H7 F7 own5 (sH1.trans (sH2.trans (sH4.trans (sH5.trans sH7)))) (sF1.trans (sF1'.trans (sF2.trans (sF3.trans (sF4.trans (sF5.trans (sF6.trans sF7))))))) s7 ⟨ns7, t7⟩
  · cases shape_fz t4.sh
    cases e
    refine ⟨false, rfl, ?_⟩
    rw [if_neg Bool.false_ne_true]
    exact k _ H4 F4 own2 (sH1.trans (sH2.trans sH4)) (sF1.trans (sF1'.trans (sF2.trans (sF3.trans sF4)))) s4 fin_b
  · cases e
end

/-! ### statements -/
inductive Fl where
  | nx (δ : DSt) | bk (δ : DSt) | ct (δ : DSt) | rt (sv : SV) | ex (e : Exn) (δ : DSt)
noncomputable abbrev FS := DSt → Option Fl
noncomputable def EndsOk (Z : Ent K) (F : Hp) (D : Ends) : Fl → Prop
  | .nx δ => ∀ σ' H' F' own', Same F F' → SR Z F' H' σ' δ own' → D.nx σ' H'
  | .bk δ => ∀ σ' H' F' own', Same F F' → SR Z F' H' σ' δ own' → D.bk σ' H'
  | .ct δ => ∀ σ' H' F' own', Same F F' → SR Z F' H' σ' δ own' → D.ct σ' H'
  | .rt sv => ∀ v H' F' ns, Same F F' → Same F' H' → (∀ (b : Addr) (o : HO), F' b = some o → Z.f b = some o ∨ Z.h b = none) → Same Z.h H' → Shape K F' sv v ns → (adr ns).Nodup →
      (∀ p ∈ ns, F' p.1 = none ∧ Z.h p.1 = none ∧ H' p.1 = some p.2) → D.rt v H'
  | .ex x δ => ∀ σ' H' F' own' cls od, Same F F' → SR Z F' H' σ' δ own' → ExcRep K F' x cls od → Z.x cls od σ' H'
theorem EndsOk.mono {Z : Ent K} {F F' : Hp} {D : Ends} (s : Same F F') : ∀ {fl : Fl}, EndsOk Z F D fl → EndsOk Z F' D fl
  | .nx _, h => fun σ' H' F2 own' a b => h σ' H' F2 own' (s.trans a) b
  | .bk _, h => fun σ' H' F2 own' a b => h σ' H' F2 own' (s.trans a) b
  | .ct _, h => fun σ' H' F2 own' a b => h σ' H' F2 own' (s.trans a) b
  | .rt _, h => fun v H' F2 ns a => h v H' F2 ns (s.trans a)
  | .ex _ _, h => fun σ' H' F2 own' cls od a => h σ' H' F2 own' cls od (s.trans a)
noncomputable def liftS (Z : Ent K) (f : FS) : TS := fun D σ H => ∃ F δ own fl, SR Z F H σ δ own ∧ f δ = some fl ∧ EndsOk Z F D fl
section
variable {Z : Ent K} {H : Hp} {σ : St} {E : Ends}
@[simp] noncomputable def nextF : FS := fun δ => some (.nx δ)
@[simp] noncomputable def breakF : FS := fun δ => some (.bk δ)
@[simp] noncomputable def contF : FS := fun δ => some (.ct δ)
theorem l_next (h : liftS Z nextF E σ H) : tNext E σ H := by
  obtain ⟨F, δ, own, fl, s, e, k⟩ := h
  cases e
  exact k σ H F own (Same.refl F) s
@[simp] noncomputable def seqF (f g : FS) : FS := fun δ => (f δ).bind fun
  | .nx δ' => g δ'
  | fl => some fl
theorem l_seq {f g : FS} (h : liftS Z (seqF f g) E σ H) : tSeq (liftS Z f) (liftS Z g) E σ H := by
  obtain ⟨F, δ, own, fl, s, e, k⟩ := h
  obtain ⟨f1, e1, e2⟩ := Option.bind_eq_some_iff.mp e
  refine ⟨F, δ, own, f1, s, e1, ?_⟩
  cases f1 with
  | nx δ1 => exact fun σ' H' F' own' sF s' => ⟨F', δ1, own', fl, s', e2, k.mono sF⟩
  | bk δ1 => cases e2; exact k
  | ct δ1 => cases e2; exact k
  | rt sv => cases e2; exact k
  | ex x δ1 => cases e2; exact k
@[simp] noncomputable def ifS (t : FT) (f g : FS) : FS := fun δ => (t δ).bind fun p => if p.1 = true then f p.2 else g p.2
theorem l_ifS {t : FT} {f g : FS} (h : liftS Z (ifS t f g) E σ H) : tIfS (liftT Z t) (liftS Z f) (liftS Z g) E σ H := by
  obtain ⟨F, δ, own, fl, s, e, k⟩ := h
  obtain ⟨⟨c, δ1⟩, e1, e2⟩ := Option.bind_eq_some_iff.mp e
  refine ⟨F, δ, own, c, δ1, s, e1, fun H1 F1 own1 sH sF s1 => ?_⟩
  cases c with
  | true => rw [if_pos rfl] at e2 ⊢; exact ⟨F1, δ1, own1, fl, s1, e2, k.mono sF⟩
  | false => rw [if_neg Bool.false_ne_true] at e2 ⊢; exact ⟨F1, δ1, own1, fl, s1, e2, k.mono sF⟩
@[simp] noncomputable def dropF (fe : FE) : FS := fun δ => (fe δ).bind fun p => some (.nx p.2)
theorem l_drop {fe : FE} (h : liftS Z (dropF fe) E σ H) : tDrop (liftE Z fe) E σ H := by
  obtain ⟨F, δ, own, fl, s, e, k⟩ := h
  obtain ⟨⟨rv, δ1⟩, e1, e2⟩ := Option.bind_eq_some_iff.mp e
  cases e2
  exact ⟨F, δ, own, rv, δ1, s, e1, fun v H1 F1 own1 sH sF s1 _ => k σ H1 F1 own1 sF s1⟩
@[simp] noncomputable def outF : RV → DSt → Option SV
  | .tmp sv, _ => some sv
  | .bw i, δ => δ[i]?.join
@[simp] noncomputable def retF (fe : FE) : FS := fun δ => (fe δ).bind fun p => (outF p.1 p.2).bind fun sv => some (.rt sv)
theorem l_ret {fe : FE} (h : liftS Z (retF fe) E σ H) : tRet (liftE Z fe) E σ H := by
  obtain ⟨F, δ, own, fl, s, e, k⟩ := h
  obtain ⟨⟨rv, δ1⟩, e1, e2⟩ := Option.bind_eq_some_iff.mp e
  obtain ⟨sv, e3, e4⟩ := Option.bind_eq_some_iff.mp e2
  cases e4
  refine ⟨F, δ, own, rv, δ1, s, e1, fun v H1 F1 own1 sH sF s1 r1 => ?_⟩
  cases rv with
  | tmp sw =>
    cases e3
    obtain ⟨ns, t⟩ := r1
    exact k v H1 F1 ns sF s1.le s1.fro s1.old t.sh t.nd t.ok
  | bw i =>
    obtain ⟨w, h1, h2⟩ := s1.at' i sv (join_some e3)
    have r1' : σ[i]? = some (some v) := r1
    rw [r1'] at h1; cases h1
    exact k v H1 F1 (own1 i) sF s1.le s1.fro s1.old h2 (s1.nod i) (s1.ok i)
@[simp] noncomputable def retN : FS := fun δ => some (.rt (.fz .non))
@[simp] noncomputable def stow (i : Nat) : RV → DSt → Option DSt
  | .tmp sv, δ => if i < δ.length then some (δ.set i (some sv)) else none
  | .bw j, δ => (frz (.bw j) δ).bind fun p => if i < p.2.length then some (p.2.set i (some (.fz p.1))) else none
theorem SR.stow {F : Hp} {δ δ' : DSt} {own : Nat → Nodes} {i : Nat} {rv : RV} {v : V} (s : SR Z F H σ δ own) (r : RVRep Z F H σ own rv v) (e : DL.stow i rv δ = some δ') : ∃ F' own', Same F F' ∧ SR Z F' H (σ.set i (some v)) δ' own' := by
  cases rv with
  | tmp sv =>
    obtain ⟨ns, t⟩ := r
    have e : (if i < δ.length then some (δ.set i (some sv)) else none) = some δ' := e
    by_cases hi : i < δ.length
    · rw [if_pos hi] at e; cases e
      exact ⟨F, _, Same.refl F, s.store t (by rw [s.len]; exact hi)⟩
    · rw [if_neg hi] at e; cases e
  | bw j =>
    obtain ⟨⟨d, δ1⟩, e1, e2⟩ := Option.bind_eq_some_iff.mp e
    obtain ⟨F1, own1, sF, s1, r1⟩ := s.frzR (rv := .bw j) (v := v) r e1
    by_cases hi : i < δ1.length
    · rw [if_pos hi] at e2; cases e2
      exact ⟨F1, _, sF, s1.store (.fz r1) (by rw [s1.len]; exact hi)⟩
    · rw [if_neg hi] at e2; cases e2
@[simp] noncomputable def setF (i : Nat) (fe : FE) : FS := fun δ => (fe δ).bind fun p => (stow i p.1 p.2).bind fun δ' => some (.nx δ')
theorem l_set {i : Nat} {fe : FE} (h : liftS Z (setF i fe) E σ H) : tAsg (liftE Z fe) (gName i) E σ H := by
  obtain ⟨F, δ, own, fl, s, e, k⟩ := h
  obtain ⟨⟨rv, δ1⟩, e1, e2⟩ := Option.bind_eq_some_iff.mp e
  obtain ⟨δ2, e3, e4⟩ := Option.bind_eq_some_iff.mp e2
  cases e4
  refine ⟨F, δ, own, rv, δ1, s, e1, fun v H1 F1 own1 sH sF s1 r1 => ?_⟩
  obtain ⟨F2, own2, sF2, s2⟩ := s1.stow r1 e3
  exact k _ H1 F2 own2 (sF.trans sF2) s2
/-! targets -/
structure FG where
  run : D → DSt → Option DSt
  tch : List Nat
structure FGs where
  run : List D → DSt → Option DSt
  tch : List Nat
noncomputable def liftG (Z : Ent K) (g : FG) : TG := fun v σ H Q => ∃ F δ own d δ', SR Z F H σ δ own ∧ Rep K F d v ∧ g.run d δ = some δ' ∧ ∀ σ' own', SR Z F H σ' δ' own' → (∀ j : Nat, j ∉ g.tch → σ'[j]? = σ[j]?) → Q σ' H
noncomputable def liftGs (Z : Ent K) (g : FGs) : TGs := fun vs σ H Q => ∃ F δ own ds δ', SR Z F H σ δ own ∧ Reps K F ds vs ∧ g.run ds δ = some δ' ∧ ∀ σ' own', SR Z F H σ' δ' own' → (∀ j : Nat, j ∉ g.tch → σ'[j]? = σ[j]?) → Q σ' H
noncomputable def gNameF (i : Nat) : FG := ⟨fun d δ => if i < δ.length then some (δ.set i (some (.fz d))) else none, [i]⟩
theorem l_gName {i : Nat} {v : V} {Q : St → Hp → Prop} (h : liftG Z (gNameF i) v σ H Q) : gName i v σ H Q := by
  obtain ⟨F, δ, own, d, δ', s, r, e, k⟩ := h
  have e : (if i < δ.length then some (δ.set i (some (.fz d))) else none) = some δ' := e
  by_cases hi : i < δ.length
  · rw [if_pos hi] at e; cases e
    exact k _ _ (s.store (.fz r) (by rw [s.len]; exact hi)) fun j hj => List.getElem?_set_ne fun z => hj (by rw [z]; exact List.mem_cons_self)
  · rw [if_neg hi] at e; cases e
noncomputable def gNilF : FGs := ⟨fun ds δ => match ds with
  | [] => some δ
  | _ => none, []⟩
noncomputable def gConsF (g : FG) (r : FGs) : FGs := ⟨fun ds δ => match ds with
  | d :: t => (g.run d δ).bind fun δ1 => r.run t δ1
  | [] => none, g.tch ++ r.tch⟩
@[simp] theorem gName_run (i : Nat) (d : D) (δ : DSt) : (gNameF i).run d δ = if i < δ.length then some (δ.set i (some (.fz d))) else none := rfl
@[simp] theorem gNil_run (δ : DSt) : gNilF.run [] δ = some δ := rfl
@[simp] theorem gCons_run (g : FG) (r : FGs) (d : D) (t : List D) (δ : DSt) : (gConsF g r).run (d :: t) δ = (g.run d δ).bind fun δ1 => r.run t δ1 := rfl
theorem l_gNil {vs : List V} {Q : St → Hp → Prop} (h : liftGs Z gNilF vs σ H Q) : gNil vs σ H Q := by
  obtain ⟨F, δ, own, ds, δ', s, r, e, k⟩ := h
  cases r with
  | nil => cases e; exact ⟨rfl, k σ own s fun _ _ => rfl⟩
  | cons h t => cases e
theorem l_gCons {g : FG} {r : FGs} {vs : List V} {Q : St → Hp → Prop} (h : liftGs Z (gConsF g r) vs σ H Q) : gCons (liftG Z g) (liftGs Z r) vs σ H Q := by
  obtain ⟨F, δ, own, ds, δ', s, rr, e, k⟩ := h
  cases rr with
  | nil => cases e
  | cons h t =>
    obtain ⟨δ1, e1, e2⟩ := Option.bind_eq_some_iff.mp e
    exact ⟨_, _, rfl, F, δ, own, _, δ1, s, h, e1, fun σ1 own1 s1 t1 => ⟨F, δ1, own1, _, δ', s1, t, e2, fun σ2 own2 s2 t2 => k σ2 own2 s2 fun j hj => (t2 j fun z => hj (List.mem_append_right _ z)).trans (t1 j fun z => hj (List.mem_append_left _ z))⟩⟩
noncomputable def gTupF (n : Nat) (g : FGs) : FG := ⟨fun d δ => match d with
  | .tup xs => if xs.length = n then g.run xs δ else none
  | _ => none, g.tch⟩
@[simp] theorem gTup_run (n : Nat) (g : FGs) (xs : List D) (δ : DSt) : (gTupF n g).run (.tup xs) δ = if xs.length = n then g.run xs δ else none := rfl
theorem l_gTup {n : Nat} {g : FGs} {v : V} {Q : St → Hp → Prop} (h : liftG Z (gTupF n g) v σ H Q) : gTup K n (liftGs Z g) v σ H Q := by
  obtain ⟨F, δ, own, d, δ', s, r, e, k⟩ := h
  dsimp only [gTupF] at e
  split at e
  · rename_i xs
    by_cases hn : xs.length = n
    · rw [if_pos hn] at e
      cases r with
      | tup h r => exact ⟨_, _, rfl, sqT_mono s.le (tupSq h), by rw [← r.length]; exact hn, F, δ, own, _, δ', s, r, e, k⟩
    · rw [if_neg hn] at e; cases e
  · cases e
@[simp] noncomputable def unpackF (g : FG) (fe : FE) : FS := fun δ => (fe δ).bind fun p => (frz p.1 p.2).bind fun q => (g.run q.1 q.2).bind fun δ' => some (.nx δ')

/-! ### loops -/
@[simp] noncomputable def forD (tg : FG) (body : FS) : List D → DSt → Option Fl
  | [], δ => some (.nx δ)
  | d :: ds, δ => (tg.run d δ).bind fun δ1 => (body δ1).bind fun
    | .nx δ2 => forD tg body ds δ2
    | .ct δ2 => forD tg body ds δ2
    | .bk δ2 => some (.nx δ2)
    | .rt sv => some (.rt sv)
    | .ex x δ2 => some (.ex x δ2)
noncomputable def Yields (K : PySem.W.Frag) (J : It) (F : Hp) (ds : List D) : Prop := ∀ F' H, Same F F' → Same F' H → ∀ i : Nat,
  (∀ d, ds[i]? = some d → J.go i H ∧ ∀ x H', J.yld i H x H' → Same H H' ∧ ∃ ns, (adr ns).Nodup ∧ (∀ p ∈ ns, H p.1 = none ∧ H' p.1 = some p.2) ∧ Rep K (addL F' ns) d x) ∧ (ds.length ≤ i → J.stop i H)
noncomputable def liftI (Z : Ent K) (f : FD) : TI := fun σ H R => ∃ F δ own ds δ', SR Z F H σ δ own ∧ f δ = some (ds, δ') ∧
  ∀ J H' F' own', Same H H' → Same F F' → SR Z F' H' σ δ' own' → Yields K J F' ds → R J H'
@[simp] noncomputable def forF (fi : FD) (tg : FG) (body : FS) : FS := fun δ => (fi δ).bind fun p => forD tg body p.1 p.2
theorem SR.fresh {F H' : Hp} {δ : DSt} {own : Nat → Nodes} {ns : Nodes} (s : SR Z F H σ δ own) (sm : Same H H') (nd : (adr ns).Nodup) (h : ∀ p ∈ ns, H p.1 = none ∧ H' p.1 = some p.2) : Same F (addL F ns) ∧ SR Z (addL F ns) H' σ δ own := by
  refine ⟨addL_same fun p hp => s.le.free (h p hp).1, (s.grow sm).addF nd (fun p hp => s.le.free (h p hp).1) (fun p hp => (h p hp).2) (fun p hp => s.old.free (h p hp).1) fun i p q hp hq e => ?_⟩
  have z := (s.ok i q hq).2.2
  rw [← e, (h p hp).1] at z; cases z
theorem l_for {fi : FD} {tg : FG} {body : FS} (h : liftS Z (forF fi tg body) E σ H) : tFor (liftI Z fi) (liftG Z tg) (liftS Z body) E σ H := by
  obtain ⟨F, δ, own, fl, s, e, k⟩ := h
  obtain ⟨⟨ds, δ1⟩, e1, e2⟩ := Option.bind_eq_some_iff.mp e
  refine ⟨F, δ, own, ds, δ1, s, e1, fun J H1 F1 own1 sH sF s1 yl => ?_⟩
  refine ⟨fun i m σ H => m = ds.length - i ∧ i ≤ ds.length ∧ ∃ F δ own, Same F1 F ∧ SR Z F H σ δ own ∧ forD tg body (ds.drop i) δ = some fl, ⟨ds.length, by simp, Nat.zero_le _, F1, δ1, own1, Same.refl F1, s1, e2⟩, ?_⟩
  rintro i m σ' H' ⟨rfl, hi, F2, δ2, own2, sF2, s2, ef⟩
  by_cases hlt : i < ds.length
  · have hd : ds[i]? = some ds[i] := by simp [hlt]
    obtain ⟨go, yy⟩ := (yl F2 H' sF2 s2.le i).1 _ hd
    rw [List.drop_eq_getElem_cons hlt] at ef
    obtain ⟨δ3, e3, e4⟩ := Option.bind_eq_some_iff.mp ef
    obtain ⟨f1, e5, e6⟩ := Option.bind_eq_some_iff.mp e4
    refine .inr ⟨go, fun σ4 H4 => ∃ F δ own, Same F1 F ∧ SR Z F H4 σ4 δ own ∧ forD tg body (ds.drop (i + 1)) δ = some fl, fun σ4 H4 ⟨F4, δ4, own4, a, b, c⟩ => ⟨ds.length - (i + 1), by omega, rfl, hlt, F4, δ4, own4, a, b, c⟩, fun x H3 hy => ?_⟩
    obtain ⟨sm, ns, nd, hn, rp⟩ := yy x H3 hy
    obtain ⟨sFn, sn⟩ := s2.fresh sm nd hn
    refine ⟨addL F2 ns, δ2, own2, _, δ3, sn, rp, e3, fun σ5 own5 s5 _ => ⟨addL F2 ns, δ3, own5, f1, s5, e5, ?_⟩⟩
    cases f1 with
    | nx δ6 => exact fun σ6 H6 F6 own6 a b => ⟨F6, δ6, own6, sF2.trans (sFn.trans a), b, e6⟩
    | ct δ6 => exact fun σ6 H6 F6 own6 a b => ⟨F6, δ6, own6, sF2.trans (sFn.trans a), b, e6⟩
    | bk δ6 =>
      cases e6
      exact fun σ6 H6 F6 own6 a b => k σ6 H6 F6 own6 (sF.trans (sF2.trans (sFn.trans a))) b
    | rt sv =>
      cases e6
      exact fun v H6 F6 ns6 a => k v H6 F6 ns6 (sF.trans (sF2.trans (sFn.trans a)))
    | ex x δ6 =>
      cases e6
      exact fun σ6 H6 F6 own6 cls od a => k σ6 H6 F6 own6 cls od (sF.trans (sF2.trans (sFn.trans a)))
  · have hz : i = ds.length := by omega
    subst hz
    rw [List.drop_length] at ef
    cases ef
    exact .inl ⟨(yl F2 H' sF2 s2.le _).2 (Nat.le_refl _), k σ' H' F2 own2 (sF.trans sF2) s2⟩
noncomputable def whileD (t : FT) (body : FS) : Nat → DSt → Option Fl
  | 0, _ => none
  | n + 1, δ => (t δ).bind fun p => if p.1 = true then (body p.2).bind (fun
    | .nx δ2 => whileD t body n δ2
    | .ct δ2 => whileD t body n δ2
    | .bk δ2 => some (.nx δ2)
    | .rt sv => some (.rt sv)
    | .ex x δ2 => some (.ex x δ2)) else some (.nx p.2)
/-! what is walked: a list or a tuple, frozen; a range -/
@[simp] noncomputable def seqI (fe : FE) : FD := fun δ => (fe δ).bind fun p => (frz p.1 p.2).bind fun q => match q.1 with
  | .lst xs => some (xs, q.2)
  | .tup xs => some (xs, q.2)
  | _ => none
noncomputable def iSeq (K : PySem.W.Frag) (tl : TE) : TI := fun σ H R => tl σ H fun x H1 => (∃ a, x = .ref a ∧ (∃ xs, SqL K H1 a xs) ∧ R (Itl K a) H1) ∨ (∃ a, x = .ref a ∧ (∃ xs, SqT K H1 a xs) ∧ R (Itt K a) H1)
theorem yields_list {F : Hp} {a : Addr} {xs : List D} {vs : List V} (h : SqL K F a vs) (r : Reps K F xs vs) : Yields K (Itl K a) F xs := fun F' H sF sH i => by
  have q : SqL K H a vs := sqL_mono (sF.trans sH) h
  refine ⟨fun d hd => ?_, fun hl => ⟨vs, q, by rw [← r.length]; exact hl⟩⟩
  obtain ⟨v, h1, h2⟩ := r.get hd
  refine ⟨⟨vs, v, q, h1⟩, fun x H' ⟨e1, e2⟩ => ?_⟩
  subst e1
  have e3 := e2 vs q
  rw [h1] at e3; cases e3
  exact ⟨Same.refl _, [], List.nodup_nil, fun _ h => (nomatch h), h2.mono sF⟩
theorem yields_tup {F : Hp} {a : Addr} {xs : List D} {vs : List V} (h : SqT K F a vs) (r : Reps K F xs vs) : Yields K (Itt K a) F xs := fun F' H sF sH i => by
  have q : SqT K H a vs := sqT_mono (sF.trans sH) h
  refine ⟨fun d hd => ?_, fun hl => ⟨vs, q, by rw [← r.length]; exact hl⟩⟩
  obtain ⟨v, h1, h2⟩ := r.get hd
  refine ⟨⟨vs, v, q, h1⟩, fun x H' ⟨e1, e2⟩ => ?_⟩
  subst e1
  have e3 := e2 vs q
  rw [h1] at e3; cases e3
  exact ⟨Same.refl _, [], List.nodup_nil, fun _ h => (nomatch h), h2.mono sF⟩
noncomputable def intsD (lo : Int) (n : Nat) : List D := (List.range n).map fun i => .int (lo + (i : Nat))
theorem yields_range {lo : Int} {n : Nat} {F : Hp} : Yields K (Itr lo n) F (intsD lo n) := fun F' H sF sH i => by
  have hl : (intsD lo n).length = n := by unfold intsD; rw [List.length_map, List.length_range]
  refine ⟨fun d hd => ?_, fun h => by rw [hl] at h; exact h⟩
  have hi : i < n := by
    have := (List.getElem?_eq_some_iff.mp hd).1
    rw [hl] at this; exact this
  refine ⟨hi, fun x H' ⟨e1, e2⟩ => ?_⟩
  subst e1 e2
  unfold intsD at hd
  rw [List.getElem?_map, List.getElem?_range hi] at hd
  cases hd
  exact ⟨Same.refl _, [], List.nodup_nil, fun _ h => (nomatch h), .int _⟩
noncomputable def rngP (j : Int) : Prop := -(2 ^ 62) ≤ j ∧ j < 2 ^ 62
theorem rngP_of {j : Int} (h0 : 0 ≤ j) (h : j ≤ 16777216) : rngP j := ⟨by omega, by omega⟩
theorem rngP_nat {n : Nat} (h : n ≤ 16777216) : rngP (n : Int) := rngP_of (by omega) (by omega)
open Classical in
@[simp] noncomputable def rngI (fa : FA) : FD := fun δ => (fa δ).bind fun p => match readAll p.1 p.2 with
  | some [.int j] => if rngP j then some (intsD 0 j.toNat, p.2) else none
  | _ => none
theorem l_rngI {fa : FA} {R : It → Hp → Prop} (h : liftI Z (rngI fa) σ H R) : iRng1 (liftA Z fa) σ H R := by
  obtain ⟨F, δ, own, ds, δ', s, e, k⟩ := h
  obtain ⟨⟨rvs, δ1⟩, e1, e2⟩ := Option.bind_eq_some_iff.mp e
  refine ⟨F, δ, own, rvs, δ1, s, e1, fun vs H1 F1 own1 sH sF s1 r1 => ?_⟩
  dsimp only at e2
  split at e2
  · rename_i j hj
    have rn := s1.rdAll r1 hj
    cases rn with
    | cons h t =>
      cases t
      by_cases hb : rngP j
      · rw [if_pos hb] at e2
        cases e2
        exact ⟨j, by rw [h.int], hb.1, hb.2, k _ H1 F1 own1 sH sF s1 yields_range⟩
      · rw [if_neg hb] at e2; cases e2
  · cases e2
/-! x.append(e) -/
@[simp] noncomputable def appF (i : Nat) (fe : FE) : FS := fun δ => match δ[i]? with
  | some (some (.ol _)) => (fe δ).bind fun p => (frz p.1 p.2).bind fun q => match q.2[i]? with
    | some (some (.ol xs)) => if xs.length < PySem.sizeLine then some (.nx (q.2.set i (some (.ol (xs ++ [q.1]))))) else none
    | _ => none
  | _ => none
theorem shape_ol {F : Hp} {xs : List D} {v : V} {ns : Nodes} (h : Shape K F (.ol xs) v ns) : ∃ a vs, v = .ref a ∧ ns = [(a, .lst vs)] ∧ Reps K F xs vs := by
  cases h with
  | ol r => exact ⟨_, _, rfl, rfl, r⟩
theorem l_app {i : Nat} {fe : FE} (h : liftS Z (appF i fe) E σ H) : tDrop (tBM K "list" rAppend (tVar i) (tCons (liftE Z fe) tNil)) E σ H := by
  obtain ⟨F, δ, own, fl, s, e, k⟩ := h
  unfold appF at e
  split at e
  · rename_i xs0 hx0
    obtain ⟨⟨rv, δ1⟩, e1, e2⟩ := Option.bind_eq_some_iff.mp e
    obtain ⟨⟨d, δ2⟩, e3, e4⟩ := Option.bind_eq_some_iff.mp e2
    obtain ⟨v, hv, sh⟩ := s.at' i _ hx0
    obtain ⟨a, vs0, ev, en, r0⟩ := shape_ol sh
    refine ⟨v, hv, ?_, F, δ, own, rv, δ1, s, e1, fun y H1 F1 own1 sH sF s1 r1 => ?_⟩
    · subst ev
      exact .inl ⟨rfl, vs0, .inl (.inl (s.ok i (a, .lst vs0) (by rw [en]; exact List.mem_cons_self)).2.2)⟩
    obtain ⟨F2, sF2, s2, r2⟩ := s1.settleR r1
    obtain ⟨F3, own3, sF3, s3, r3⟩ := s2.frzR r2 e3
    dsimp only at e4
    split at e4
    · rename_i xs hx
      by_cases hz : xs.length < PySem.sizeLine
      · rw [if_pos hz] at e4
        cases e4
        obtain ⟨v', hv', sh'⟩ := s3.at' i _ hx
        rw [hv] at hv'; cases hv'
        obtain ⟨b, vs, eb, en', r'⟩ := shape_ol sh'
        have mb : (b, HO.lst vs) ∈ own3 i := by rw [en']; exact List.mem_cons_self
        subst eb
        refine ⟨b, vs, y, rfl, rfl, (s3.ok i _ mb).2.2, by rw [← r'.length]; exact hz, ?_⟩
        exact k σ _ F3 _ (sF.trans (sF2.trans sF3)) (s3.change (sv' := .ol (xs ++ [d])) (o' := .lst (vs ++ [y])) (ns' := [(b, .lst (vs ++ [y]))]) hx hv mb (.ol (r'.snoc r3)) (fun p hp => .inl (List.mem_singleton.mp hp)) nd1)
      · rw [if_neg hz] at e4; cases e4
    · cases e4
  · cases e
end
/-! ### the body of a def -/
@[simp] noncomputable def startD (n : Nat) (ds : List D) : DSt := ds.map (fun d => some (.fz d)) ++ List.replicate (n - ds.length) none
theorem sr_start {N : List Str} {F H : Hp} {ds : List D} {vs : List V} (le : Same F H) (r : Reps K F ds vs) : SR (ent H F : Ent K) F H (L2.start N vs) (startD N.length ds) fun _ => [] := by
  have hl := r.length
  refine ⟨le, fun b o e => .inl e, Same.refl H, ?_, fun i sv e => ?_, fun _ => List.nodup_nil, fun _ _ h => (nomatch h), fun _ _ _ _ _ h => (nomatch h)⟩
  · unfold L2.start startD
    rw [List.length_append, List.length_append, List.length_map, List.length_map, List.length_replicate, List.length_replicate, hl]
  · unfold startD at e
    by_cases hi : i < ds.length
    · rw [List.getElem?_append_left (by simpa using hi), List.getElem?_map] at e
      cases hd : ds[i]? with
      | none => rw [hd] at e; cases e
      | some d =>
        rw [hd] at e; cases e
        obtain ⟨v, h1, h2⟩ := r.get hd
        refine ⟨v, ?_, .fz h2⟩
        unfold L2.start
        rw [List.getElem?_append_left (by rw [List.length_map]; omega), List.getElem?_map, h1]
        rfl
    · rw [List.getElem?_append_right (by simpa using hi), List.getElem?_replicate] at e
      split at e <;> cases e
theorem spOf_len {n : Nat} {g : List D → Option SV} {vs : List V} {H : Hp} {Q : VK} {E : XK} (h : spOf K n g vs H Q E) : vs.length = n := by
  obtain ⟨F, ds, sv, le, r, hn, e, k⟩ := h
  rw [← r.length]; exact hn
end DL

namespace DL
open PySem L2
variable {K : PySem.W.Frag}
/-! ### a list comprehension -/
noncomputable def xG (K : PySem.W.Frag) (g : FG) : TG := fun v σ H Q => ∃ Z : Ent K, liftG Z g v σ H Q
noncomputable def xT (K : PySem.W.Frag) (f : FT) : TT := fun σ H Q => ∃ Z : Ent K, liftT Z f σ H Q
noncomputable def xE (K : PySem.W.Frag) (f : FE) : TE := fun σ H Q => ∃ Z : Ent K, liftE Z f σ H Q
noncomputable def trueT : FT := fun δ => some (true, δ)
@[simp] theorem trueT_ap (δ : DSt) : trueT δ = some (true, δ) := rfl
@[simp] noncomputable def caps (src : List BSrc) : List RV := src.filterMap fun
  | .cap j => some (.bw j)
  | _ => none
@[simp] noncomputable def bDSlot (δ : DSt) : BSrc → Option SV
  | .own => none
  | .cap j => match δ[j]?.join with
    | some (.fz d) => some (.fz d)
    | _ => none
  | .acc => some (.ol [])
@[simp] noncomputable def bD (src : List BSrc) (δ : DSt) : DSt := src.map (bDSlot δ)
@[simp] noncomputable def resetSlot : BSrc → Option SV → Option SV
  | .own, _ => none
  | _, o => o
@[simp] noncomputable def reset : List BSrc → DSt → DSt
  | b :: r, o :: t => resetSlot b o :: reset r t
  | _, t => t
@[simp] noncomputable def compD (src : List BSrc) (k : Nat) (g : FG) (tt : FT) (te : FE) : List D → DSt → Option DSt
  | [], δ => some δ
  | d :: ds, δ => (g.run d δ).bind fun δ1 => (tt δ1).bind fun p => if p.1 = true then (te p.2).bind fun q => (frz q.1 q.2).bind fun r => match r.2[k]? with
      | some (some (.ol zs)) => if zs.length < PySem.sizeLine then compD src k g tt te ds (reset src (r.2.set k (some (.ol (zs ++ [r.1]))))) else none
      | _ => none
    else compD src k g tt te ds (reset src p.2)
@[simp] noncomputable def compF (src : List BSrc) (k : Nat) (fi : FD) (g : FG) (tt : FT) (te : FE) : FE := fun δ => (fi δ).bind fun p => (frzAll (caps src) p.2).bind fun c => (compD src k g tt te p.1 (bD src c.2)).bind fun δb => match δb[k]? with
  | some (some (.ol ys)) => some (.tmp (.ol ys), c.2)
  | _ => none
theorem reset_len : ∀ (src : List BSrc) (δ : DSt), (reset src δ).length = δ.length
  | [], t => by unfold reset; rfl
  | _ :: _, [] => by unfold reset; rfl
  | b :: r, o :: t => by show (resetSlot b o :: reset r t).length = _; rw [List.length_cons, List.length_cons, reset_len r t]
theorem reset_get : ∀ {src : List BSrc} {δ : DSt} {i : Nat} {sv : SV}, (reset src δ)[i]? = some (some sv) → δ[i]? = some (some sv)
  | [], _, _, _, h => h
  | _ :: _, [], _, _, h => h
  | b :: r, o :: t, 0, sv, h => by
    have h : some (resetSlot b o) = some (some sv) := h
    cases b with
    | own => cases h
    | cap j => exact h
    | acc => exact h
  | b :: r, o :: t, i + 1, sv, h => by
    have h : (reset r t)[i]? = some (some sv) := h
    show t[i]? = _
    exact reset_get h
section
variable {Z : Ent K} {F H : Hp} {σ : St} {δ δ' : DSt} {own : Nat → Nodes}
theorem SR.forget (s : SR Z F H σ δ own) (hl : δ'.length = δ.length) (h : ∀ (i : Nat) (sv : SV), δ'[i]? = some (some sv) → δ[i]? = some (some sv)) : SR Z F H σ δ' own :=
  ⟨s.le, s.fro, s.old, s.len.trans hl.symm, fun i sv e => s.at' i sv (h i sv e), s.nod, s.ok, s.sep⟩
theorem SR.caps : ∀ {rvs : List RV} {ds : List D} {δ δ' : DSt} {F : Hp} {own : Nat → Nodes}, (∀ rv ∈ rvs, ∃ j, rv = .bw j) → SR Z F H σ δ own → DL.frzAll rvs δ = some (ds, δ') → ∃ F1 own1, Same F F1 ∧ SR Z F1 H σ δ' own1
  | [], _, _, _, F, own, _, s, e => by cases e; exact ⟨F, own, Same.refl F, s⟩
  | rv :: r, _, _, _, F, own, hb, s, e => by
    obtain ⟨⟨d, δ1⟩, e1, e2⟩ := Option.bind_eq_some_iff.mp e
    obtain ⟨⟨ds, δ2⟩, e3, e4⟩ := Option.bind_eq_some_iff.mp e2
    cases e4
    obtain ⟨j, rfl⟩ := hb rv List.mem_cons_self
    obtain ⟨sv, e5, e6⟩ := Option.bind_eq_some_iff.mp e1
    cases e6
    obtain ⟨F1, v, sF, _, _, s1⟩ := s.freeze (join_some e5)
    obtain ⟨F2, own2, sF2, s2⟩ := SR.caps (fun rv h => hb rv (List.mem_cons_of_mem _ h)) s1 e3
    exact ⟨F2, own2, sF.trans sF2, s2⟩
theorem SR.after {F3 H3 : Hp} (s2 : SR Z F H σ δ own) (sH3 : Same H H3) (sF3 : Same F F3) (le3 : Same F3 H3) (fro3 : ∀ (b : Addr) (o : HO), F3 b = some o → F b = some o ∨ H b = none) : SR Z F3 H3 σ δ own := by
  refine ⟨le3, fun b o e => ?_, s2.old.trans sH3, s2.len, fun i sw ei => ?_, s2.nod, fun i p hp => ?_, s2.sep⟩
  · rcases fro3 b o e with z | z
    · exact s2.fro b o z
    · exact .inr (s2.old.free z)
  · obtain ⟨w, h1, h2⟩ := s2.at' i sw ei
    exact ⟨w, h1, h2.mono sF3⟩
  · obtain ⟨a, b, c⟩ := s2.ok i p hp
    refine ⟨?_, b, sH3 _ _ c⟩
    cases z : F3 p.1 with
    | none => rfl
    | some u =>
      rcases fro3 _ u z with y | y
      · rw [a] at y; cases y
      · rw [c] at y; cases y
end
structure SrcOk (src : List BSrc) (k : Nat) : Prop where
  acc : src[k]? = some .acc
  uni : ∀ i : Nat, src[i]? = some .acc → i = k
theorem block_sr {Z : Ent K} {F H : Hp} {σ : St} {δ : DSt} {own : Nat → Nodes} {src : List BSrc} {k : Nat} {acc : Addr} (S : SrcOk src k) (s : SR Z F H σ δ own) (ha : H acc = none) :
    SR (ent H F : Ent K) F (upd H acc (.lst [])) (bSt src σ acc) (bD src δ) (fun i => if i = k then [(acc, .lst [])] else []) := by
  have mem : ∀ {i : Nat} {p : Addr × HO}, p ∈ (if i = k then [(acc, HO.lst [])] else []) → i = k ∧ p = (acc, .lst []) := fun {i p} h => by
    by_cases hi : i = k
    · rw [if_pos hi] at h; exact ⟨hi, List.mem_singleton.mp h⟩
    · rw [if_neg hi] at h; exact nomatch h
  refine ⟨s.le.trans (same_new ha), fun b o e => .inl e, same_new ha, by unfold bSt bD; rw [List.length_map, List.length_map], fun i sv e => ?_, fun i => ?_, fun i p hp => ?_, fun i j p q hij hp hq => ?_⟩
  · unfold bD at e
    rw [List.getElem?_map] at e
    cases hq : src[i]? with
    | none => rw [hq] at e; cases e
    | some q =>
      rw [hq] at e
      have e : bDSlot δ q = some sv := Option.some.inj e
      cases q with
      | own => cases e
      | acc =>
        cases e
        have hi := S.uni i hq
        refine ⟨.ref acc, by unfold bSt; rw [List.getElem?_map, hq]; rfl, ?_⟩
        show Shape K F (.ol []) (.ref acc) (if i = k then [(acc, .lst [])] else [])
        rw [if_pos hi]
        exact .ol .nil
      | cap j =>
        have hi : i ≠ k := fun z => by rw [z, S.acc] at hq; cases hq
        unfold bDSlot at e
        dsimp only at e
        split at e
        · rename_i d hd
          cases e
          obtain ⟨v, h1, h2⟩ := s.at' j _ (join_some hd)
          refine ⟨v, by unfold bSt; rw [List.getElem?_map, hq]; show some (σ[j]?).join = _; rw [h1]; rfl, ?_⟩
          show Shape K F (.fz d) v (if i = k then [(acc, .lst [])] else [])
          rw [if_neg hi]
          exact .fz (shape_fz h2)
        · cases e
  · show (adr (if i = k then [(acc, HO.lst [])] else [])).Nodup
    by_cases hi : i = k
    · rw [if_pos hi]; exact nd1
    · rw [if_neg hi]; exact List.nodup_nil
  · obtain ⟨_, rfl⟩ := mem hp
    exact ⟨s.le.free ha, ha, upd_same⟩
  · obtain ⟨z, _⟩ := mem hp
    obtain ⟨y, _⟩ := mem hq
    exact absurd (z.trans y.symm) hij
theorem l_comp {Z : Ent K} {H : Hp} {σ : St} {Q : VK} {src : List BSrc} {k : Nat} {fi : FD} {g : FG} {tt : FT} {te : FE} (S : SrcOk src k) (hk : k ∉ g.tch) (h : liftE Z (compF src k fi g tt te) σ H Q) :
    tComp src (liftI Z fi) (xG K g) (xT K tt) (xE K te) σ H Q := by
  obtain ⟨F, δ, own, rv, δ', s, e, k0⟩ := h
  obtain ⟨⟨ds, δ1⟩, e1, e2⟩ := Option.bind_eq_some_iff.mp e
  obtain ⟨⟨cs, δ2⟩, e3, e4⟩ := Option.bind_eq_some_iff.mp e2
  obtain ⟨δf, e5, e6⟩ := Option.bind_eq_some_iff.mp e4
  refine ⟨F, δ, own, ds, δ1, s, e1, fun J H1 F1 own1 sH sF s1 yl acc ha => ?_⟩
  obtain ⟨F2, own2, sF2, s2⟩ := s1.caps (fun rv hr => by
    unfold DL.caps at hr
    obtain ⟨b, _, hb⟩ := List.mem_filterMap.mp hr
    cases b with
    | own => cases hb
    | acc => cases hb
    | cap j => cases hb; exact ⟨j, rfl⟩) e3
  have s3 := block_sr S s2 ha
  have hacc0 : (bSt src σ acc)[k]? = some (some (.ref acc)) := by unfold bSt; rw [List.getElem?_map, S.acc]; rfl
  refine ⟨fun i m σ' H => m = ds.length - i ∧ i ≤ ds.length ∧ σ'[k]? = some (some (.ref acc)) ∧ ∃ F δ own, Same F2 F ∧ SR (ent H1 F2 : Ent K) F H σ' δ own ∧ compD src k g tt te (ds.drop i) δ = some δf,
    ⟨ds.length, by simp, Nat.zero_le _, hacc0, F2, _, _, Same.refl F2, s3, e5⟩, ?_⟩
  rintro i m σ4 H4 ⟨rfl, hi, hacc, F4, δ4, own4, sF4, s4, ef⟩
  by_cases hlt : i < ds.length
  · have hd : ds[i]? = some ds[i] := by simp [hlt]
    obtain ⟨go, yy⟩ := (yl F4 H4 (sF2.trans sF4) s4.le i).1 _ hd
    rw [List.drop_eq_getElem_cons hlt] at ef
    obtain ⟨δ5, e7, e8⟩ := Option.bind_eq_some_iff.mp ef
    obtain ⟨⟨b, δ6⟩, e9, e10⟩ := Option.bind_eq_some_iff.mp e8
    refine .inr ⟨go, fun x H5 hy => ?_⟩
    obtain ⟨sm, ns, nd, hn, rp⟩ := yy x H5 hy
    obtain ⟨sFn, sn⟩ := s4.fresh sm nd hn
    refine ⟨(ent H1 F2 : Ent K), addL F4 ns, δ4, own4, _, δ5, sn, rp, e7, fun σ6 own6 s6 t6 => ⟨(ent H1 F2 : Ent K), addL F4 ns, δ5, own6, b, δ6, s6, e9, fun H7 F7 own7 sH7 sF7 s7 => ?_⟩⟩
    have hacc6 : σ6[k]? = some (some (.ref acc)) := (t6 k hk).trans hacc
    cases b with
    | false =>
      dsimp only
      rw [if_neg Bool.false_ne_true] at e10 ⊢
      exact ⟨ds.length - (i + 1), by omega, rfl, hlt, hacc6, F7, _, own7, sF4.trans (sFn.trans sF7), s7.forget (reset_len src δ6) (fun j sv hj => reset_get hj), e10⟩
    | true =>
      dsimp only
      rw [if_pos rfl] at e10 ⊢
      obtain ⟨⟨rv8, δ8⟩, e11, e12⟩ := Option.bind_eq_some_iff.mp e10
      obtain ⟨⟨d9, δ9⟩, e13, e14⟩ := Option.bind_eq_some_iff.mp e12
      refine ⟨(ent H1 F2 : Ent K), F7, δ6, own7, rv8, δ8, s7, e11, fun y H8 F8 own8 sH8 sF8 s8 r8 => ?_⟩
      obtain ⟨F9, sF9, s9, r9⟩ := s8.settleR r8
      obtain ⟨F10, own10, sF10, s10, r10⟩ := s9.frzR r9 e13
      dsimp only at e14
      split at e14
      · rename_i zs hz
        by_cases hzl : zs.length < PySem.sizeLine
        · rw [if_pos hzl] at e14
          obtain ⟨v', hv', sh'⟩ := s10.at' k _ hz
          rw [hacc6] at hv'; cases hv'
          obtain ⟨b, vs, eb, en', r'⟩ := shape_ol sh'
          cases eb
          have mb : (acc, HO.lst vs) ∈ own10 k := by rw [en']; exact List.mem_cons_self
          refine ⟨acc, vs, y, rfl, rfl, (s10.ok k _ mb).2.2, by rw [← r'.length]; exact hzl, ?_⟩
          have s11 := s10.change (sv' := .ol (zs ++ [d9])) (o' := .lst (vs ++ [y])) (ns' := [(acc, .lst (vs ++ [y]))]) hz hacc6 mb (.ol (r'.snoc r10)) (fun p hp => .inl (List.mem_singleton.mp hp)) nd1
          exact ⟨ds.length - (i + 1), by omega, rfl, hlt, hacc6, F10, _, _, sF4.trans (sFn.trans (sF7.trans (sF8.trans (sF9.trans sF10)))), s11.forget (reset_len src _) (fun j sv hj => reset_get hj), e14⟩
        · rw [if_neg hzl] at e14; cases e14
      · cases e14
  · have hz : i = ds.length := by omega
    subst hz
    rw [List.drop_length] at ef
    cases ef
    refine .inl ⟨(yl F4 H4 (sF2.trans sF4) s4.le _).2 (Nat.le_refl _), ?_⟩
    dsimp only at e6
    split at e6
    · rename_i ys hys
      cases e6
      obtain ⟨v', hv', sh'⟩ := s4.at' k _ hys
      rw [hacc] at hv'; cases hv'
      obtain ⟨b, vs, eb, en', r'⟩ := shape_ol sh'
      cases eb
      have mb : (acc, HO.lst vs) ∈ own4 k := by rw [en']; exact List.mem_cons_self
      obtain ⟨o1, o2, o3⟩ := s4.ok k _ mb
      refine k0 (.ref acc) H4 F4 own2 (sH.trans s4.old) (sF.trans (sF2.trans sF4)) (s2.after s4.old sF4 s4.le fun b o e => s4.fro b o e) ⟨[(acc, .lst vs)], .ol r', nd1, fun p hp => ?_, fun j p q hp hq e => ?_⟩
      · obtain rfl := List.mem_singleton.mp hp
        exact ⟨o1, s2.old.free ha, o3⟩
      · obtain rfl := List.mem_singleton.mp hp
        have z := (s2.ok j q hq).2.2
        have e' : acc = q.1 := e
        rw [← e', ha] at z; cases z
    · cases e6
end DL

/-! OPERATIONS upon values: what each tells, and that the layer's rule tells the same -/
namespace DL
open PySem PySem.Spec PyProof.Rows L2
variable {K : PySem.W.Frag}
variable {Z : Ent K}

/-! ### ints -/
@[simp] noncomputable def intI (f : Int → Int → D) : D → D → Option SV
  | .int i, .int j => some (.fz (f i j))
  | _, _ => none
@[simp] noncomputable def intC (C : Int → Int → Bool) (f : Int → Int → D) : D → D → Option SV
  | .int i, .int j => if C i j = true then some (.fz (f i j)) else none
  | _, _ => none
theorem p_rI0 {g : Int → Int → V} {f : Int → Int → D} (hr : ∀ F i j, Rep K F (f i j) (g i j)) : Prim2 Z (rI0 g) (intI f) := by
  intro F H σ δ own x y d1 d2 sv Q s r1 r2 e k
  unfold intI at e
  split at e
  · cases e
    exact ⟨_, _, r1.int, r2.int, k.fz s (hr _ _ _)⟩
  · cases e
theorem p_rI {C : Int → Int → Prop} {c : Int → Int → Bool} {g : Int → Int → V} {f : Int → Int → D} (hc : ∀ i j, c i j = true → C i j) (hr : ∀ F i j, Rep K F (f i j) (g i j)) : Prim2 Z (rI C g) (intC c f) := by
  intro F H σ δ own x y d1 d2 sv Q s r1 r2 e k
  unfold intC at e
  split at e
  · split at e
    · rename_i hcc
      cases e
      exact ⟨_, _, r1.int, r2.int, hc _ _ hcc, k.fz s (hr _ _ _)⟩
    · cases e
  · cases e
@[simp] noncomputable def subD : D → D → Option SV := intI fun i j => .int (i - j)
noncomputable def cMul (i j : Int) : Bool := (decide (-(2 ^ 64) < i) && decide (i < 2 ^ 64)) || (decide (-(2 ^ 64) < j) && decide (j < 2 ^ 64))
@[simp] noncomputable def mulD : D → D → Option SV := intC cMul fun i j => .int (i * j)
@[simp] noncomputable def cDiv (i j : Int) : Bool := decide (0 < j) && decide (j < 1073741824)
@[simp] noncomputable def fdivD : D → D → Option SV := intC cDiv fun i j => .int (i / j)
@[simp] noncomputable def cMod (i j : Int) : Bool := decide (0 < j)
@[simp] noncomputable def modD : D → D → Option SV := intC cMod fun i j => .int (i % j)
@[simp] noncomputable def cPow (i j : Int) : Bool := decide (0 ≤ j) && decide (j ≤ 1000000) && decide (i.natAbs < 2 ^ 64)
@[simp] noncomputable def powD : D → D → Option SV := intC cPow fun i j => .int (i ^ j.toNat)
theorem p_mul : Prim2 Z (rI CMul fun i j => V.int (i * j)) mulD := p_rI (fun i j h => by
  unfold cMul at h
  simp only [Bool.or_eq_true, Bool.and_eq_true, decide_eq_true_eq] at h
  exact h) fun _ _ _ => .int _
theorem p_fdiv : Prim2 Z (rI CDiv fun i j => V.int (i / j)) fdivD := p_rI (fun i j h => by
  unfold cDiv at h
  simp only [Bool.and_eq_true, decide_eq_true_eq] at h
  exact h) fun _ _ _ => .int _
theorem p_mod : Prim2 Z (rI (fun _ j => 0 < j) fun i j => V.int (i % j)) modD := p_rI (fun i j h => by
  unfold cMod at h
  simp only [decide_eq_true_eq] at h
  exact h) fun _ _ _ => .int _
@[simp] noncomputable def ltD : D → D → Option SV := intI fun i j => .bl (decide (i < j))
@[simp] noncomputable def leD : D → D → Option SV := intI fun i j => .bl (decide (i ≤ j))
@[simp] noncomputable def gtD : D → D → Option SV := intI fun i j => .bl (decide (j < i))
@[simp] noncomputable def geD : D → D → Option SV := intI fun i j => .bl (decide (j ≤ i))
theorem p_lt : Prim2 Z (rI0 fun i j => V.bl (decide (i < j))) ltD := p_rI0 fun _ _ _ => .bl _
theorem p_le : Prim2 Z (rI0 fun i j => V.bl (decide (i ≤ j))) leD := p_rI0 fun _ _ _ => .bl _

/-! ### + -/
noncomputable def rStr : R2 := fun x y H Q => ∃ i j, x = .str i ∧ y = .str j ∧ i.length + j.length ≤ PySem.sizeLine ∧ Q (.str (i ++ j)) H
noncomputable def rCatR (K : PySem.W.Frag) : R2 := fun x y H Q => ∃ l b xs zs, x = .ref l ∧ y = .ref b ∧ SqL K H l xs ∧ SqL K H b zs ∧ xs.length + zs.length ≤ PySem.sizeLine ∧ ∀ p, H p = none → Q (.ref p) (upd H p (.lst (xs ++ zs)))
theorem op_catR {X : Cx} : OpR X (binaryOp .Add) (rCatR X.K) := by
  intro pins s σ H x y v u Q I rx ry h
  obtain ⟨l, b, xs, zs, rfl, rfl, hH, hB, hz, q⟩ := h
  cases rx
  cases ry
  obtain ⟨its, r, pl, z⟩ := I.list hH
  obtain ⟨its2, r2, pl2, z2⟩ := I.list hB
  have hl := r.length
  have hl2 := r2.length
  obtain ⟨⟨cls, dd, data, sl⟩, ho, hc, n, hd⟩ := pl.isList
  obtain ⟨⟨cls2, dd2, data2, sl2⟩, ho2, hc2, n2, hd2⟩ := pl2.isList
  simp only at hc hd hc2 hd2
  subst hc hd hc2 hd2
  have ea : its.toArray ++ its2.toArray = (its ++ its2).toArray := by simp
  refine concat_meets ⟨_, ho, rfl⟩ ⟨_, ho2, rfl⟩ noFill_list_add seq_list_add PySem.F.slot_list_add PySem.F.entry_list_add (PySem.F.args_list_add_2 _ _) (list_addW l b its.toArray its2.toArray n n2 dd dd2 sl sl2 (by rw [List.size_toArray, List.size_toArray]; omega)) ⟨ho, ho2, ?_⟩
  rw [ea]
  exact ⟨.ref _, _, I.lnew (t' := s.toks) (r.append r2) (by rw [List.length_append]; omega), rfl, q _ I.fresh⟩
noncomputable def rAdd3 (K : PySem.W.Frag) : R2 := fun x y H Q => rI0 (fun i j => V.int (i + j)) x y H Q ∨ (rStr x y H Q ∨ rCatR K x y H Q)
theorem op_add3 {X : Cx} : OpR X (binaryOp .Add) (rAdd3 X.K) := op_add.or (op_add_str.or op_catR)
@[simp] noncomputable def addD : D → D → Option SV
  | .int i, .int j => some (.fz (.int (i + j)))
  | .str x, .str y => if x.length + y.length ≤ PySem.sizeLine then some (.fz (.str (x ++ y))) else none
  | .lst xs, .lst ys => if xs.length + ys.length ≤ PySem.sizeLine then some (.ol (xs ++ ys)) else none
  | _, _ => none
theorem p_add : Prim2 Z (rAdd3 K) addD := by
  intro F H σ δ own x y d1 d2 sv Q s r1 r2 e k
  unfold addD at e
  split at e
  · cases e
    exact .inl ⟨_, _, r1.int, r2.int, k.fz s (.int _)⟩
  · split at e
    · rename_i hz
      cases e
      exact .inr (.inl ⟨_, _, r1.str, r2.str, hz, k.fz s (.str _)⟩)
    · cases e
  · split at e
    · rename_i hz
      cases e
      obtain ⟨a, vs, ex, ha, ra⟩ := r1.lst s.le
      obtain ⟨b, us, ey, hb, rb⟩ := r2.lst s.le
      exact .inr (.inr ⟨a, b, vs, us, ex, ey, ha, hb, by rw [← ra.length, ← rb.length]; exact hz, fun p hp => k.lst s (ra.append rb) hp⟩)
    · cases e
  · cases e

/-! ### == of scalars -/
@[simp] noncomputable def eqS : D → D → Option Bool
  | .non, .non => some true
  | .non, .int _ => some false
  | .int _, .non => some false
  | .non, .bl _ => some false
  | .bl _, .non => some false
  | .non, .str _ => some false
  | .str _, .non => some false
  | .int i, .int j => some (decide (i = j))
  | .bl i, .bl j => some (decide (i = j))
  | .str i, .str j => some (decide (i = j))
  | .int _, .str _ => some false
  | .str _, .int _ => some false
  | .bl _, .str _ => some false
  | .str _, .bl _ => some false
  | _, _ => none
theorem eqS_ok {F H : Hp} {d1 d2 : D} {x y : V} {b : Bool} (e : eqS d1 d2 = some b) (r1 : RepN K F H d1 x) (r2 : RepN K F H d2 y) : scal x y = true ∧ b = decide (x = y) := by
  unfold eqS at e
  split at e <;> cases e
  · rw [r1.non, r2.non]; exact ⟨rfl, by simp⟩
  · rw [r1.non, r2.int]; exact ⟨rfl, by simp⟩
  · rw [r1.int, r2.non]; exact ⟨rfl, by simp⟩
  · rw [r1.non, r2.bl]; exact ⟨rfl, by simp⟩
  · rw [r1.bl, r2.non]; exact ⟨rfl, by simp⟩
  · rw [r1.non, r2.str]; exact ⟨rfl, by simp⟩
  · rw [r1.str, r2.non]; exact ⟨rfl, by simp⟩
  · rw [r1.int, r2.int]; exact ⟨rfl, by simp⟩
  · rw [r1.bl, r2.bl]; exact ⟨rfl, by simp⟩
  · rw [r1.str, r2.str]; exact ⟨rfl, by simp⟩
  · rw [r1.int, r2.str]; exact ⟨rfl, by simp⟩
  · rw [r1.str, r2.int]; exact ⟨rfl, by simp⟩
  · rw [r1.bl, r2.str]; exact ⟨rfl, by simp⟩
  · rw [r1.str, r2.bl]; exact ⟨rfl, by simp⟩
@[simp] noncomputable def eqD (d1 d2 : D) : Option SV := (eqS d1 d2).bind fun b => some (.fz (.bl b))
@[simp] noncomputable def neD (d1 d2 : D) : Option SV := (eqS d1 d2).bind fun b => some (.fz (.bl (!b)))
theorem p_eq : Prim2 Z rEq eqD := by
  intro F H σ δ own x y d1 d2 sv Q s r1 r2 e k
  obtain ⟨b, e1, e2⟩ := Option.bind_eq_some_iff.mp e
  cases e2
  obtain ⟨h1, h2⟩ := eqS_ok e1 r1 r2
  subst h2
  exact ⟨h1, k.fz s (.bl _)⟩
theorem p_ne : Prim2 Z rNe neD := by
  intro F H σ δ own x y d1 d2 sv Q s r1 r2 e k
  obtain ⟨b, e1, e2⟩ := Option.bind_eq_some_iff.mp e
  cases e2
  obtain ⟨h1, h2⟩ := eqS_ok e1 r1 r2
  subst h2
  exact ⟨h1, k.fz s (.bl _)⟩
@[simp] noncomputable def D.isNon : D → Bool
  | .non => true
  | _ => false
theorem isNon_ok {F H : Hp} {d : D} {x : V} (r : RepN K F H d x) : decide (x = .non) = d.isNon := by
  cases d with
  | non => rw [r.non]; rfl
  | bl b => rw [r.bl]; rfl
  | int i => rw [r.int]; rfl
  | str i => rw [r.str]; rfl
  | exc c ks vs =>
    obtain ⟨sv, ns, e, n, sh, hp⟩ := r
    cases sh with
    | fz r => cases e; cases r <;> rfl
    | ol r => cases e
    | oK e' r => cases e
    | oT e' r => cases e
    | oN e' r => cases n
  | tup xs =>
    obtain ⟨sv, ns, e, n, sh, hp⟩ := r
    cases sh with
    | fz r => cases e; cases r; rfl
    | ol r => cases e
    | oK e' r => cases e
    | oT e' r => cases e
    | oN e' r => cases n
  | lst xs =>
    obtain ⟨sv, ns, e, n, sh, hp⟩ := r
    cases sh with
    | fz r => cases e; cases r; rfl
    | ol r => rfl
    | oK e' r => rfl
    | oT e' r => rfl
    | oN e' r => rfl
  | dK ks vs =>
    obtain ⟨sv, ns, e, n, sh, hp⟩ := r
    cases sh with
    | fz r => cases e; cases r; rfl
    | ol r => rfl
    | oK e' r => rfl
    | oT e' r => rfl
    | oN e' r => rfl
  | dT ks vs =>
    obtain ⟨sv, ns, e, n, sh, hp⟩ := r
    cases sh with
    | fz r => cases e; cases r; rfl
    | ol r => rfl
    | oK e' r => rfl
    | oT e' r => rfl
    | oN e' r => rfl
@[simp] noncomputable def isND (d1 d2 : D) : Option SV := if d2.isNon = true then some (.fz (.bl d1.isNon)) else none
@[simp] noncomputable def notND (d1 d2 : D) : Option SV := if d2.isNon = true then some (.fz (.bl (!d1.isNon))) else none
theorem isNon_eq {d : D} (h : d.isNon = true) : d = .non := by cases d <;> first | rfl | cases h
theorem p_isN : Prim2 Z (fun x y H Q => y = V.non ∧ Q (.bl (decide (x = .non))) H) isND := by
  intro F H σ δ own x y d1 d2 sv Q s r1 r2 e k
  unfold isND at e
  split at e
  · rename_i h
    cases e
    have := isNon_eq h
    subst this
    exact ⟨r2.non, by rw [isNon_ok r1]; exact k.fz s (.bl _)⟩
  · cases e

/-! ### a[i] -/
theorem Reps.atI {F : Hp} {xs : List D} {vs : List V} {i : Int} {d : D} (r : Reps K F xs vs) (e : L2.atI xs i = some d) : ∃ v, L2.atI vs i = some v ∧ Rep K F d v := by
  unfold L2.atI at e ⊢
  obtain ⟨j, e1, e2⟩ := Option.bind_eq_some_iff.mp e
  obtain ⟨v, h1, h2⟩ := r.get e2
  exact ⟨v, Option.bind_eq_some_iff.mpr ⟨j, by rw [← r.length]; exact e1, h1⟩, h2⟩
@[simp] noncomputable def ixD : D → D → Option SV
  | .lst xs, .int i => (L2.atI xs i).bind fun d => some (.fz d)
  | .tup xs, .int i => (L2.atI xs i).bind fun d => some (.fz d)
  | .str z, .int i => if z.length ≤ PySem.sizeLine then (L2.atI z.cps.toList i).bind fun c => some (.fz (.str ⟨#[c]⟩)) else none
  | _, _ => none
theorem p_ix : Prim2 Z (rIx K) ixD := by
  intro F H σ δ own x y d1 d2 sv Q s r1 r2 e k
  unfold ixD at e
  split at e
  · obtain ⟨d, e1, e2⟩ := Option.bind_eq_some_iff.mp e
    cases e2
    obtain ⟨a, vs, ex, ha, ra⟩ := r1.lst s.le
    obtain ⟨v, h1, h2⟩ := ra.atI e1
    exact .inl ⟨a, vs, _, v, ex, r2.int, ha, h1, k.fz s h2⟩
  · obtain ⟨d, e1, e2⟩ := Option.bind_eq_some_iff.mp e
    cases e2
    obtain ⟨a, vs, ex, ha, ra⟩ := r1.tup s.le
    obtain ⟨v, h1, h2⟩ := ra.atI e1
    exact .inr (.inl ⟨a, vs, _, v, ex, r2.int, ha, h1, k.fz s h2⟩)
  · split at e
    · rename_i hz
      obtain ⟨c, e1, e2⟩ := Option.bind_eq_some_iff.mp e
      cases e2
      exact .inr (.inr ⟨_, _, c, r1.str, r2.int, hz, e1, k.fz s (.str _)⟩)
    · cases e
  · cases e
/-! ### slices -/
noncomputable abbrev FO := DSt → Option (Option Int × DSt)
noncomputable def liftO (Z : Ent K) (f : FO) : TO := fun σ H Q => ∃ F δ own o δ', SR Z F H σ δ own ∧ f δ = some (o, δ') ∧ ∀ H' F' own', Same H H' → Same F F' → SR Z F' H' σ δ' own' → Q o H'
@[simp] noncomputable def noPart : FO := fun δ => some (none, δ)
@[simp] noncomputable def partF (fe : FE) : FO := fun δ => (fe δ).bind fun p => match p.1 with
  | .tmp (.fz (.int i)) => some (some i, p.2)
  | _ => none
section
variable {H : Hp} {σ : L2.St} {Q : VK} {R : Option Int → Hp → Prop}
theorem l_noPart (h : liftO Z noPart σ H R) : tNoPart σ H R := by
  obtain ⟨F, δ, own, o, δ', s, e, k⟩ := h
  cases e
  exact k H F own (Same.refl H) (Same.refl F) s
theorem l_part {fe : FE} (h : liftO Z (partF fe) σ H R) : tPart (liftE Z fe) σ H R := by
  obtain ⟨F, δ, own, b, δ', s, e, k⟩ := h
  obtain ⟨⟨rv, δ1⟩, e1, e2⟩ := Option.bind_eq_some_iff.mp e
  refine ⟨F, δ, own, rv, δ1, s, e1, fun v H1 F1 own1 sH sF s1 r1 => ?_⟩
  dsimp only at e2
  split at e2
  · cases e2
    obtain ⟨ns, t⟩ := r1
    cases shape_fz t.sh
    exact ⟨_, rfl, k H1 F1 own1 sH sF s1⟩
  · cases e2
@[simp] noncomputable def slF (g : D → Option Int → Option Int → Option SV) (fe : FE) (fl fh : FO) : FE := fun δ => (fe δ).bind fun p => (fl p.2).bind fun l => (fh l.2).bind fun h => (rdv p.1 h.2).bind fun d => (g d l.1 h.1).bind fun sv => some (.tmp sv, h.2)
noncomputable def PrimS (Z : Ent K) (r : V → Option Int → Option Int → Hp → VK → Prop) (g : D → Option Int → Option Int → Option SV) : Prop :=
  ∀ (F H : Hp) (σ : L2.St) (δ : DSt) (own : Nat → Nodes) (x : V) (d : D) (lo hi : Option Int) (sv : SV) (Q : VK), SR Z F H σ δ own → RepN K F H d x → g d lo hi = some sv → Fin Z F H σ δ own sv Q → r x lo hi H Q
theorem l_sl {r : V → Option Int → Option Int → Hp → VK → Prop} {g : D → Option Int → Option Int → Option SV} {fe : FE} {fl fh : FO} (hg : PrimS Z r g) (h : liftE Z (slF g fe fl fh) σ H Q) : tSl r (liftE Z fe) (liftO Z fl) (liftO Z fh) σ H Q := by
  obtain ⟨F, δ, own, rv, δ', s, e, k⟩ := h
  obtain ⟨⟨rv1, δ1⟩, e1, e⟩ := Option.bind_eq_some_iff.mp e
  obtain ⟨⟨lo, δ2⟩, e2, e⟩ := Option.bind_eq_some_iff.mp e
  obtain ⟨⟨hi, δ3⟩, e3, e⟩ := Option.bind_eq_some_iff.mp e
  obtain ⟨d, e4, e⟩ := Option.bind_eq_some_iff.mp e
  obtain ⟨sv, e5, e⟩ := Option.bind_eq_some_iff.mp e
  cases e
  refine ⟨F, δ, own, rv1, δ1, s, e1, fun v H1 F1 own1 sH1 sF1 s1 r1 => ?_⟩
  obtain ⟨F1', sF1', s1', r1'⟩ := s1.settleR r1
  refine ⟨F1', δ1, own1, lo, δ2, s1', e2, fun H2 F2 own2 sH2 sF2 s2 => ⟨F2, δ2, own2, hi, δ3, s2, e3, fun H3 F3 own3 sH3 sF3 s3 => ?_⟩⟩
  exact hg F3 H3 σ δ3 own3 v d lo hi sv Q s3 (s3.rd (r1'.mono (sF2.trans sF3)) e4) e5 fun q H4 F4 ns sH4 sF4 s4 t4 =>
    k q H4 F4 own3 (sH1.trans (sH2.trans (sH3.trans sH4))) (sF1.trans (sF1'.trans (sF2.trans (sF3.trans sF4)))) s4 ⟨ns, t4⟩
end
noncomputable def cutD (xs : List D) (lo hi : Option Int) : List D := (xs.drop (HT.sIx xs.length 0 lo)).take (HT.sIx xs.length xs.length hi - HT.sIx xs.length 0 lo)
theorem Reps.cut {F : Hp} {xs : List D} {vs : List V} (r : Reps K F xs vs) (lo hi : Option Int) : Reps K F (cutD xs lo hi) (cutV vs lo hi) := by
  unfold cutD cutV
  rw [r.length]
  exact (r.drop _).take _
noncomputable def rSlS : V → Option Int → Option Int → Hp → VK → Prop := fun x lo hi H Q => ∃ z, x = .str z ∧ z.length ≤ PySem.sizeLine ∧ Q (.str (Txt.slice z lo hi)) H
theorem sl_str {X : Cx} : SlR X rSlS := by
  intro pins s σ H x v vl vu lo hi sl Q I rx hs pl pu h
  obtain ⟨z, rfl, hz, q⟩ := h
  obtain ⟨t, rfl⟩ := rx
  refine ⟨"str", _, F.slot_str_getitem.lookup, typeIs_str _ _ _, ?_⟩
  have fin : ∀ (t' : Tok) (k : Nat), EP X pins σ Q (.str (Txt.slice z lo hi) t') { s with toks := k } := fun t' k => ⟨.str (Txt.slice z lo hi), H, I.tok _, ⟨_, rfl⟩, q⟩
  cases pl with
  | none => cases pu with
    | none => exact wpAny_getItem_str_slice (l := none) (u := none) (st := none) hs rfl (post_val_or_str ⟨Nat.le_trans (Txt.slice_le z _ _) hz, fin⟩)
    | int j tj => exact wpAny_getItem_str_slice (l := none) (u := some (j, tj)) (st := none) hs rfl (post_val_or_str ⟨Nat.le_trans (Txt.slice_le z _ _) hz, fin⟩)
  | int i ti => cases pu with
    | none => exact wpAny_getItem_str_slice (l := some (i, ti)) (u := none) (st := none) hs rfl (post_val_or_str ⟨Nat.le_trans (Txt.slice_le z _ _) hz, fin⟩)
    | int j tj => exact wpAny_getItem_str_slice (l := some (i, ti)) (u := some (j, tj)) (st := none) hs rfl (post_val_or_str ⟨Nat.le_trans (Txt.slice_le z _ _) hz, fin⟩)
@[simp] noncomputable def slD : D → Option Int → Option Int → Option SV
  | .lst xs, lo, hi => some (.ol (cutD xs lo hi))
  | .str z, lo, hi => if z.length ≤ PySem.sizeLine then some (.fz (.str (Txt.slice z lo hi))) else none
  | _, _, _ => none
theorem p_sl : PrimS Z (fun x lo hi H Q => rSlL K x lo hi H Q ∨ rSlS x lo hi H Q) slD := by
  intro F H σ δ own x d lo hi sv Q s r1 e k
  unfold slD at e
  split at e
  · cases e
    obtain ⟨a, vs, ex, ha, ra⟩ := r1.lst s.le
    exact .inl ⟨a, vs, ex, ha, fun p hp => k.lst s (ra.cut _ _) hp⟩
  · split at e
    · rename_i hz
      cases e
      exact .inr ⟨_, r1.str, hz, k.fz s (.str _)⟩
    · cases e
  · cases e
end DL

/-! MORE of the layer: what is walked, methods of texts, isinstance; and the rules by values -/
namespace L2
open PySem PySem.Spec PyProof.Rows
section
variable {X : Cx} {tg : Expr}

/-! ### enumerate(list) -/
noncomputable def Ite (K : PySem.W.Frag) (a : Addr) : It :=
  ⟨fun i H => ∃ xs x, SqL K H a xs ∧ xs[i]? = some x, fun i H x H' => ∃ p v, x = .ref p ∧ H p = none ∧ H' = upd H p (.tup [.int (i : Nat), v]) ∧ ∀ xs, SqL K H a xs → xs[i]? = some v, fun i H => ∃ xs, SqL K H a xs ∧ xs.length ≤ i⟩
theorem Inv.turnedT {pins : List (Addr × Obj)} {σ : L2.St} {H : Hp} {s : Shared} {h' : Heap} {t' : Nat} {e it T : Addr} {xs : List V} {its : List Value} (I : Inv X pins σ H s) (k : ∀ b o, b ≠ e → b ≠ it → s.heap.get? b = some o → h'.get? b = some o)
    (f1 : FpOk X pins H e) (f2 : FpOk X pins H it) (hT : T = s.heap.objs.size) (ht : IsTup h' T its.toArray) (rv : Vals xs its) (hz : xs.length ≤ sizeLine) (he : ∃ o, h'.get? e = some o) (hi : ∃ o, h'.get? it = some o) :
    Inv X pins σ (upd H T (.tup xs)) { s with heap := h', toks := t' } := by
  have hTn : H T = none := by rw [hT]; exact I.hok.fresh (Nat.le_refl _)
  have neT : ∀ b o, s.heap.get? b = some o → b ≠ T := fun b o q => by rw [hT]; exact Nat.ne_of_lt (Heap.lt_size q)
  have ntr : ∀ b u, H b = some u → b ≠ e ∧ b ≠ it := fun b u q => ⟨(fun z => by rw [z, f1.1] at q; cases q), (fun z => by rw [z, f2.1] at q; cases q)⟩
  refine I.step (g' := s.gens) (d' := s.drawn) (ch := [e, it]) (fun b hb => ?_) (fun b o _ _ hc q _ => k b o (fun z => hc (by simp [z])) (fun z => hc (by simp [z])) q)
    (fun b o _ _ hc q _ => ⟨o.slots, k b o (fun z => hc (by simp [z])) (fun z => hc (by simp [z])) q⟩) (fun b o _ q n => by rw [upd_ne (neT b o q)]; exact n)
    (fun b o hc q => ⟨o, k b o (fun z => hc (by simp [z])) (fun z => hc (by simp [z])) q⟩) (fun b ys q => by rw [upd_ne (ne_of_none q hTn)]; exact q) (fun b o u q => by rw [upd_ne (ne_of_none q hTn)]; exact q)
    (fun b ps q => ⟨#[], by rw [upd_ne (ne_of_none q hTn), q]; simp⟩) (fun m hm => ?_) (fun b u q => ?_) I.bare
  · have hb' : b = e ∨ b = it := by simpa using hb
    rcases hb' with z | z
    · subst z; obtain ⟨_, a1, _, a3, a4, a5⟩ := f1; exact ⟨a3, a1, a4, a5⟩
    · subst z; obtain ⟨_, a1, _, a3, a4, a5⟩ := f2; exact ⟨a3, a1, a4, a5⟩
  · obtain ⟨o, es, ep, ho, r⟩ := hm
    exact ⟨o, es, ep, k _ o (Ne.symm f1.2.1) (Ne.symm f2.2.1) ho, r⟩
  · by_cases hb : b = T
    · subst hb
      rw [upd_same] at q; cases q
      exact ⟨hz, its, rv, ht⟩
    · rw [upd_ne hb] at q
      refine (I.hok b u q).stay (fun c v hc z => ?_) (fun c z => by rw [upd_ne (ne_of_none z hTn)]; exact z) fun c ys z => by rw [upd_ne (ne_of_none z hTn)]; exact z
      rcases hc with y | y
      · rw [y] at z ⊢; exact k _ _ (ntr b u q).1 (ntr b u q).2 z
      · exact k _ _ (ntr c _ y).1 (ntr c _ y).2 z
theorem turn_enum {P : Program} {w : World} {K : PySem.W.Frag} {elts : List Expr} {kk : Nat} {tpos : Pos} (a e it : Addr) (hei : e ≠ it) : Turn P w K (.Tuple elts kk tpos) (Ite K a) [e, it] e (fun i h => (∃ old, IsEnum h e it ((i : Nat) : Int) old) ∧ h.IsListIter it a i) where
  mem := by simp
  obj := fun i h st b hb => by
    have hb' : b = e ∨ b = it := by simpa using hb
    rcases hb' with z | z
    · subst z
      obtain ⟨old, q⟩ := st.1
      exact ⟨_, q, fun v y => by
        have y' : Data.fields _ = Data.cell v := y
        cases y'⟩
    · subst z
      obtain ⟨o, q, c, d⟩ := st.2
      exact ⟨o, q, fun v y => by rw [d] at y; cases y⟩
  keep := fun i h h' st k => ⟨let ⟨old, q⟩ := st.1; ⟨old, k e (by simp) _ q⟩, st.2.at fun o q => k it (by simp) o q⟩
  item := by
    intro X hP hw hK hc i pins s σ H E I hf st hg
    subst hP hw hK
    obtain ⟨xs, x, hq, hx⟩ := hg
    obtain ⟨its, rv, p, hz⟩ := I.list hq
    obtain ⟨u, hu, ru⟩ := rv.get hx
    obtain ⟨⟨old, he⟩, hit⟩ := st
    have hl : s.heap.IsList a its.toArray := p.isList
    have ai : a ≠ it := fun z => by
      obtain ⟨o1, q1, c1, _⟩ := hit
      obtain ⟨o2, q2, c2, _⟩ := hl
      rw [z, q1] at q2; cases q2
      rw [c1] at c2; exact absurd c2 (by decide)
    have ae : e ∉ [it, a] := fun z => by
      have z' : e = it ∨ e = a := by simpa using z
      rcases z' with z | z
      · exact hei z
      · obtain ⟨o2, q2, c2, _⟩ := hl
        rw [← z, he] at q2; cases q2; exact absurd (show Value.type "enumerate" = Value.type "list" from c2) (by decide)
    have D := Draws.list (prog := X.prog) (w := X.w) (A := X.A.in1) (by first | exact I.ok.hd hc | (rw [show X.A.in1.handled = X.A.handled from rfl]; exact I.ok.hd hc)) it a ai its.toArray
    have hlt : i < its.toArray.size := by
      have := (List.getElem?_eq_some_iff.mp hu).1
      rw [List.size_toArray]; exact this
    refine wpAny_pyNext_enum_itemD D he ⟨hit, hl⟩ hlt hei ae fun y h' tk hy hout st' hT hsz hk => ⟨.ref s.heap.objs.size, rfl, ?_⟩
    refine wpAny_letOwnedTupleGo_enum hout fun h2 he2 hs2 => ?_
    have hy' : its.toArray[i]? = some y := hy
    have ey : y = u := by
      have : its[i]? = some y := by simpa using hy'
      rw [hu] at this; cases this; rfl
    subst ey
    have kk : ∀ b o, b ≠ e → b ≠ it → s.heap.get? b = some o → h2.get? b = some o := fun b o h1 h3 q => (hs2.2 b h1).trans (hk b o h1 h3 q)
    have neT : s.heap.objs.size ≠ e := Nat.ne_of_gt (Heap.lt_size he)
    have I2 := I.turnedT (h' := h2) (t' := tk + 1) (e := e) (it := it) (T := s.heap.objs.size) (xs := [.int (i : Nat), x]) (its := [.int i tk, y]) kk (hf e (by simp)) (hf it (by simp)) rfl ⟨_, (hs2.2 _ neT).trans hT, rfl, _, rfl⟩ (.cons ⟨tk, rfl⟩ (.cons ru .nil)) (by show 2 ≤ sizeLine; decide)
      ⟨_, he2⟩ (let ⟨o, q, _⟩ := st'.1; ⟨o, (hs2.2 it (Ne.symm hei)).trans q⟩)
    refine ⟨.ref s.heap.objs.size, _, I2, rfl, ⟨s.heap.objs.size, x, rfl, I.hok.fresh (Nat.le_refl _), rfl, fun ys hy2 => by rw [I.list_inj hy2 hq]; exact hx⟩, ⟨⟨_, he2⟩, st'.1.at fun o q => (hs2.2 it (Ne.symm hei)).trans q⟩, fun b hb => ?_⟩
    rw [upd_ne fun z => ?_]
    · exact (hf b hb).1
    · have hb' : b = e ∨ b = it := by simpa using hb
      rcases hb' with y | y
      · rw [← z, y] at neT; exact neT rfl
      · obtain ⟨o, q, _⟩ := hit
        rw [y] at z
        exact absurd (Heap.lt_size q) (by rw [z]; exact Nat.lt_irrefl _)
  done := by
    intro X hP hw hK hc i pins s σ H E I hf st hg
    subst hP hw hK
    obtain ⟨xs, hq, hx⟩ := hg
    obtain ⟨its, rv, p, hz⟩ := I.list hq
    obtain ⟨⟨old, he⟩, hit⟩ := st
    obtain ⟨f0, f1, f2, f3, f4, f5⟩ := hf it (by simp)
    have hl := rv.length
    exact wpAny_pyNext_enum_end (I.ok.hd hc) he hit p.isList (by simp; omega) fun h' eb => ⟨rfl, I.turned (t' := s.toks) (fun b o hb q => eb b o hb q) f0 f1 f3 f4 f5⟩
  self := fun _ _ _ _ _ st h => let ⟨⟨old, he⟩, _⟩ := st; wpAny_pyIter_enum he h
noncomputable def iEnum (K : PySem.W.Frag) (ta : TA) : TI := fun σ H R => ta σ H fun vs H1 => ∃ a xs, vs = [.ref a] ∧ SqL K H1 a xs ∧ R (Ite K a) H1
theorem pi_enum {l : Expr} {elts : List Expr} {kk : Nat} {tpos p pos : Pos} {ta : TA} (hg : Gl X "enumerate") (hm : X.mg "enumerate" = none) (ha : PA X [l] ta) (hs : starEach [l] X.env = [(false, eval l X.env)] := by rfl) :
    PI X (.Tuple elts kk tpos) (.Call (.Name "enumerate" p) [l] [] pos) (iEnum X.K ta) := by
  intro pins s σ H R I h
  refine Call_ (ld_blt I hg hm boot_enumerate (PyProof.Rows.callWith_type1 (thn (ha pos pins s σ H _ I h) fun us s1 ⟨vs, H1, I1, r1, q1⟩ => ?_) hs rfl))
  obtain ⟨a, xs, e, hq, q⟩ := q1
  subst e
  obtain ⟨u, rfl, ru⟩ := vals1 r1
  cases ru
  obtain ⟨its, rv, p, hz⟩ := I1.list hq
  refine call_enumerate_list p.isList fun h' he hit hsz hk => wpAny_pyIter_enum he ?_
  have I2 : Inv X pins σ H1 { s1 with heap := h' } := I1.kept (t' := s1.toks) hk
  refine ⟨s1.heap.objs.size + 1, [s1.heap.objs.size + 1, s1.heap.objs.size], _, _, H1, rfl, I2, turn_enum a _ _ (Nat.succ_ne_self _), ⟨⟨.none, by simpa using he⟩, hit⟩, fun b hb => ?_, q⟩
  have hb' : b = s1.heap.objs.size + 1 ∨ b = s1.heap.objs.size := by simpa using hb
  rcases hb' with z | z
  · subst z; exact I1.fpOk (Nat.le_succ _) (I1.hok.fresh (Nat.le_succ _))
  · subst z; exact I1.fpOk (Nat.le_refl _) (I1.hok.fresh (Nat.le_refl _))

/-! ### join, isinstance -/
theorem strs_of : ∀ {xs : List Str} {us : List Value}, Vals (xs.map V.str) us → ∃ l : List (Str × Tok), us = strValues l ∧ l.map (·.1) = xs
  | [], _, r => by rw [List.map_nil] at r; cases r; exact ⟨[], rfl, rfl⟩
  | x :: xs, _, r => by
    rw [List.map_cons] at r
    cases r with
    | cons h t =>
      obtain ⟨tk, rfl⟩ := h
      obtain ⟨l, e1, e2⟩ := strs_of t
      exact ⟨(x, tk) :: l, by rw [e1]; rfl, by rw [List.map_cons, e2]⟩
noncomputable def rJoin (K : PySem.W.Frag) : V → List V → Hp → VK → Prop := fun x xs H Q => ∃ sep p ys, x = .str sep ∧ xs = [.ref p] ∧ SqL K H p (ys.map V.str) ∧ JoinOk sep ys = true ∧ Q (.str (Txt.join sep ys)) H
theorem mt_join : MtR X "str.join" (rJoin X.K) := by
  intro pins s σ H x xs v us Q I rx rs h
  obtain ⟨sep, p, ys, rfl, rfl, hq, hok, q⟩ := h
  obtain ⟨t, rfl⟩ := rx
  obtain ⟨u, rfl, ru⟩ := vals1 rs
  cases ru
  obtain ⟨its, rv, pl, hz⟩ := I.list hq
  obtain ⟨l, e1, e2⟩ := strs_of rv
  subst e1
  exact SC.join pl.isList e2 hok fun t' k => ⟨.str (Txt.join sep ys), H, I.tok _, ⟨_, rfl⟩, q⟩
inductive TyX (K : PySem.W.Frag) (H : Hp) : V → String → Prop where
  | non : TyX K H .non "NoneType"
  | bl (x : Bool) : TyX K H (.bl x) "bool"
  | int (i : Int) : TyX K H (.int i) "int"
  | str (x : Str) : TyX K H (.str x) "str"
  | lst {a : Addr} {xs : List V} (e : SqL K H a xs) : TyX K H (.ref a) "list"
  | tup {a : Addr} {xs : List V} (e : SqT K H a xs) : TyX K H (.ref a) "tuple"
  | dK {a : Addr} {kvs : List (Key × V)} (e : H a = some (.dK kvs)) : TyX K H (.ref a) "dict"
  | dT {a : Addr} {kvs : List (List Key × V)} (e : H a = some (.dT kvs)) : TyX K H (.ref a) "dict"
theorem isinst_X {pins : List (Addr × Obj)} {σ : L2.St} {H : Hp} {s : Shared} {A : Around} {E : Value → Shared → Prop} {Q : Value → Shared → Prop} {c : Value} {b : Bool} {x : V} {u : Value} {T : String} (I : Inv X pins σ H s) (rx : RelV x u) (ty : TyX X.K H x T) (e : PySem.W.kitOne X.K (.type T) c = some b) (h : ∀ tk, Q (.bool b) { s with toks := tk }) :
    wpAny (model X.prog X.w) A (call (.builtin "isinstance") [u, c]) Q E s := by
  cases ty with
  | non => cases (show u = Value.none from rx); exact PySem.W.kia_one PySem.W.kitx_none I.kIn True.intro e (fun z => nomatch z) h
  | bl y => cases (show u = Value.bool y from rx); exact PySem.W.kia_one PySem.W.kitx_bool I.kIn True.intro e (fun z => nomatch z) h
  | int i => obtain ⟨t, q⟩ := (show ∃ t, u = Value.int i t from rx); cases q; exact PySem.W.kia_one PySem.W.kitx_int I.kIn True.intro e (fun z => nomatch z) h
  | str y => obtain ⟨t, q⟩ := (show ∃ t, u = Value.str y t from rx); cases q; exact PySem.W.kia_one PySem.W.kitx_str I.kIn True.intro e (fun z => nomatch z) h
  | @lst a xs ea =>
    cases (show u = Value.ref a from rx)
    obtain ⟨its, _, pl, _⟩ := I.list ea
    obtain ⟨o, h1, h2, _⟩ := pl.isList
    exact PySem.W.kia_one PySem.W.kitx_list I.kIn ⟨o, h1, h2⟩ e (fun z => nomatch z) h
  | @tup a xs ea =>
    cases (show u = Value.ref a from rx)
    obtain ⟨its, _, pl, _⟩ := I.tuple ea
    obtain ⟨o, h1, h2, _⟩ := pl
    exact PySem.W.kia_one PySem.W.kitx_tuple I.kIn ⟨o, h1, h2⟩ e (fun z => nomatch z) h
  | @dK a kvs ea =>
    cases (show u = Value.ref a from rx)
    obtain ⟨_, _, vs, _, p⟩ := (show ObjOk X.prog X.w H s.heap a (.dK kvs) from I.hok a _ ea)
    obtain ⟨o, es, ep, h1, h2, _⟩ := p
    exact PySem.W.kia_one PySem.W.kitx_dict I.kIn ⟨o, h1, h2.1⟩ e (fun z => nomatch z) h
  | @dT a kvs ea =>
    cases (show u = Value.ref a from rx)
    obtain ⟨_, _, xs, _, o, es, ep, h1, h2, _⟩ := (show ObjOk X.prog X.w H s.heap a (.dT kvs) from I.hok a _ ea)
    exact PySem.W.kia_one PySem.W.kitx_dict I.kIn ⟨o, h1, h2.1⟩ e (fun z => nomatch z) h
noncomputable def rIsI (K : PySem.W.Frag) (c : String) : List V → Hp → VK → Prop := fun xs H Q => ∃ x t b, xs = [x, .ty c] ∧ TyX K H x t ∧ PySem.W.kitOne K (.type t) (.type c) = some b ∧ Q (.bl b) H
theorem call_isi {c : String} : CallR X (.builtin "isinstance") (rIsI X.K c) := by
  intro pins s σ H xs us Q I r h
  obtain ⟨x, t, b, rfl, ty, e, q⟩ := h
  obtain ⟨u, w', rfl, r1, r2⟩ := vals2 r
  cases r2
  exact isinst_X I r1 ty e fun tk => ⟨.bl b, H, I.tok _, rfl, q⟩
end
end L2

namespace DL
open PySem PySem.Spec PyProof.Rows L2
variable {K : PySem.W.Frag}

/-! ### enumerate -/
noncomputable def enumL (xs : List D) : List D := xs.zipIdx.map fun p => .tup [.int (p.2 : Nat), p.1]
theorem enumL_get {xs : List D} {i : Nat} {d : D} (h : (enumL xs)[i]? = some d) : ∃ x, xs[i]? = some x ∧ d = .tup [.int (i : Nat), x] := by
  unfold enumL at h
  rw [List.getElem?_map, List.getElem?_zipIdx] at h
  cases e : xs[i]? with
  | none => rw [e] at h; cases h
  | some x => rw [e] at h; cases h; exact ⟨x, rfl, by simp⟩
theorem enumL_len (xs : List D) : (enumL xs).length = xs.length := by unfold enumL; rw [List.length_map, List.length_zipIdx]
theorem yields_enum {F : Hp} {a : Addr} {xs : List D} {vs : List V} (h : SqL K F a vs) (r : Reps K F xs vs) : Yields K (Ite K a) F (enumL xs) := fun F' H sF sH i => by
  have q : SqL K H a vs := sqL_mono (sF.trans sH) h
  refine ⟨fun d hd => ?_, fun hl => ⟨vs, q, by rw [← r.length, ← enumL_len]; exact hl⟩⟩
  obtain ⟨x, hx, rfl⟩ := enumL_get hd
  obtain ⟨v, h1, h2⟩ := r.get hx
  refine ⟨⟨vs, v, q, h1⟩, fun y H' ⟨p, w, e1, e2, e3, e4⟩ => ?_⟩
  subst e1 e3
  have e5 := e4 vs q
  rw [h1] at e5; cases e5
  have hp : F' p = none := sH.free e2
  have sm : Same F' (addL F' [(p, .tup [.int (i : Nat), v])]) := addL_same fun z hz => by obtain rfl := List.mem_singleton.mp hz; exact hp
  refine ⟨same_new e2, [(p, .tup [.int (i : Nat), v])], nd1, fun z hz => ?_, .tup upd_same (.cons (.int _) (.cons (h2.mono (sF.trans sm)) .nil))⟩
  obtain rfl := List.mem_singleton.mp hz
  exact ⟨e2, upd_same⟩
section
variable {Z : Ent K} {H : Hp} {σ : L2.St} {Q : VK}
@[simp] noncomputable def enumI (fd : FD) : FD := fun δ => (fd δ).bind fun p => match p.1 with
  | [.lst xs] => some (enumL xs, p.2)
  | _ => none
theorem l_enumI {fd : FD} {R : It → Hp → Prop} (h : liftI Z (enumI fd) σ H R) : iEnum K (liftD Z fd) σ H R := by
  obtain ⟨F, δ, own, ds, δ', s, e, k⟩ := h
  obtain ⟨⟨ds1, δ1⟩, e1, e2⟩ := Option.bind_eq_some_iff.mp e
  refine ⟨F, δ, own, ds1, δ1, s, e1, fun vs H1 F1 own1 sH sF s1 r1 => ?_⟩
  dsimp only at e2
  split at e2
  · rename_i xs
    cases e2
    cases r1 with
    | cons h t =>
      cases t
      cases h with
      | lst h r => exact ⟨_, _, rfl, sqL_mono s1.le h, k _ H1 F1 own1 sH sF s1 (yields_enum h r)⟩
  · cases e2
/-! ### o.m(..) of a builtin -/
@[simp] noncomputable def D.ty : D → String
  | .str _ => "str"
  | .int _ => "int"
  | .lst _ => "list"
  | .dK _ _ => "dict"
  | .dT _ _ => "dict"
  | _ => "?"
@[simp] noncomputable def tyOk (T : String) (d : D) : Bool := T == d.ty && (T == "str" || T == "list" || T == "dict")
theorem ty_ok {F H : Hp} {d : D} {x : V} {T : String} (le : Same F H) (r : RepN K F H d x) (h : tyOk T d = true) : tyV K T x H := by
  unfold tyOk at h
  simp only [Bool.and_eq_true, beq_iff_eq] at h
  obtain ⟨h1, h2⟩ := h
  subst h1
  cases d with
  | str y => rw [r.str]; rfl
  | lst xs =>
    obtain ⟨a, vs, e, ha, _⟩ := r.lst le
    subst e
    exact .inl ⟨rfl, vs, ha⟩
  | dK ks vs =>
    obtain ⟨a, kvs, e, ha, _⟩ := r.dK le
    subst e
    exact .inr (.inr (.inl ⟨rfl, .inl ⟨kvs, ha⟩⟩))
  | dT ks vs =>
    obtain ⟨a, kvs, e, ha, _⟩ := r.dT le
    subst e
    exact .inr (.inr (.inl ⟨rfl, .inr ⟨kvs, ha⟩⟩))
  | non => exact absurd (show ("?" == "str" || "?" == "list" || "?" == "dict") = true from h2) (by decide)
  | bl b => exact absurd (show ("?" == "str" || "?" == "list" || "?" == "dict") = true from h2) (by decide)
  | int i => exact absurd (show ("int" == "str" || "int" == "list" || "int" == "dict") = true from h2) (by decide)
  | tup xs => exact absurd (show ("?" == "str" || "?" == "list" || "?" == "dict") = true from h2) (by decide)
  | exc C ks vs => exact absurd (show ("?" == "str" || "?" == "list" || "?" == "dict") = true from h2) (by decide)
@[simp] noncomputable def bmF (T : String) (g : List D → Option SV) (fo : FE) (fa : FA) : FE := fun δ => (fo δ).bind fun p => (rdv p.1 p.2).bind fun d0 => if tyOk T d0 = true then (fa p.2).bind fun q => (readAll (p.1 :: q.1) q.2).bind fun ds => (g ds).bind fun sv => some (.tmp sv, q.2) else none
noncomputable def PrimM (Z : Ent K) (r : V → List V → Hp → VK → Prop) (g : List D → Option SV) : Prop := PrimN Z (fun vs H Q => ∃ x xs, vs = x :: xs ∧ r x xs H Q) g
theorem l_bm {T : String} {r : V → List V → Hp → VK → Prop} {g : List D → Option SV} {fo : FE} {fa : FA} (hg : PrimM Z r g) (h : liftE Z (bmF T g fo fa) σ H Q) : tBM K T r (liftE Z fo) (liftA Z fa) σ H Q := by
  obtain ⟨F, δ, own, rv, δ', s, e, k⟩ := h
  obtain ⟨⟨rv1, δ1⟩, e1, e⟩ := Option.bind_eq_some_iff.mp e
  obtain ⟨d0, e2, e⟩ := Option.bind_eq_some_iff.mp e
  dsimp only at e
  split at e
  · rename_i ht
    obtain ⟨⟨rvs, δ2⟩, e3, e⟩ := Option.bind_eq_some_iff.mp e
    obtain ⟨ds, e4, e⟩ := Option.bind_eq_some_iff.mp e
    obtain ⟨sv, e5, e⟩ := Option.bind_eq_some_iff.mp e
    cases e
    refine ⟨F, δ, own, rv1, δ1, s, e1, fun v H1 F1 own1 sH1 sF1 s1 r1 => ?_⟩
    obtain ⟨F1', sF1', s1', r1'⟩ := s1.settleR r1
    refine ⟨ty_ok s1'.le (s1'.rd r1' e2) ht, F1', δ1, own1, rvs, δ2, s1', e3, fun vs H2 F2 own2 sH2 sF2 s2 r2 => ?_⟩
    obtain ⟨x, xs, ex, q⟩ := hg F2 H2 σ δ2 own2 (v :: vs) ds sv Q s2 (s2.rdAll (.cons (r1'.mono sF2) r2) e4) e5 fun q H4 F4 ns sH4 sF4 s4 t4 =>
      k q H4 F4 own2 (sH1.trans (sH2.trans sH4)) (sF1.trans (sF1'.trans (sF2.trans sF4))) s4 ⟨ns, t4⟩
    injection ex with ex1 ex2
    subst ex1 ex2
    exact q
  · cases e
end
/-! ### join -/
@[simp] noncomputable def strs? : List D → Option (List Str)
  | [] => some []
  | .str x :: r => (strs? r).bind fun t => some (x :: t)
  | _ => none
theorem strs_ok {F : Hp} : ∀ {ds : List D} {xs : List Str} {vs : List V}, strs? ds = some xs → Reps K F ds vs → vs = xs.map V.str
  | [], _, _, e, r => by cases e; cases r; rfl
  | d :: r, xs, vs, e, q => by
    cases q with
    | cons h t =>
      unfold strs? at e
      split at e
      · rename_i e0; cases e0
      · rename_i x r' e0
        cases e0
        obtain ⟨ys, e1, e2⟩ := Option.bind_eq_some_iff.mp e
        cases e2
        cases h
        rw [strs_ok e1 t]; rfl
      · cases e
@[simp] noncomputable def joinD : List D → Option SV
  | [.str sep, .lst xs] => (strs? xs).bind fun ys => if JoinOk sep ys = true then some (.fz (.str (Txt.join sep ys))) else none
  | _ => none
variable {Z : Ent K}
/-! ### isinstance(e, T) -/
@[simp] noncomputable def D.pyTy : D → String
  | .non => "NoneType"
  | .bl _ => "bool"
  | .int _ => "int"
  | .str _ => "str"
  | .tup _ => "tuple"
  | .lst _ => "list"
  | .dK _ _ => "dict"
  | .dT _ _ => "dict"
  | .exc _ _ _ => "?"
@[simp] noncomputable def D.isExc : D → Bool
  | .exc _ _ _ => true
  | _ => false
theorem tyOf_ok {F H : Hp} {d : D} {x : V} (le : Same F H) (r : RepN K F H d x) (hx : d.isExc = false) : TyX K H x d.pyTy := by
  cases d with
  | exc C ks vs => cases hx
  | non => rw [r.non]; exact .non
  | bl b => rw [r.bl]; exact .bl b
  | int i => rw [r.int]; exact .int i
  | str y => rw [r.str]; exact .str y
  | tup xs => obtain ⟨a, vs, e, ha, _⟩ := r.tup le; subst e; exact .tup ha
  | lst xs =>
    obtain ⟨a, vs, e, ha, _⟩ := r.lst le
    subst e
    exact .lst ha
  | dK ks vs => obtain ⟨a, kvs, e, ha, _⟩ := r.dK le; subst e; exact .dK ha
  | dT ks vs => obtain ⟨a, kvs, e, ha, _⟩ := r.dT le; subst e; exact .dT ha
@[simp] noncomputable def isiD (c : String) (d : D) : Option SV := if d.isExc = true then none else some (.fz (.bl (d.pyTy == c || (c == "int" && d.pyTy == "bool"))))
theorem p_isi {c : String} (hk : ∀ d : D, d.isExc = false → PySem.W.kitOne K (.type d.pyTy) (.type c) = some (d.pyTy == c || (c == "int" && d.pyTy == "bool"))) : Prim1 Z (fun x H Q => rIsI K c [x, .ty c] H Q) (isiD c) := by
  intro F H σ δ own x d sv Q s r e k
  unfold isiD at e
  split at e
  · cases e
  · rename_i hx
    cases e
    have hx' : d.isExc = false := by cases z : d.isExc with
      | true => exact absurd z hx
      | false => rfl
    exact ⟨x, _, _, rfl, tyOf_ok s.le r hx', hk d hx', k.fz s (.bl _)⟩
/-! ### len, list(x), tuple(x) -/
@[simp] noncomputable def lenD : List D → Option SV
  | [.lst xs] => some (.fz (.int (xs.length : Nat)))
  | [.tup xs] => some (.fz (.int (xs.length : Nat)))
  | [.str x] => if x.length ≤ PySem.sizeLine then some (.fz (.int (x.length : Nat))) else none
  | _ => none
theorem p_len : PrimN Z (fun xs H Q => (∃ p ys, xs = [V.ref p] ∧ (SqL K H p ys ∨ SqT K H p ys) ∧ Q (.int ys.length) H) ∨ (∃ z, xs = [V.str z] ∧ z.length ≤ PySem.sizeLine ∧ Q (.int z.length) H)) lenD := by
  intro F H σ δ own vs ds sv Q s r e k
  unfold lenD at e
  split at e
  · cases e
    cases r with
    | cons h t =>
      cases t
      obtain ⟨a, us, ex, ha, ra⟩ := h.lst s.le
      subst ex
      exact .inl ⟨a, us, rfl, .inl ha, by rw [← ra.length]; exact k.fz s (.int _)⟩
  · cases e
    cases r with
    | cons h t =>
      cases t
      obtain ⟨a, us, ex, ha, ra⟩ := h.tup s.le
      subst ex
      exact .inl ⟨a, us, rfl, .inr ha, by rw [← ra.length]; exact k.fz s (.int _)⟩
  · split at e
    · rename_i hz
      cases e
      cases r with
      | cons h t =>
        cases t
        exact .inr ⟨_, by rw [h.str], hz, k.fz s (.int _)⟩
    · cases e
  · cases e
@[simp] noncomputable def listD : List D → Option SV
  | [.lst xs] => some (.ol xs)
  | [.tup xs] => some (.ol xs)
  | _ => none
@[simp] noncomputable def tupleD : List D → Option SV
  | [.lst xs] => some (.fz (.tup xs))
  | _ => none
@[simp] noncomputable def intD : List D → Option SV
  | [.int i] => some (.fz (.int i))
  | [.bl b] => some (.fz (.int (if b then 1 else 0)))
  | _ => none

/-! ## THE RULES BY VALUES -/
section
variable {X : Cx} {Z : Ent X.K} {a b c : Expr} {fa fb fc : FE} {pos : Pos}
theorem e_var (i : Nat) {x : Str} {pos : Pos} (hN : X.N[i]? = some x := by rfl) (hv : Vis X.env.scope x := by first | exact Or.inl rfl | exact Or.inr (Or.inl rfl) | exact Or.inr (Or.inr rfl)) (hd : (x == ("__debug__" : Str)) = false := by decide)
    (hcd : (x == ("__classdict__" : Str)) = false := by decide) : PE X (.Name x pos) (liftE Z (nameF i)) := (pe_var hN hv hd hcd).imp fun _ _ _ h => l_var h
theorem e_int {i : Int} {j : Nat} : PE X (.Constant (.int i) j pos) (liftE Z (constF (.int i))) := pe_int.imp fun _ _ _ h => l_const (fun _ => .int _) h
theorem e_bl {i : Bool} {j : Nat} : PE X (.Constant (.bool i) j pos) (liftE Z (constF (.bl i))) := pe_bl.imp fun _ _ _ h => l_const (fun _ => .bl _) h
theorem e_non {j : Nat} : PE X (.Constant .none j pos) (liftE Z (constF .non)) := pe_non.imp fun _ _ _ h => l_const (fun _ => .non) h
theorem e_str {i : Str} {j : Nat} : PE X (.Constant (.str i) j pos) (liftE Z (constF (.str i))) := pe_str.imp fun _ _ _ h => l_const (fun _ => .str _) h
theorem e_globS {x : Str} {y : Str} {t : Tok} (hm : X.mg x = some (.str y t)) (hg : Gl X x := by rfl) (hd : (x == ("__debug__" : Str)) = false := by decide) : PE X (.Name x pos) (liftE Z (constF (.str y))) :=
  (pe_glob (v := .str y) hg hm ⟨t, rfl⟩ hd).imp fun _ _ _ h => l_const (fun _ => .str _) h
theorem e_globI {x : Str} {y : Int} {t : Tok} (hm : X.mg x = some (.int y t)) (hg : Gl X x := by rfl) (hd : (x == ("__debug__" : Str)) = false := by decide) : PE X (.Name x pos) (liftE Z (constF (.int y))) :=
  (pe_glob (v := .int y) hg hm ⟨t, rfl⟩ hd).imp fun _ _ _ h => l_const (fun _ => .int _) h
theorem e_bin {op : Operator} {r : R2} {g : D → D → Option SV} (ho : OpR X (binaryOp op) r) (hp : Prim2 Z r g) (ha : PE X a (liftE Z fa)) (hb : PE X b (liftE Z fb)) : PE X (.BinOp a op b pos) (liftE Z (binF g fa fb)) := (pe_op ho ha hb).imp fun _ _ _ h => l_bin hp h
theorem e_add (ha : PE X a (liftE Z fa)) (hb : PE X b (liftE Z fb)) : PE X (.BinOp a .Add b pos) (liftE Z (binF addD fa fb)) := e_bin op_add3 p_add ha hb
theorem e_fdiv (ha : PE X a (liftE Z fa)) (hb : PE X b (liftE Z fb)) : PE X (.BinOp a .FloorDiv b pos) (liftE Z (binF fdivD fa fb)) := e_bin op_fdiv p_fdiv ha hb
theorem e_mod (ha : PE X a (liftE Z fa)) (hb : PE X b (liftE Z fb)) : PE X (.BinOp a .Mod b pos) (liftE Z (binF modD fa fb)) := e_bin op_mod p_mod ha hb
theorem e_cmp {op : CmpOp} {r : R2} {g : D → D → Option SV} (ho : OpR X (compareOp op) r) (hp : Prim2 Z r g) (ha : PE X a (liftE Z fa)) (hb : PE X b (liftE Z fb)) (hm : behindInMarks op b = false) : PE X (.Compare a [op] [b] pos) (liftE Z (binF g fa fb)) := (pe_cmpR ho ha hb hm).imp fun _ _ _ h => l_bin hp h
theorem t_cmp {op : CmpOp} {r : R2} {g : D → D → Option SV} (ho : OpR X (compareOp op) r) (hp : Prim2 Z r g) (ha : PE X a (liftE Z fa)) (hb : PE X b (liftE Z fb)) (hm : behindInMarks op b = false) : PT X (.Compare a [op] [b] pos) (liftT Z (testF (binF g fa fb))) :=
  (pt_cmpR ho ha hb hm).imp fun σ H Q h => by
    obtain ⟨F, δ, own, rv, δ', s, e, k⟩ := l_test h
    exact l_bin hp ⟨F, δ, own, rv, δ', s, e, k⟩
theorem t_lt (ha : PE X a (liftE Z fa)) (hb : PE X b (liftE Z fb)) : PT X (.Compare a [.Lt] [b] pos) (liftT Z (testF (binF ltD fa fb))) := t_cmp op_lt p_lt ha hb (nomark _)
theorem t_isN (ha : PE X a (liftE Z fa)) (hb : PE X b (liftE Z fb)) : PT X (.Compare a [.Is] [b] pos) (liftT Z (testF (binF isND fa fb))) := t_cmp op_isN p_isN ha hb (nomark _)
theorem w_or1 {f : FT} (ha : PT X a (liftT Z f)) : PW X (.BoolOp .Or [a] pos) (liftT Z f) := pw_or1 ha
theorem w_or {f g : FT} {rest : List Expr} (ha : PT X a (liftT Z f)) (hb : PW X (.BoolOp .Or (b :: rest) pos) (liftT Z g)) : PW X (.BoolOp .Or (a :: b :: rest) pos) (liftT Z (orF f g)) := (pw_or ha hb).imp fun _ _ _ h => l_or h
theorem t_not {f : FT} (ha : PT X a (liftT Z f)) : PT X (.UnaryOp .Not a pos) (liftT Z (notF f)) := (pt_not ha).imp fun _ _ _ h => l_not h
theorem t_val (h : PE X a (liftE Z fa)) (he : ∀ whole, isTrue a X.env whole = (do let v ← whole; standAt a.pos; holding [v] (truthy v)) := by intro _; rfl) : PT X a (liftT Z (testF fa)) := (pt_val h he).imp fun _ _ _ h => l_testB h
theorem e_one {op : BoolOp} (h : PE X a (liftE Z fa)) : PE X (.BoolOp op [a] pos) (liftE Z fa) := pe_one h
theorem e_and {rest : List Expr} (ha : PE X a (liftE Z fa)) (hb : PE X (.BoolOp .And (b :: rest) pos) (liftE Z fb)) : PE X (.BoolOp .And (a :: b :: rest) pos) (liftE Z (andV fa fb)) := (pe_and ha hb).imp fun _ _ _ h => l_andV h
theorem e_not (ha : PE X a (liftE Z fa)) : PE X (.UnaryOp .Not a pos) (liftE Z (notV fa)) := (pe_not ha).imp fun _ _ _ h => l_notV h
theorem e_if {t : FT} (hc : PT X c (liftT Z t)) (ha : PE X a (liftE Z fa)) (hb : PE X b (liftE Z fb)) : PE X (.IfExp c a b pos) (liftE Z (ifF t fa fb)) := (pe_ifExp hc ha hb).imp fun _ _ _ h => l_if h
theorem a_nil : PA X [] (liftA Z argNil) := pa_nil.imp fun _ _ _ h => l_argNil h
theorem a_cons {es : List Expr} {fr : FA} (ha : PE X a (liftE Z fa)) (hr : PA X es (liftA Z fr)) (hs : starEach (a :: es) X.env = (false, eval a X.env) :: starEach es X.env := by rfl) : PA X (a :: es) (liftA Z (argCons fa fr)) := (pa_cons ha hr hs).imp fun _ _ _ h => l_argCons h
theorem d_nil : PA X [] (liftD Z dispNil) := pa_nil.imp fun _ _ _ h => l_dispNil h
theorem d_cons {es : List Expr} {fr : FD} (ha : PE X a (liftE Z fa)) (hr : PA X es (liftD Z fr)) (hs : starEach (a :: es) X.env = (false, eval a X.env) :: starEach es X.env := by rfl) : PA X (a :: es) (liftD Z (dispCons fa fr)) := (pa_cons ha hr hs).imp fun _ _ _ h => l_dispCons h
theorem e_tup {es : List Expr} {fd : FD} {k : Nat} (h : PA X es (liftD Z fd)) : PE X (.Tuple es k pos) (liftE Z (tupF fd)) := (pe_tup h).imp fun _ _ _ h => l_tup h
theorem e_lst {es : List Expr} {fd : FD} (h : PA X es (liftD Z fd)) : PE X (.List es pos) (liftE Z (lstF fd)) := (pe_lst h).imp fun _ _ _ h => l_lst h
theorem o_none : PO X none (liftO Z noPart) := fun pins s σ H Q I h => po_none pins s σ H Q I (l_noPart h)
theorem o_some (ha : PE X a (liftE Z fa)) : PO X (some a) (liftO Z (partF fa)) := fun pins s σ H Q I h => po_some ha pins s σ H Q I (l_part h)
theorem e_sl {lo hi : Option Expr} {fl fh : FO} {p2 : Pos} (ha : PE X a (liftE Z fa)) (hl : PO X lo (liftO Z fl)) (hh : PO X hi (liftO Z fh)) : PE X (.Subscript a (.Slice lo hi none p2) pos) (liftE Z (slF slD fa fl fh)) :=
  (pe_slice (sl_list.or sl_str) ha hl hh).imp fun _ _ _ h => l_sl p_sl h
theorem e_call {k n : Nat} {f : Addr} {fd : FuncData} {ps : List Str} {g : List D → Option SV} {x : Str} {p : Pos} {es : List Expr} {fr : FA} (F : FnOk X.prog X.w X.K X.mg X.base CX0 k f fd ps (spOf X.K n g)) (hr : Room k X.A) (hm : X.mg x = some (.ref f)) (hk : PySem.W.keepIn X.K (.ref f) = true) (hb : Binds X.K fd ps [])
    (ha : PA X (a :: es) (liftA Z fr)) (hg : Gl X x := by rfl) (hdb : (x == ("__debug__" : Str)) = false := by decide) (he : starEach (a :: es) X.env = (false, eval a X.env) :: starEach es X.env := by rfl) (hpl : (backTo pos (starEach es X.env)).any (·.1) = false := by rfl) :
    PE X (.Call (.Name x p) (a :: es) [] pos) (liftE Z (callF n g fr)) := (pe_call F hr hg hm hk hb .nil pass0 ha hdb he hpl).imp fun _ _ _ h => l_call h
theorem e_callB {id : String} {r : List V → Hp → VK → Prop} {g : List D → Option SV} {x : Str} {p : Pos} {es : List Expr} {fr : FA} (hc : CallR X (.builtin id) r) (hp : PrimN Z r g) (hm : X.mg x = none) (hv : bootBuiltins x = some (.builtin id)) (ha : PA X (a :: es) (liftA Z fr)) (hg : Gl X x := by rfl) (hn : x ≠ "__name__" := by decide) (hdb : (x == ("__debug__" : Str)) = false := by decide)
    (he : starEach (a :: es) X.env = (false, eval a X.env) :: starEach es X.env := by rfl) (hpl : (backTo pos (starEach es X.env)).any (·.1) = false := by rfl) : PE X (.Call (.Name x p) (a :: es) [] pos) (liftE Z (primF g fr)) := (pe_callB hc hg hm hv ha hn hdb he hpl).imp fun _ _ _ h => l_prim hp h
theorem e_len {p : Pos} (hm : X.mg "len" = none) (ha : PE X a (liftE Z fa)) (hg : Gl X "len" := by rfl) (he : starEach [a] X.env = (false, eval a X.env) :: starEach [] X.env := by rfl) (hpl : (backTo pos (starEach [] X.env)).any (·.1) = false := by rfl) : PE X (.Call (.Name "len" p) [a] [] pos) (liftE Z (primF lenD (argCons fa argNil))) :=
  e_callB (call_len_seq.or call_len_str) p_len hm PySem.boot_len (a_cons ha a_nil he) hg (by decide) (by decide) he hpl
theorem e_isi {x : Str} {c : String} {p p2 : Pos} (hm : X.mg "isinstance" = none) (hmc : X.mg x = none) (hv : bootBuiltins x = some (.type c)) (hk : ∀ d : D, d.isExc = false → PySem.W.kitOne X.K (.type d.pyTy) (.type c) = some (d.pyTy == c || (c == "int" && d.pyTy == "bool"))) (ha : PE X a (liftE Z fa)) (hg : Gl X "isinstance" := by rfl) (hgc : Gl X x := by rfl)
    (hn : x ≠ "__name__" := by decide) (hdb : (x == ("__debug__" : Str)) = false := by decide)
    (he : starEach [a, .Name x p2] X.env = (false, eval a X.env) :: starEach [.Name x p2] X.env := by rfl) (he2 : starEach [.Name x p2] X.env = (false, eval (.Name x p2) X.env) :: starEach [] X.env := by rfl) (hpl : (backTo pos (starEach [.Name x p2] X.env)).any (·.1) = false := by rfl) :
    PE X (.Call (.Name "isinstance" p) [a, .Name x p2] [] pos) (liftE Z (unF (isiD c) fa)) :=
  (pe_callB call_isi hg hm boot_isinstance (pa_cons ha (pa_cons (pe_bltn (v := .ty c) hgc hmc hv rfl hn hdb) pa_nil he2) he) (by decide) (by decide) he hpl).imp fun σ H Q h => by
    have h2 := l_un (p_isi hk) h
    exact h2

theorem e_chain {op op' : CmpOp} {r r' : R2} {g g' : D → D → Option SV} (ho : OpR X (compareOp op) r) (hp : Prim2 Z r g) (ho' : OpR X (compareOp op') r') (hp' : Prim2 Z r' g') (ha : PE X a (liftE Z fa)) (hb : PE X b (liftE Z fb)) (hc : PE X c (liftE Z fc)) (hm : lastMarks [op, op'] [b, c] = false := by with_unfolding_all rfl) :
    PE X (.Compare a [op, op'] [b, c] pos) (liftE Z (chainF g g' fa fb fc)) := (pe_chain ho ho' ha hb hc hm).imp fun _ _ _ h => l_chain hp hp' h
/-! targets, what is walked -/
theorem g_name (i : Nat) {x : Str} (hN : X.N.Nodup) (hi : X.N[i]? = some x := by rfl) (hx : Loc X.env.scope x := by first | exact Or.inl rfl | exact Or.inr rfl) (hf : X.fn x = true ∨ X.env.scope.names.lookup x = some .local := by first | exact .inl rfl | exact .inr rfl) : PG X (.Name x pos) (liftG Z (gNameF i)) := (pg_name hN hi hx hf).imp fun _ _ _ _ h => l_gName h
theorem gs_nil : PGs X [] (liftGs Z gNilF) := pgs_nil.imp fun _ _ _ _ h => l_gNil h
theorem gs_cons {es : List Expr} {g : FG} {r : FGs} (h1 : PG X a (liftG Z g)) (h2 : PGs X es (liftGs Z r)) (hs : (assignEach (a :: es) X.env).map (·.2) = assign a X.env :: (assignEach es X.env).map (·.2) := by rfl) : PGs X (a :: es) (liftGs Z (gConsF g r)) := (pgs_cons h1 h2 hs).imp fun _ _ _ _ h => l_gCons h
theorem g_tup {es : List Expr} {k n : Nat} {g : FGs} (hc : X.calm = true) (h : PGs X es (liftGs Z g)) (hn : (assignEach es X.env).length = n := by rfl) (hst : (assignEach es X.env).findIdx? (·.1) = none := by rfl) : PG X (.Tuple es k pos) (liftG Z (gTupF n g)) := (pg_tup hc h hn hst).imp fun _ _ _ _ h => l_gTup h
theorem i_rng {tg : Expr} {p : Pos} (hm : X.mg "range" = none) (ha : PE X a (liftE Z fa)) (hg : Gl X "range" := by rfl) (hs : starEach [a] X.env = [(false, eval a X.env)] := by rfl) : PI X tg (.Call (.Name "range" p) [a] [] pos) (liftI Z (rngI (argCons fa argNil))) := (pi_range1 hg hm (a_cons ha a_nil hs) hs).imp fun _ _ _ h => l_rngI h

/-! comprehensions -/
theorem compScope {N' : List Str} {scope : Scope} {src : List BSrc} (kind : scope.kind = .function) (nocell : (scope.names.all fun y => !(y.2 == .cell)) = true) (names : (scope.names.all fun y => !(y.2 == .local) || (scope.names.lookup y.1 == some .local)) = true)
    (free : (scope.names.all fun y => !(y.2 == .free) || (X.env.kindOf y.1 == some .cell) || (X.env.kindOf y.1 == some .free)) = true) (len : src.length = N'.length)
    (cap : ((List.range src.length).all fun k => match src[k]?, N'[k]? with
      | some (.cap j), some x => (X.N[j]? == some x) && ((X.env.kindOf x == some .cell) || (X.env.kindOf x == some .free)) && (scope.names.lookup x == some .free)
      | some .acc, some x => scope.names.lookup x == none
      | _, _ => true) = true) : CompScope X N' scope src := by
  have capk : ∀ (k : Nat) (q : BSrc) (x : Str), src[k]? = some q → N'[k]? = some x → (match some q, some x with
      | some (.cap j), some x => (X.N[j]? == some x) && ((X.env.kindOf x == some .cell) || (X.env.kindOf x == some .free)) && (scope.names.lookup x == some .free)
      | some .acc, some x => scope.names.lookup x == none
      | _, _ => true) = true := fun k q x h1 h2 => by
    have hk : k < src.length := (List.getElem?_eq_some_iff.mp h1).1
    have := List.all_eq_true.mp cap k (List.mem_range.mpr hk)
    rw [h1, h2] at this
    exact this
  refine ⟨kind, fun y hy e => ?_, fun y hy e => ?_, fun y hy e => ?_, len, fun k j x h1 h2 => ?_, fun k x h1 h2 => ?_⟩
  · have := List.all_eq_true.mp nocell y hy
    rw [e] at this; cases this
  · have := List.all_eq_true.mp names y hy
    rw [e] at this
    simpa using this
  · have := List.all_eq_true.mp free y hy
    rw [e] at this
    simpa using this
  · have := capk k (.cap j) x h1 h2
    simp only [Bool.and_eq_true, Bool.or_eq_true, beq_iff_eq] at this
    exact ⟨this.1.1, this.1.2, this.2⟩
  · have := capk k .acc x h1 h2
    simpa using this
theorem srcOk {src : List BSrc} (k : Nat) (acc : src[k]? = some .acc) (uni : ((List.range src.length).all fun i => match src[i]? with
      | some .acc => i == k
      | _ => true) = true) : SrcOk src k := ⟨acc, fun i h => by
    have hi : i < src.length := (List.getElem?_eq_some_iff.mp h).1
    have := List.all_eq_true.mp uni i (List.mem_range.mpr hi)
    rw [h] at this
    simpa using this⟩
theorem kit_str (K : PySem.W.Frag) : ∀ d : D, d.isExc = false → PySem.W.kitOne K (.type d.pyTy) (.type "str") = some (d.pyTy == "str" || ("str" == "int" && d.pyTy == "bool")) := by intro d h; cases d <;> first | (cases h; done) | with_unfolding_all rfl
theorem xg {tg : Expr} {g : FG} (h : ∀ Z : Ent X.K, PG X tg (liftG Z g)) : PG X tg (xG X.K g) := fun pins s σ H v u Q I r ⟨Z, q⟩ => h Z pins s σ H v u Q I r q
theorem xe {e : Expr} {f : FE} (h : ∀ Z : Ent X.K, PE X e (liftE Z f)) : PE X e (xE X.K f) := fun pins s σ H Q I ⟨Z, q⟩ => h Z pins s σ H Q I q
theorem xt {e : Expr} {f : FT} (h : ∀ Z : Ent X.K, PT X e (liftT Z f)) : PTs X [e] (xT X.K f) := fun pins s σ H Q I ⟨Z, q⟩ => pts_one (h Z) pins s σ H Q I q
theorem xt0 : PTs X [] (xT X.K trueT) := fun pins s σ H Q I ⟨Z, q⟩ => by
  obtain ⟨F, δ, own, b, δ', sr, e, k⟩ := q
  cases e
  exact pts_nil pins s σ H Q I (k H F own (Same.refl H) (Same.refl F) sr)
theorem e_comp {N' : List Str} {scope : Scope} {src : List BSrc} {k : Nat} {tg elt iter : Expr} {ifs : List Expr} {fi : FD} {g : FG} {tt : FT} {te : FE} (hc : X.calm = true) (S : CompScope X N' scope src) (So : SrcOk src k) (hk : k ∉ g.tch) (hi : PI X tg iter (liftI Z fi))
    (hg : ∀ (C : Addr) (s₀ : Shared) (H₀ : Hp) (ex : List Addr), PG (X.block N' scope C s₀ H₀ ex) tg (xG X.K g)) (ht : ∀ (C : Addr) (s₀ : Shared) (H₀ : Hp) (ex : List Addr), PTs (X.block N' scope C s₀ H₀ ex) ifs (xT X.K tt)) (he : ∀ (C : Addr) (s₀ : Shared) (H₀ : Hp) (ex : List Addr), PE (X.block N' scope C s₀ H₀ ex) elt (xE X.K te))
    (hs : ∀ x, foldedSetIterable iter X.env x = pure x := by intro _; rfl) : PE X (.ListComp elt [⟨tg, iter, ifs, 0⟩] scope pos) (liftE Z (compF src k fi g tt te)) := (pe_comp hc S hi hg ht he hs).imp fun _ _ _ h => l_comp So hk h

/-! statements -/
theorem ss_nil : PSs X [] (liftS Z nextF) := pss_nil.imp fun _ _ _ h => l_next h
theorem ss_cons {st : Stmt} {rest : List Stmt} {f g : FS} (h1 : PS X st (liftS Z f)) (h2 : PSs X rest (liftS Z g)) : PSs X (st :: rest) (liftS Z (seqF f g)) := (pss_cons h1 h2).imp fun _ _ _ h => l_seq h
theorem ss_one {st : Stmt} {f : FS} (h : PS X st (liftS Z f)) : PSs X [st] (liftS Z f) := pss_one h
noncomputable def stuckF : FS := fun _ => none
theorem s_ret (h : PE X a (liftE Z fa)) : PS X (.Return (some a) pos) (liftS Z (retF fa)) := (ps_ret h).imp fun _ _ _ h => l_ret h
theorem s_if {t : FT} {f g : FS} {bt be : List Stmt} (hc : PT X c (liftT Z t)) (ha : PSs X bt (liftS Z f)) (hb : PSs X be (liftS Z g)) : PS X (.If c bt be pos) (liftS Z (ifS t f g)) := (ps_if hc ha hb).imp fun _ _ _ h => l_ifS h
theorem s_set (i : Nat) {x : Str} {pos' : Pos} (hN : X.N.Nodup) (he : PE X a (liftE Z fa)) (hi : X.N[i]? = some x := by rfl) (hx : Loc X.env.scope x := by first | exact Or.inl rfl | exact Or.inr rfl) (hs : swapsWith a (some (.Name x pos')) pos.line X.env = pure false := by rfl) (hf : X.fn x = true ∨ X.env.scope.names.lookup x = some .local := by first | exact .inl rfl | exact .inr rfl) :
    PS X (.Assign [.Name x pos'] a pos) (liftS Z (setF i fa)) := (ps_set hN hi hx he hs hf).imp fun _ _ _ h => l_set h
theorem s_for {tg iter : Expr} {body : List Stmt} {fi : FD} {g : FG} {f : FS} (hp : PassesOwn (model X.prog X.w) X.A X.env X.xe) (hc : X.calm = true) (hi : PI X tg iter (liftI Z fi)) (hg : PG X tg (liftG Z g)) (hb : PSs X body (liftS Z f)) (hs : ∀ x, foldedSetIterable iter X.env x = pure x := by intro _; rfl) :
    PS X (.For tg iter body [] pos) (liftS Z (forF fi g f)) := (ps_for hp hc hi hg hb hs).imp fun _ _ _ h => l_for h
theorem s_app (i : Nat) {x : Str} {px apos cpos : Pos} (hb : PE X b (liftE Z fb)) (hN : X.N[i]? = some x := by rfl) (hv : Vis X.env.scope x := by first | exact Or.inl rfl | exact Or.inr (Or.inl rfl) | exact Or.inr (Or.inr rfl)) (hd : (x == ("__debug__" : Str)) = false := by decide)
    (hcd : (x == ("__classdict__" : Str)) = false := by decide) (hbase : attributeBase (.Name x px) "append" X.env (eval (.Name x px) X.env) = eval (.Name x px) X.env := by rfl)
    (hfew : ((backTo cpos (starEach [b] X.env)).all (fun x => !x.1) && (backToKw cpos (keywordEach [] X.env)).all (fun x => x.1.isSome) && decide ([b].length + ([] : List Keyword).length + (if ([] : List Keyword).isEmpty then 0 else 1) < 30)) = true := by rfl)
    (hline : (apos.endLine == cpos.line) = true := by rfl) (hs : starEach [b] X.env = (false, eval b X.env) :: starEach [] X.env := by rfl) (hpl : (backTo cpos (starEach [] X.env)).any (·.1) = false := by rfl) (hsw : swapsWith (.Call (.Attribute (.Name x px) "append" apos) [b] [] cpos) none pos.line X.env = pure false := by rfl) :
    PS X (.Expr (.Call (.Attribute (.Name x px) "append" apos) [b] [] cpos) pos) (liftS Z (appF i fb)) :=
  (ps_expr (pe_bm PySem.F.plainAttrs_list PySem.F.slot_list_append PySem.F.type_list_append mt_append (pe_var (i := i) hN hv hd hcd) (pa_cons hb pa_nil hs) hbase hfew hline hs hpl) hsw).imp fun _ _ _ h => l_app h
end

/-! ### a def, by its body -/
@[simp] noncomputable def outOf (f : FS) (n : Nat) (ds : List D) : Option SV := match f (startD n ds) with
  | some (.rt sv) => some sv
  | some (.nx _) => some (.fz .non)
  | _ => none
theorem body_out {N : List Str} {n : Nat} {f : FS} {vs : List V} {H : Hp} {Q : VK} {E : XK} (h : spOf K n (outOf f N.length) vs H Q E) : ∃ F, liftS (ent H F : Ent K) f { nx := fun _ H' => Q .non H', rt := Q } (L2.start N vs) H := by
  obtain ⟨F, ds, sv, le, r, hn, e, k⟩ := h
  unfold outOf at e
  split at e
  · rename_i sw hf
    cases e
    exact ⟨F, F, _, _, .rt sv, sr_start (N := N) le r, hf, fun v H' F' ns a b c d e' nd ok => k v H' F' ns d a b c e' nd ok⟩
  · rename_i δ hf
    cases e
    exact ⟨F, F, _, _, .nx δ, sr_start (N := N) le r, hf, fun σ' H' F' own' a s' => k .non H' F' [] s'.old a s'.le s'.fro (.fz .non) List.nodup_nil fun _ h => (nomatch h)⟩
  · cases e
noncomputable def spLaw (K : PySem.W.Frag) : Sp := fun vs H Q _ => ∃ (a : Addr) (ns : List Int), vs = [.ref a] ∧ SqL K H a (ns.map V.int) ∧ ns.length ≤ 63 ∧ ∀ H', Q (.bl true) H'
theorem ints_rep {F : Hp} : ∀ ns : List Int, Reps K F (ns.map D.int) (ns.map V.int)
  | [] => .nil
  | n :: r => .cons (.int n) (ints_rep r)
end DL

namespace DL
open PySem PySem.Spec PyProof.Rows L2
variable {K : PySem.W.Frag}
/-! ### == of lists and tuples, however deep -/
@[simp] noncomputable def eqAll (f : D → D → Option Bool) : List D → List D → Option Bool
  | x :: xs, y :: ys => (f x y).bind fun b => (eqAll f xs ys).bind fun c => some (b && c)
  | _, _ => some true
@[simp] noncomputable def eqStep (f : D → D → Option Bool) : D → D → Option Bool
  | .lst xs, .lst ys => if xs.length = ys.length then eqAll f xs ys else some false
  | .tup xs, .tup ys => (eqAll f xs ys).bind fun b => some (b && decide (xs.length = ys.length))
  | .lst _, .tup _ => some false
  | .tup _, .lst _ => some false
  | d1, d2 => eqS d1 d2
@[simp] noncomputable def eqN : Nat → D → D → Option Bool
  | 0 => fun _ _ => none
  | n + 1 => eqStep (eqN n)
theorem eqS_flat {F H : Hp} {d1 d2 : D} {x y : V} {b : Bool} (e : eqS d1 d2 = some b) (r1 : RepN K F H d1 x) (r2 : RepN K F H d2 y) : flatV x = true ∧ flatV y = true ∧ b = eqV x y := by
  unfold eqS at e
  split at e <;> cases e <;> (first | obtain rfl := r1.non | obtain rfl := r1.int | obtain rfl := r1.bl | obtain rfl := r1.str) <;> (first | obtain rfl := r2.non | obtain rfl := r2.int | obtain rfl := r2.bl | obtain rfl := r2.str) <;> refine ⟨rfl, rfl, ?_⟩ <;> first | rfl | simp [eqV]
section
variable {X : Cx} {pins : List (Addr × Obj)} {σ : L2.St} {F H : Hp} {s : Shared}
theorem eqV_same {x y : V} {v : Value} (rx : RelV x v) (ry : RelV y v) (fx : flatV x = true) (fy : flatV y = true) : eqV x y = true := by
  cases x with
  | non => cases rx; cases y with
    | non => rfl
    | bl b => cases ry
    | int b => obtain ⟨t, e⟩ := ry; cases e
    | str b => obtain ⟨t, e⟩ := ry; cases e
    | _ => cases fy
  | bl a => cases rx; cases y with
    | non => cases ry
    | bl b => cases ry; simp [eqV]
    | int b => obtain ⟨t, e⟩ := ry; cases e
    | str b => obtain ⟨t, e⟩ := ry; cases e
    | _ => cases fy
  | int a => obtain ⟨t, rfl⟩ := rx; cases y with
    | non => cases ry
    | bl b => cases ry
    | int b => obtain ⟨t, e⟩ := ry; cases e; simp [eqV]
    | str b => obtain ⟨t, e⟩ := ry; cases e
    | _ => cases fy
  | str a => obtain ⟨t, rfl⟩ := rx; cases y with
    | non => cases ry
    | bl b => cases ry
    | int b => obtain ⟨t, e⟩ := ry; cases e
    | str b => obtain ⟨t, e⟩ := ry; cases e; simp [eqV]
    | _ => cases fy
  | _ => cases fx
theorem isList_fun {h : Heap} {a : Addr} {i1 i2 : Array Value} (h1 : h.IsList a i1) (h2 : h.IsList a i2) : i1 = i2 := by
  obtain ⟨o, e1, c1, n1, d1⟩ := h1
  obtain ⟨o2, e2, c2, n2, d2⟩ := h2
  rw [e1] at e2; cases e2
  rw [d1] at d2; cases d2; rfl
theorem isTuple_fun {h : Heap} {a : Addr} {i1 i2 : Array Value} (h1 : h.IsTuple a i1) (h2 : h.IsTuple a i2) : i1 = i2 := by
  obtain ⟨o, e1, c1, n1, d1⟩ := h1
  obtain ⟨o2, e2, c2, n2, d2⟩ := h2
  rw [e1] at e2; cases e2
  rw [d1] at d2; cases d2; rfl
theorem sameAll {f : D → D → Option Bool} (hf : ∀ d1 d2 b x y v, Rep X.K F d1 x → RelV x v → Rep X.K F d2 y → RelV y v → f d1 d2 = some b → b = true) : ∀ {xs ys : List D} {vs ws : List V} {us : List Value} {b : Bool}, Reps X.K F xs vs → Vals vs us → Reps X.K F ys ws → Vals ws us → eqAll f xs ys = some b → b = true
  | _, _, _, _, _, _, .nil, .nil, .nil, .nil, e => by cases e; rfl
  | _, _, _, _, _, _, .cons r1 t1, .cons v1 w1, .cons r2 t2, .cons v2 w2, e => by
    obtain ⟨b, e1, e2⟩ := Option.bind_eq_some_iff.mp e
    obtain ⟨c, e3, e4⟩ := Option.bind_eq_some_iff.mp e2
    cases e4
    rw [hf _ _ _ _ _ _ r1 v1 r2 v2 e1, sameAll hf t1 w1 t2 w2 e3]; rfl
theorem same_step (I : Inv X pins σ H s) (le : Same F H) {f : D → D → Option Bool} (ih : ∀ (d1 d2 : D) (b : Bool) (x y : V) (v : Value), Rep X.K F d1 x → RelV x v → Rep X.K F d2 y → RelV y v → f d1 d2 = some b → b = true) (d1 d2 : D) (b : Bool) (x y : V) (v : Value) (r1 : Rep X.K F d1 x) (v1 : RelV x v) (r2 : Rep X.K F d2 y) (v2 : RelV y v) (e : eqStep f d1 d2 = some b) : b = true := by
    unfold eqStep at e
    split at e
    · rename_i xs ys
      cases r1 with
      | lst q1 p1 =>
      cases r2 with
      | lst q2 p2 =>
      cases v1; cases v2
      obtain ⟨i1, w1, l1, _⟩ := I.list (sqL_mono le q1)
      obtain ⟨i2, w2, l2, _⟩ := I.list (sqL_mono le q2)
      have z := isList_fun l1.isList l2.isList
      have z : i1 = i2 := by simpa using z
      subst z
      split at e
      · exact sameAll (ih) p1 w1 p2 w2 e
      · rename_i hl
        have h1 := w1.length
        have h2 := w2.length
        have h3 := p1.length
        have h4 := p2.length
        exact absurd (by omega) hl
    · rename_i xs ys
      cases r1 with
      | tup q1 p1 =>
      cases r2 with
      | tup q2 p2 =>
      cases v1; cases v2
      obtain ⟨i1, w1, l1, _⟩ := I.tuple (sqT_mono le (tupSq q1))
      obtain ⟨i2, w2, l2, _⟩ := I.tuple (sqT_mono le (tupSq q2))
      have z := isTuple_fun l1 l2
      have z : i1 = i2 := by simpa using z
      subst z
      obtain ⟨c, e1, e2⟩ := Option.bind_eq_some_iff.mp e
      cases e2
      have h1 := w1.length
      have h2 := w2.length
      have h3 := p1.length
      have h4 := p2.length
      rw [sameAll (ih) p1 w1 p2 w2 e1, decide_eq_true (by omega)]; rfl
    · cases r1 with
      | lst q1 p1 =>
      cases r2 with
      | tup q2 p2 =>
      cases v1; cases v2
      obtain ⟨i1, w1, l1, _⟩ := I.list (sqL_mono le q1)
      obtain ⟨i2, w2, l2, _⟩ := I.tuple (sqT_mono le (tupSq q2))
      exact absurd rfl (SeqAt.ne_of_list_tuple (s := s) l1.isList l2)
    · cases r1 with
      | tup q1 p1 =>
      cases r2 with
      | lst q2 p2 =>
      cases v1; cases v2
      obtain ⟨i1, w1, l1, _⟩ := I.tuple (sqT_mono le (tupSq q1))
      obtain ⟨i2, w2, l2, _⟩ := I.list (sqL_mono le q2)
      exact absurd rfl (SeqAt.ne_of_list_tuple (s := s) l2.isList l1)
    · obtain ⟨f1, f2, rfl⟩ := eqS_flat (H := H) e (RepN.of r1) (RepN.of r2)
      exact eqV_same v1 v2 f1 f2
theorem eqAll_at {A : Around} {f : D → D → Option Bool} (hf : ∀ d1 d2 b x y v u, Rep X.K F d1 x → RelV x v → Rep X.K F d2 y → RelV y u → f d1 d2 = some b → SeqAt.EqAt A s v u b) : ∀ {xs ys : List D} {vs ws : List V} {us zs : List Value} {b : Bool}, Reps X.K F xs vs → Vals vs us → Reps X.K F ys ws → Vals ws zs → eqAll f xs ys = some b →
    ∃ e : Nat → Bool, (∀ j (h1 : j < us.length) (h2 : j < zs.length), SeqAt.EqAt A s us[j] zs[j] (e j)) ∧ (List.range (min us.length zs.length)).all e = b
  | _, _, _, _, _, _, _, .nil, .nil, _, _, e => by cases e; exact ⟨fun _ => true, fun j h1 => absurd h1 (Nat.not_lt_zero _), by simp⟩
  | _, _, _, _, _, _, _, .cons r1 t1, .cons v1 w1, .nil, .nil, e => by cases e; exact ⟨fun _ => true, fun j _ h2 => absurd h2 (Nat.not_lt_zero _), by simp⟩
  | _, _, _, _, _, _, _, .cons r1 t1, .cons v1 w1, .cons r2 t2, .cons v2 w2, e => by
    obtain ⟨b, e1, e2⟩ := Option.bind_eq_some_iff.mp e
    obtain ⟨c, e3, e4⟩ := Option.bind_eq_some_iff.mp e2
    cases e4
    obtain ⟨g, g1, g2⟩ := eqAll_at hf t1 w1 t2 w2 e3
    refine ⟨fun | 0 => b | j + 1 => g j, fun j h1 h2 => ?_, ?_⟩
    · cases j with
      | zero => exact hf _ _ _ _ _ _ _ r1 v1 r2 v2 e1
      | succ j => exact g1 j (Nat.lt_of_succ_lt_succ h1) (Nat.lt_of_succ_lt_succ h2)
    · rw [List.length_cons, List.length_cons, Nat.succ_min_succ, List.range_succ_eq_map, List.all_cons, List.all_map, ← g2]
      rfl
theorem rcN (I : Inv X pins σ H s) (le : Same F H) {A : Around} {f : D → D → Option Bool} {d1 d2 : D} {b : Bool} {x y : V} {v u : Value}
    (ih : ∀ d1 d2 b x y v u, Rep X.K F d1 x → RelV x v → Rep X.K F d2 y → RelV y u → f d1 d2 = some b → SeqAt.EqAt A.in1 s v u b) (r1 : RepN X.K F H d1 x) (v1 : RelV x v) (r2 : RepN X.K F H d2 y) (v2 : RelV y u)
    (e : eqStep f d1 d2 = some b) (hu : A.units < cLine) (hr : flatV x = false ∨ flatV y = false) : (∃ a c, v = .ref a ∧ u = .ref c) ∧ SeqAt.RcAt A s v u b ∧ SeqAt.RcNeAt A s v u (!b) := by
  unfold eqStep at e
  split at e
  · obtain ⟨a1, vs1, rfl, q1, p1⟩ := r1.lst le
    obtain ⟨a2, vs2, rfl, q2, p2⟩ := r2.lst le
    cases v1; cases v2
    obtain ⟨i1, w1, l1, _⟩ := I.list q1
    obtain ⟨i2, w2, l2, _⟩ := I.list q2
    have h1 := w1.length
    have h2 := w2.length
    have h3 := p1.length
    have h4 := p2.length
    refine ⟨⟨_, _, rfl, rfl⟩, ?_⟩
    split at e
    · rename_i hl
      obtain ⟨g, g1, g2⟩ := eqAll_at ih p1 w1 p2 w2 e
      have hm : min i1.length i2.length = i1.toArray.size := by simp; omega
      rw [hm] at g2
      subst g2
      have hz : i1.toArray.size = i2.toArray.size := by simp; omega
      exact ⟨SeqAt.RcAt.lists l1.isList l2.isList hz hu (fun j j1 j2 => by simpa using g1 j (by simpa using j1) (by simpa using j2)), SeqAt.RcNeAt.lists l1.isList l2.isList hz hu (fun j j1 j2 => by simpa using g1 j (by simpa using j1) (by simpa using j2))⟩
    · rename_i hl
      cases e
      have hz : (i1.toArray.size != i2.toArray.size) = true := by simp; omega
      exact ⟨SeqAt.RcAt.lists_lengths l1.isList l2.isList hz hu, SeqAt.RcNeAt.lists_lengths l1.isList l2.isList hz hu⟩
  · rename_i xs ys
    obtain ⟨a1, vs1, rfl, q1, p1⟩ := r1.tup le
    obtain ⟨a2, vs2, rfl, q2, p2⟩ := r2.tup le
    cases v1; cases v2
    obtain ⟨i1, w1, l1, _⟩ := I.tuple q1
    obtain ⟨i2, w2, l2, _⟩ := I.tuple q2
    have h1 := w1.length
    have h2 := w2.length
    have h3 := p1.length
    have h4 := p2.length
    obtain ⟨c, e1, e2⟩ := Option.bind_eq_some_iff.mp e
    cases e2
    refine ⟨⟨_, _, rfl, rfl⟩, ?_⟩
    obtain ⟨g, g1, g2⟩ := eqAll_at ih p1 w1 p2 w2 e1
    subst g2
    have e3 : ((List.range (min i1.length i2.length)).all g && decide (xs.length = ys.length)) = ((List.range (min i1.toArray.size i2.toArray.size)).all g && i1.toArray.size == i2.toArray.size) := by
      have : (i1.toArray.size == i2.toArray.size) = decide (xs.length = ys.length) := by
        rw [List.size_toArray, List.size_toArray, ← h1, ← h2, ← h3, ← h4]; rfl
      rw [this]; simp
    rw [e3]
    exact ⟨SeqAt.RcAt.tuples l1 l2 hu (fun j j1 j2 => by simpa using g1 j (by simpa using j1) (by simpa using j2)), SeqAt.RcNeAt.tuples l1 l2 hu (fun j j1 j2 => by simpa using g1 j (by simpa using j1) (by simpa using j2))⟩
  · obtain ⟨a1, vs1, rfl, q1, p1⟩ := r1.lst le
    obtain ⟨a2, vs2, rfl, q2, p2⟩ := r2.tup le
    cases v1; cases v2
    cases e
    obtain ⟨i1, w1, l1, _⟩ := I.list q1
    obtain ⟨i2, w2, l2, _⟩ := I.tuple q2
    exact ⟨⟨_, _, rfl, rfl⟩, SeqAt.RcAt.list_tuple l1.isList l2 hu, SeqAt.RcNeAt.list_tuple l1.isList l2 hu⟩
  · obtain ⟨a1, vs1, rfl, q1, p1⟩ := r1.tup le
    obtain ⟨a2, vs2, rfl, q2, p2⟩ := r2.lst le
    cases v1; cases v2
    cases e
    obtain ⟨i1, w1, l1, _⟩ := I.tuple q1
    obtain ⟨i2, w2, l2, _⟩ := I.list q2
    exact ⟨⟨_, _, rfl, rfl⟩, SeqAt.RcAt.tuple_list l1 l2.isList hu, SeqAt.RcNeAt.tuple_list l1 l2.isList hu⟩
  · obtain ⟨f1, f2, _⟩ := eqS_flat e r1 r2
    rcases hr with hr | hr
    · rw [f1] at hr; cases hr
    · rw [f2] at hr; cases hr
noncomputable def rEqN (K : PySem.W.Frag) (neg : Bool) : R2 := fun x y H Q => ∃ F d1 d2 b, Same F H ∧ RepN K F H d1 x ∧ RepN K F H d2 y ∧ eqN 48 d1 d2 = some b ∧ (flatV x = false ∨ flatV y = false) ∧ Q (.bl (if neg then !b else b)) H
end

@[simp] noncomputable def D.isFlat : D → Bool
  | .non => true | .bl _ => true | .int _ => true | .str _ => true | _ => false
@[simp] noncomputable def eqX (d1 d2 : D) : Option SV := if d1.isFlat = true ∧ d2.isFlat = true then eqD d1 d2 else (eqN 48 d1 d2).bind fun b => some (.fz (.bl b))
@[simp] noncomputable def neX (d1 d2 : D) : Option SV := if d1.isFlat = true ∧ d2.isFlat = true then neD d1 d2 else (eqN 48 d1 d2).bind fun b => some (.fz (.bl !b))
theorem notFlat_ok {F H : Hp} {d : D} {x : V} (r : RepN K F H d x) (h : d.isFlat = false) : flatV x = false := by
  obtain ⟨sv, ns, e, n, sh, hp⟩ := r
  cases sh with
  | fz r => cases e; cases r <;> first | rfl | cases h
  | ol r => rfl
  | oK e' r => rfl
  | oT e' r => rfl
  | oN e' r => rfl
section
variable {Z : Ent K}
@[simp] noncomputable def negD : D → Option SV
  | .int i => some (.fz (.int (-i)))
  | _ => none
end
section
variable {X : Cx} {Z : Ent X.K} {a b c : Expr} {fa fb fc : FE} {pos : Pos}
end
end DL

/-! TEXTS: walked, cut at a text, cut in three; all(..) -/
namespace L2
open PySem PySem.Spec PyProof.Rows
section
variable {X : Cx} {tg : Expr}
noncomputable def Its (z : Str) : It := ⟨fun i _ => i < z.length, fun i H x H' => H' = H ∧ ∃ c, z.cps[i]? = some c ∧ x = .str ⟨#[c]⟩, fun i _ => z.length ≤ i⟩
theorem turn_text {P : Program} {w : World} {K : PySem.W.Frag} {tg : Expr} (z : Str) (t : Tok) (it : Addr) : Turn P w K tg (Its z) [it] it (fun i h => h.IsStrIter it (strIterType z) z t i) where
  mem := by simp
  obj := fun i h st b hb => by
    have e : b = it := by simpa using hb
    subst e
    obtain ⟨o, e, c, d⟩ := st
    exact ⟨o, e, fun v q => by rw [d] at q; cases q⟩
  keep := fun i h h' st k => by
    obtain ⟨o, e, c, d⟩ := st
    exact ⟨o, k it (by simp) o e, c, d⟩
  item := by
    intro X hP hw hK hc i pins s σ H E I hf st hg
    subst hP hw hK
    obtain ⟨f0, f1, f2, f3, f4, f5⟩ := hf it (by simp)
    have hlt : i < z.cps.size := hg
    have hx : z.cps[i]? = some z.cps[i] := by simp [hlt]
    have fin : ∀ h', h'.IsStrIter it (strIterType z) z t (i + 1) → Heap.SameBut it s.heap h' → ∃ u, some (Value.str ⟨#[z.cps[i]]⟩ s.toks) = some u ∧ wpAny (model X.prog X.w) X.A (letOwnedTupleGo tg (.ref it) u) (fun _ s2 => ∃ x H', Inv X pins σ H' s2 ∧ RelV x u ∧ (Its z).yld i H x H' ∧ s2.heap.IsStrIter it (strIterType z) z t (i + 1) ∧ ∀ b ∈ [it], H' b = none) E { s with heap := h', toks := s.toks + 1 } := fun h' st' sb => by
      have I1 : Inv X pins σ H { s with heap := h', toks := s.toks + 1 } := I.turned (t' := s.toks + 1) (fun b o hb q => (sb.2 b hb).trans q) f0 f1 f3 f4 f5
      obtain ⟨o, e, c, d⟩ := id st'
      have hn : ["enumerate", "zip", "dict_itemiterator", "dict_reverseitemiterator", "odict_iterator", "itertools.zip_longest", "itertools.pairwise"].contains (strIterType z) = false := by
        unfold strIterType
        split <;> decide
      exact ⟨_, rfl, go_of (s := { s with heap := h', toks := s.toks + 1 }) e c d hn ⟨.str ⟨#[z.cps[i]]⟩, H, I1, ⟨_, rfl⟩, ⟨rfl, _, hx, rfl⟩, st', fun b hb => (hf b hb).1⟩⟩
    cases ha : z.cps.all (· < 128) with
    | false =>
      have et : strIterType z = "str_iterator" := by unfold strIterType; rw [ha]; rfl
      rw [et] at st fin
      rw [et]
      exact wpAny_pyNext_wide_item st hx fin
    | true =>
      have et : strIterType z = "str_ascii_iterator" := by unfold strIterType; rw [ha]; rfl
      rw [et] at st fin
      rw [et]
      exact wpAny_pyNext_ascii_item st hx fin
  done := by
    intro X hP hw hK hc i pins s σ H E I hf st hg
    subst hP hw hK
    obtain ⟨f0, f1, f2, f3, f4, f5⟩ := hf it (by simp)
    have hge : z.cps.size ≤ i := hg
    have hx : z.cps[i]? = none := by simp [hge]
    cases ha : z.cps.all (· < 128) with
    | false =>
      have et : strIterType z = "str_iterator" := by unfold strIterType; rw [ha]; rfl
      rw [et] at st
      exact wpAny_pyNext_wide_end (I.ok.hd hc) st hx fun h' eb => ⟨rfl, I.turned (t' := s.toks) (fun b o hb q => eb b o hb q) f0 f1 f3 f4 f5⟩
    | true =>
      have et : strIterType z = "str_ascii_iterator" := by unfold strIterType; rw [ha]; rfl
      rw [et] at st
      exact wpAny_pyNext_ascii_end (I.ok.hd hc) st hx fun h' eb => ⟨rfl, I.turned (t' := s.toks) (fun b o hb q => eb b o hb q) f0 f1 f3 f4 f5⟩
  self := fun _ _ _ _ _ st h => by
    cases ha : z.cps.all (· < 128) with
    | false =>
      have et : strIterType z = "str_iterator" := by unfold strIterType; rw [ha]; rfl
      rw [et] at st
      exact wpAny_pyIter_striter_wide st h
    | true =>
      have et : strIterType z = "str_ascii_iterator" := by unfold strIterType; rw [ha]; rfl
      rw [et] at st
      exact wpAny_pyIter_striter_ascii st h
noncomputable def iAny (K : PySem.W.Frag) (tl : TE) : TI := fun σ H R => tl σ H fun x H1 => (∃ a, x = .ref a ∧ (∃ xs, SqL K H1 a xs) ∧ R (Itl K a) H1) ∨ (∃ a, x = .ref a ∧ (∃ xs, SqT K H1 a xs) ∧ R (Itt K a) H1) ∨ (∃ z, x = .str z ∧ R (Its z) H1)
theorem pi_any {l : Expr} {tl : TE} (hl : PE X l tl) : PI X tg l (iAny X.K tl) := by
  intro pins s σ H R I h
  refine thn (hl pins s σ H _ I h) fun v s1 ⟨x, H1, I1, r1, q1⟩ => ?_
  rcases q1 with ⟨a, e, ⟨xs, hq⟩, q⟩ | ⟨a, e, ⟨xs, hq⟩, q⟩ | ⟨z, e, q⟩
  · subst e
    cases r1
    obtain ⟨its, rv, p, hz⟩ := I1.list hq
    refine wpAny_pyIter_list p.isList ?_
    refine ⟨s1.heap.objs.size, [s1.heap.objs.size], _, _, H1, rfl, I1.kept (t' := s1.toks) fun b o e => Heap.get?_push_of_some _ e, turn_list a _, ⟨_, Heap.get?_push_size _ rfl, rfl, rfl⟩, fun b hb => ?_, q⟩
    have e : b = s1.heap.objs.size := by simpa using hb
    subst e
    exact I1.fpOk (Nat.le_refl _) (I1.hok.fresh (Nat.le_refl _))
  · subst e
    cases r1
    obtain ⟨its, rv, p, hz⟩ := I1.tuple hq
    refine wpAny_pyIter_tuple (show s1.heap.IsTuple a its.toArray from p) ?_
    refine ⟨s1.heap.objs.size, [s1.heap.objs.size], _, _, H1, rfl, I1.kept (t' := s1.toks) fun b o e => Heap.get?_push_of_some _ e, turn_tuple a _, ⟨_, Heap.get?_push_size _ rfl, rfl, rfl⟩, fun b hb => ?_, q⟩
    have e : b = s1.heap.objs.size := by simpa using hb
    subst e
    exact I1.fpOk (Nat.le_refl _) (I1.hok.fresh (Nat.le_refl _))
  · subst e
    obtain ⟨t, rfl⟩ := r1
    refine wpAny_pyIter_strU ?_
    refine ⟨s1.heap.objs.size, [s1.heap.objs.size], _, _, H1, rfl, I1.kept (t' := s1.toks) fun b o e => Heap.get?_push_of_some _ e, turn_text z t _, ⟨_, Heap.get?_push_size _ rfl, rfl, rfl⟩, fun b hb => ?_, q⟩
    have e : b = s1.heap.objs.size := by simpa using hb
    subst e
    exact I1.fpOk (Nat.le_refl _) (I1.hok.fresh (Nat.le_refl _))
/-! ### x.split(y), x.partition(y) -/
theorem vals_strs : ∀ l : List (Str × Tok), Vals ((l.map (·.1)).map V.str) (strValues l)
  | [] => .nil
  | (x, t) :: r => .cons ⟨t, rfl⟩ (vals_strs r)
noncomputable def rSplit : V → List V → Hp → VK → Prop := fun x xs H Q => ∃ a b, x = .str a ∧ xs = [.str b] ∧ (b.length == 0) = false ∧ a.length ≤ sizeLine ∧ (Txt.split a b).length ≤ sizeLine ∧ ∀ p, H p = none → Q (.ref p) (upd H p (.lst ((Txt.split a b).map V.str)))
theorem mt_split : MtR X "str.split" rSplit := by
  intro pins s σ H x xs v us Q I rx rs h
  obtain ⟨a, b, rfl, rfl, hb, ha, hz, q⟩ := h
  obtain ⟨t, rfl⟩ := rx
  obtain ⟨u, rfl, ru⟩ := vals1 rs
  obtain ⟨t', rfl⟩ := ru
  have one : Txt.split a b = [a] → ∀ tk, EP X pins σ Q (.ref s.heap.objs.size) { s with toks := tk, heap := s.heap.push { cls := .type "list", data := .seq #[.str a t] } } := fun e tk => by
    rw [e] at q
    exact ⟨.ref _, _, I.lnew (t' := tk) (ys := [.str a]) (its := [.str a t]) (.cons ⟨t, rfl⟩ .nil) (by show 1 ≤ sizeLine; decide), rfl, q _ I.fresh⟩
  cases h1 : (decide (a.length < b.length) || decide (Builtin.Str.strKind a < Builtin.Str.strKind b))
  · cases hf : (Builtin.Str.occurrences a b 0 a.length (a.length + 1)).isEmpty
    · have e : Txt.split a b = Builtin.Str.partsBetween a (Builtin.Str.occurrences a b 0 a.length (a.length + 1)) b.length := (if_neg (ne_true_of_eq_false h1)).trans (if_neg (ne_true_of_eq_false hf))
      rw [e] at hz q
      refine call_meets F.slot_str_split (typeIs_str _ _ _) F.entry_str_split (F.args_str_split_2 _ _) (meets_str_split_sep a b t t' h1 hb hf ha hz) ?_
      rw [strsFrom_eq]
      have hv := vals_strs (numbered s.toks (Builtin.Str.partsBetween a (Builtin.Str.occurrences a b 0 a.length (a.length + 1)) b.length))
      rw [numbered_texts] at hv
      exact ⟨.ref _, _, I.lnew (t' := _) hv (by rw [List.length_map]; exact hz), rfl, q _ I.fresh⟩
    · exact call_meets F.slot_str_split (typeIs_str _ _ _) F.entry_str_split (F.args_str_split_2 _ _) (meets_str_split_not_found a b t t' h1 hb hf) (one ((if_neg (ne_true_of_eq_false h1)).trans (if_pos hf)) s.toks)
  · exact call_meets F.slot_str_split (typeIs_str _ _ _) F.entry_str_split (F.args_str_split_2 _ _) (meets_str_split_cannot_occur a b t t' h1) (one (if_pos h1) s.toks)
noncomputable def rPart : V → List V → Hp → VK → Prop := fun x xs H Q => ∃ a b, x = .str a ∧ xs = [.str b] ∧ (b.length == 0) = false ∧ a.length ≤ sizeLine ∧ ∀ p, H p = none → Q (.ref p) (upd H p (.tup [.str (Txt.partition a b).1, .str (Txt.partition a b).2.1, .str (Txt.partition a b).2.2]))
theorem Inv.tnew {pins : List (Addr × Obj)} {σ : L2.St} {H : Hp} {s : Shared} {ys : List V} {its : List Value} {t' : Nat} (I : Inv X pins σ H s) (hv : Vals ys its) (hz : ys.length ≤ sizeLine) :
    Inv X pins σ (upd H s.heap.objs.size (.tup ys)) { s with heap := s.heap.push { cls := .type "tuple", data := .seq its.toArray }, toks := t' } :=
  I.laid (fun _ _ q => Heap.get?_push_of_some _ q) (Nat.le_refl _) ⟨hz, its, hv, ⟨_, Heap.get?_push_size _ rfl, rfl, _, rfl⟩⟩
theorem mt_part : MtR X "str.partition" rPart := by
  intro pins s σ H x xs v us Q I rx rs h
  obtain ⟨a, b, rfl, rfl, hb, ha, q⟩ := h
  obtain ⟨t, rfl⟩ := rx
  obtain ⟨u, rfl, ru⟩ := vals1 rs
  obtain ⟨t', rfl⟩ := ru
  refine call_meets F.slot_str_partition (typeIs_str _ _ _) F.entry_str_partition (F.args_str_partition_2 _ _) (meets_str_partition a b t t' hb ha) ?_
  unfold Txt.partition at q
  cases e : Builtin.Str.occurrences a b 0 a.length 1 with
  | nil =>
    rw [e] at q
    exact ⟨.ref _, _, I.tnew (t' := s.toks + 1) (ys := [.str a, .str Str.empty, .str Str.empty]) (its := [.str a t, .str Str.empty s.toks, .str Str.empty s.toks]) (.cons ⟨_, rfl⟩ (.cons ⟨_, rfl⟩ (.cons ⟨_, rfl⟩ .nil))) (by show 3 ≤ sizeLine; decide), rfl, q _ I.fresh⟩
  | cons i r =>
    rw [e] at q
    exact ⟨.ref _, _, I.tnew (t' := s.toks + 1 + 1) (ys := [.str (Builtin.Str.strSub a 0 i), .str b, .str (Builtin.Str.strSub a (i + b.length) a.length)]) (its := [.str (Builtin.Str.strSub a 0 i) s.toks, .str b t',   .str (Builtin.Str.strSub a (i + b.length) a.length) (s.toks + 1)]) (.cons ⟨_, rfl⟩ (.cons ⟨_, rfl⟩ (.cons ⟨_, rfl⟩ .nil))) (by show 3 ≤ sizeLine; decide), rfl, q _ I.fresh⟩
/-! ### all(a list of bools) -/
noncomputable def rAll (K : PySem.W.Frag) : List V → Hp → VK → Prop := fun xs H Q => ∃ (p : Addr) (bs : List Bool), xs = [.ref p] ∧ SqL K H p (bs.map V.bl) ∧ Q (.bl (bs.all id)) H
theorem bools_of : ∀ {bs : List Bool} {us : List Value}, Vals (bs.map V.bl) us → us = bs.map Value.bool
  | [], _, r => by rw [List.map_nil] at r; cases r; rfl
  | b :: bs, _, r => by
    rw [List.map_cons] at r
    cases r with
    | cons h t =>
      cases (show _ = Value.bool b from h)
      rw [bools_of t]; rfl
theorem range_all : ∀ bs : List Bool, (List.range bs.length).all (fun i => (bs[i]?).getD true) = bs.all id
  | [] => rfl
  | b :: bs => by
    rw [List.length_cons, List.range_succ_eq_map, List.all_cons, List.all_map, List.all_cons, ← range_all bs]
    rfl
theorem call_all (hc : X.calm = true) : CallR X (.builtin "all") (rAll X.K) := by
  intro pins s σ H xs us Q I rs h
  obtain ⟨p, bs, rfl, hq, q⟩ := h
  obtain ⟨u, rfl, ru⟩ := vals1 rs
  cases ru
  obtain ⟨its, rv, pl, hz⟩ := I.list hq
  have e := bools_of rv
  subst e
  refine call_all_walk (wpAny_pyIter_list pl.isList ?_)
  have hne : p ≠ s.heap.objs.size := fun z => by
    obtain ⟨o, ho, _⟩ := pl.isList
    have := Heap.lt_size ho
    rw [z] at this; exact Nat.lt_irrefl _ this
  refine ⟨s.heap.objs.size, _, _, _, _, _, fun i => (bs[i]?).getD true, rfl, Walks.list (by first | exact I.ok.hd hc | (rw [show X.A.in1.handled = X.A.handled from rfl]; exact I.ok.hd hc)) _ p hne (bs.map Value.bool).toArray, ⟨⟨_, Heap.get?_push_size _ rfl, rfl, rfl⟩, pl.isList.at fun o e => Heap.get?_push_of_some _ e⟩, ?_, fun h' tk hk => ?_⟩
  · intro i v s' Q' E' hP hQ
    have hP' : (bs.map Value.bool)[i]? = some v := by simpa using hP
    rw [List.getElem?_map] at hP'
    cases hb : bs[i]? with
    | none => rw [hb] at hP'; cases hP'
    | some b =>
      rw [hb] at hP'
      cases hP'
      dsimp only at hQ
      rw [hb] at hQ
      exact wpAny_truthy_bool hQ
  · have e : (List.range (bs.map Value.bool).toArray.size).all (fun i => (bs[i]?).getD true) = bs.all id := by
      rw [List.size_toArray, List.length_map]; exact range_all bs
    rw [e]
    refine ⟨.bl _, H, I.kept (t' := tk) fun b o hb => hk b o (fun z => ?_) (Heap.get?_push_of_some _ hb), rfl, q⟩
    have z' : b = s.heap.objs.size := by simpa using z
    have := Heap.lt_size hb
    rw [z'] at this; exact Nat.lt_irrefl _ this
end
end L2

namespace DL
open PySem PySem.Spec PyProof.Rows L2
variable {K : PySem.W.Frag}
/-! ### what is walked: a list, a tuple, a text -/
noncomputable def signs (z : Str) : List D := z.cps.toList.map fun c => .str ⟨#[c]⟩
theorem yields_text {z : Str} {F : Hp} : Yields K (Its z) F (signs z) := fun F' H sF sH i => by
  have hl : (signs z).length = z.length := by unfold signs; rw [List.length_map]; rfl
  refine ⟨fun d hd => ?_, fun h => by rw [hl] at h; exact h⟩
  have hi : i < z.length := by
    have := (List.getElem?_eq_some_iff.mp hd).1
    rw [hl] at this; exact this
  refine ⟨hi, fun x H' ⟨e1, c, e2, e3⟩ => ?_⟩
  subst e1 e3
  unfold signs at hd
  rw [List.getElem?_map] at hd
  have e4 : z.cps.toList[i]? = some c := by simpa using e2
  rw [e4] at hd
  cases hd
  exact ⟨Same.refl _, [], List.nodup_nil, fun _ h => (nomatch h), .str _⟩
section
variable {Z : Ent K} {H : Hp} {σ : L2.St} {Q : VK} {E : Ends}
@[simp] noncomputable def anyI (fe : FE) : FD := fun δ => (fe δ).bind fun p => (frz p.1 p.2).bind fun q => match q.1 with
  | .lst xs => some (xs, q.2)
  | .tup xs => some (xs, q.2)
  | .str z => some (signs z, q.2)
  | _ => none
theorem l_anyI {fe : FE} {R : It → Hp → Prop} (h : liftI Z (anyI fe) σ H R) : iAny K (liftE Z fe) σ H R := by
  obtain ⟨F, δ, own, ds, δ', s, e, k⟩ := h
  obtain ⟨⟨rv, δ1⟩, e1, e2⟩ := Option.bind_eq_some_iff.mp e
  obtain ⟨⟨d, δ2⟩, e3, e4⟩ := Option.bind_eq_some_iff.mp e2
  refine ⟨F, δ, own, rv, δ1, s, e1, fun v H1 F1 own1 sH sF s1 r1 => ?_⟩
  obtain ⟨F2, sF2, s2, r2⟩ := s1.settleR r1
  obtain ⟨F3, own3, sF3, s3, r3⟩ := s2.frzR r2 e3
  dsimp only at e4
  split at e4
  · cases e4
    cases r3 with
    | lst h r => exact .inl ⟨_, rfl, ⟨_, sqL_mono s3.le h⟩, k _ H1 F3 own3 sH (sF.trans (sF2.trans sF3)) s3 (yields_list h r)⟩
  · cases e4
    cases r3 with
    | tup h r => exact .inr (.inl ⟨_, rfl, ⟨_, sqT_mono s3.le (tupSq h)⟩, k _ H1 F3 own3 sH (sF.trans (sF2.trans sF3)) s3 (yields_tup (tupSq h) r)⟩)
  · cases e4
    cases r3 with
    | str x => exact .inr (.inr ⟨_, rfl, k _ H1 F3 own3 sH (sF.trans (sF2.trans sF3)) s3 yields_text⟩)
  · cases e4
/-! ### in -/
@[simp] noncomputable def inS (i j : Str) : Bool := !(Builtin.Str.occurrences j i 0 j.length 1).isEmpty
@[simp] noncomputable def inD : D → D → Option SV
  | .str i, .str j => some (.fz (.bl (inS i j)))
  | _, _ => none
@[simp] noncomputable def notinD : D → D → Option SV
  | .str i, .str j => some (.fz (.bl (!inS i j)))
  | _, _ => none
theorem p_in : Prim2 Z (fun x y H Q => ∃ i j, x = .str i ∧ y = .str j ∧ Q (.bl (!(Builtin.Str.occurrences j i 0 j.length 1).isEmpty)) H) inD := by
  intro F H σ δ own x y d1 d2 sv Q s r1 r2 e k
  unfold inD at e
  split at e
  · cases e; exact ⟨_, _, r1.str, r2.str, k.fz s (.bl _)⟩
  · cases e
/-! ### split, partition, all -/
@[simp] noncomputable def splitD : List D → Option SV
  | [.str a, .str b] => if (b.length == 0) = false ∧ a.length ≤ PySem.sizeLine ∧ (Txt.split a b).length ≤ PySem.sizeLine then some (.ol ((Txt.split a b).map D.str)) else none
  | _ => none
theorem strs_reps {F : Hp} : ∀ xs : List Str, Reps K F (xs.map D.str) (xs.map V.str)
  | [] => .nil
  | x :: r => .cons (.str x) (strs_reps r)
theorem p_split : PrimM Z rSplit splitD := by
  intro F H σ δ own vs ds sv Q s r e k
  unfold splitD at e
  split at e
  · rename_i a b
    split at e
    · rename_i h
      cases e
      cases r with
      | cons h1 t => cases t with
        | cons h2 t => cases t; exact ⟨_, _, rfl, a, b, h1.str, by rw [h2.str], h.1, h.2.1, h.2.2, fun p hp => k.lst s (strs_reps _) hp⟩
    · cases e
  · cases e
@[simp] noncomputable def partitionD : List D → Option SV
  | [.str a, .str b] => if (b.length == 0) = false ∧ a.length ≤ PySem.sizeLine then some (.fz (.tup [.str (Txt.partition a b).1, .str (Txt.partition a b).2.1, .str (Txt.partition a b).2.2])) else none
  | _ => none
theorem p_partition : PrimM Z rPart partitionD := by
  intro F H σ δ own vs ds sv Q s r e k
  unfold partitionD at e
  split at e
  · rename_i a b
    split at e
    · rename_i h
      cases e
      cases r with
      | cons h1 t => cases t with
        | cons h2 t => cases t; exact ⟨_, _, rfl, a, b, h1.str, by rw [h2.str], h.1, h.2, fun p hp => k.tup s (.cons (.str _) (.cons (.str _) (.cons (.str _) .nil))) hp⟩
    · cases e
  · cases e
@[simp] noncomputable def bools? : List D → Option (List Bool)
  | [] => some []
  | .bl x :: r => (bools? r).bind fun t => some (x :: t)
  | _ => none
theorem bools_ok {F : Hp} : ∀ {ds : List D} {xs : List Bool} {vs : List V}, bools? ds = some xs → Reps K F ds vs → vs = xs.map V.bl
  | [], _, _, e, r => by cases e; cases r; rfl
  | d :: ds, _, _, e, r => by
    cases r with
    | cons h t =>
      unfold bools? at e
      split at e
      · rename_i e0; cases e0
      · rename_i x r0 e0
        cases e0
        obtain ⟨ys, e1, e2⟩ := Option.bind_eq_some_iff.mp e
        cases e2
        cases h
        rw [bools_ok e1 t]; rfl
      · cases e
@[simp] noncomputable def allD : List D → Option SV
  | [.lst xs] => (bools? xs).bind fun bs => some (.fz (.bl (bs.all id)))
  | _ => none
theorem p_all : PrimN Z (rAll K) allD := by
  intro F H σ δ own vs ds sv Q s r e k
  unfold allD at e
  split at e
  · obtain ⟨bs, e1, e2⟩ := Option.bind_eq_some_iff.mp e
    cases e2
    cases r with
    | cons h1 t =>
      cases t
      obtain ⟨a, vs, rfl, ha, ra⟩ := h1.lst s.le
      rw [bools_ok e1 ra] at ha
      exact ⟨a, bs, rfl, ha, k.fz s (.bl _)⟩
  · cases e
/-! x.clear() -/
@[simp] noncomputable def clearF (i : Nat) : FS := fun δ => match δ[i]? with
  | some (some (.ol _)) => some (.nx (δ.set i (some (.ol []))))
  | _ => none
end
/-! ## the rules -/
section
variable {X : Cx} {Z : Ent X.K} {a b c : Expr} {fa fb fc : FE} {pos : Pos} {tg : Expr}
theorem i_any (ha : PE X a (liftE Z fa)) : PI X tg a (liftI Z (anyI fa)) := fun pins s σ H R I h => pi_any ha pins s σ H R I (l_anyI h)
theorem e_split {apos cpos : Pos} (ha : PE X a (liftE Z fa)) (hb : PE X b (liftE Z fb)) (hbase : attributeBase a "split" X.env (eval a X.env) = eval a X.env := by rfl)
    (hfew : ((backTo cpos (starEach [b] X.env)).all (fun x => !x.1) && (backToKw cpos (keywordEach [] X.env)).all (fun x => x.1.isSome) && decide ([b].length + ([] : List Keyword).length + (if ([] : List Keyword).isEmpty then 0 else 1) < 30)) = true := by rfl)
    (hline : (apos.endLine == cpos.line) = true := by rfl) (hs : starEach [b] X.env = (false, eval b X.env) :: starEach [] X.env := by rfl) (hpl : (backTo cpos (starEach [] X.env)).any (·.1) = false := by rfl) :
    PE X (.Call (.Attribute a "split" apos) [b] [] cpos) (liftE Z (bmF "str" splitD fa (argCons fb argNil))) :=
  (pe_bm PySem.F.plainAttrs_str PySem.F.slot_str_split PySem.F.type_str_split mt_split ha (a_cons hb a_nil hs) hbase hfew hline hs hpl).imp fun _ _ _ h => l_bm p_split h
theorem e_partition {apos cpos : Pos} (ha : PE X a (liftE Z fa)) (hb : PE X b (liftE Z fb)) (hbase : attributeBase a "partition" X.env (eval a X.env) = eval a X.env := by rfl)
    (hfew : ((backTo cpos (starEach [b] X.env)).all (fun x => !x.1) && (backToKw cpos (keywordEach [] X.env)).all (fun x => x.1.isSome) && decide ([b].length + ([] : List Keyword).length + (if ([] : List Keyword).isEmpty then 0 else 1) < 30)) = true := by rfl)
    (hline : (apos.endLine == cpos.line) = true := by rfl) (hs : starEach [b] X.env = (false, eval b X.env) :: starEach [] X.env := by rfl) (hpl : (backTo cpos (starEach [] X.env)).any (·.1) = false := by rfl) :
    PE X (.Call (.Attribute a "partition" apos) [b] [] cpos) (liftE Z (bmF "str" partitionD fa (argCons fb argNil))) :=
  (pe_bm PySem.F.plainAttrs_str PySem.F.slot_str_partition PySem.F.type_str_partition mt_part ha (a_cons hb a_nil hs) hbase hfew hline hs hpl).imp fun _ _ _ h => l_bm p_partition h
theorem e_all {p : Pos} (hm : X.mg "all" = none) (ha : PE X a (liftE Z fa)) (hc : X.calm = true := by rfl) (hg : Gl X "all" := by rfl) (he : starEach [a] X.env = (false, eval a X.env) :: starEach [] X.env := by rfl) (hpl : (backTo pos (starEach [] X.env)).any (·.1) = false := by rfl) : PE X (.Call (.Name "all" p) [a] [] pos) (liftE Z (primF allD (argCons fa argNil))) :=
  e_callB (call_all hc) p_all hm boot_all (a_cons ha a_nil he) hg (by decide) (by decide) he hpl
end
end DL

/-! enumerate(a tuple) -/
namespace L2
open PySem PySem.Spec PyProof.Rows
open AutoSeq1 (wpAny_loadPart')
section
variable {prog : Program} {w : World} {A : Around} {E : Value → Shared → Prop} {s : Shared}
theorem nextOf_tup_item {it t : Addr} {i : Nat} {items : Array Value} {x : Value} {Q : Value → Shared → Prop} (hit : s.heap.IsTupleIter it t i) (ht : s.heap.IsTuple t items) (hx : items[i]? = some x)
    (hQ : ∀ h', h'.IsTupleIter it t (i + 1) → Heap.SameBut it s.heap h' → Q x { s with heap := h' }) : wpAny (model prog w) A (Builtin.SmallTypes.nextOf (.ref it)) Q E s := by
  obtain ⟨o, ho, hc, hd⟩ := id hit; obtain ⟨ol, hol, _, nl, hdl⟩ := ht; unfold Builtin.SmallTypes.nextOf
  refine wpAny_bind (wpAny_callSpecial?_slot (name := Str.ofString "__next__") hit.typeIs F.slot_tuple_iterator_next (wpAny_call_entry F.slot_tuple_iterator_next hit.typeIs F.entry_tuple_iterator_next ?_ (F.args_tuple_iterator_next_1 _)))
  show wpAny _ _ (field (.ref it) 0 >>= _) _ _ s; refine wpAny_bind (wpAny_field ho hd (x := .ref t) rfl ?_)
  show wpAny _ _ (if (Value.ref t == Value.none) = true then _ else _) _ _ s; rw [if_neg (show ¬ ((Value.ref t == Value.none) = true) from Bool.false_ne_true)]
  show wpAny _ _ (field (.ref it) 1 >>= _) _ _ s; refine wpAny_bind (wpAny_field ho hd (x := .int i 0) rfl ?_)
  show wpAny _ _ (seqItems? (.ref t) >>= _) _ _ s; refine wpAny_bind (wpAny_seqItems hol hdl ?_); simp only [Int.toNat_natCast, hx]
  refine wpAny_bind (wpAny_setField ho hd (by simp) (wpAny_pure ⟨x, rfl, wpAny_pure (hQ _ ⟨_, Heap.get?_update_self _ ho (Obj.isFreed_of_fields (Obj.data_mapFields hd _)), (Obj.cls_mapFields ..).trans hc, by rw [Obj.data_mapFields hd]; simp [rawInt]⟩ (Heap.SameBut.update ..))⟩))
theorem nextOf_tup_end {it t : Addr} {i : Nat} {items : Array Value} {Q : Value → Shared → Prop} (hh : A.handled = none) (hit : s.heap.IsTupleIter it t i) (ht : s.heap.IsTuple t items) (hx : items[i]? = none)
    (hE : ∀ h' e, Heap.ExtBut it s.heap h' → (∃ o, h'.get? e = some o ∧ o.cls = .type "StopIteration") → E (.ref e) { s with heap := h' }) : wpAny (model prog w) A (Builtin.SmallTypes.nextOf (.ref it)) Q E s := by
  obtain ⟨o, ho, hc, hd⟩ := id hit; obtain ⟨ol, hol, _, nl, hdl⟩ := ht; unfold Builtin.SmallTypes.nextOf
  refine wpAny_bind (wpAny_callSpecial?_slot (name := Str.ofString "__next__") hit.typeIs F.slot_tuple_iterator_next (wpAny_call_entry F.slot_tuple_iterator_next hit.typeIs F.entry_tuple_iterator_next ?_ (F.args_tuple_iterator_next_1 _)))
  show wpAny _ _ (field (.ref it) 0 >>= _) _ _ s; refine wpAny_bind (wpAny_field ho hd (x := .ref t) rfl ?_)
  show wpAny _ _ (if (Value.ref t == Value.none) = true then _ else _) _ _ s; rw [if_neg (show ¬ ((Value.ref t == Value.none) = true) from Bool.false_ne_true)]
  show wpAny _ _ (field (.ref it) 1 >>= _) _ _ s; refine wpAny_bind (wpAny_field ho hd (x := .int i 0) rfl ?_)
  show wpAny _ _ (seqItems? (.ref t) >>= _) _ _ s; refine wpAny_bind (wpAny_seqItems hol hdl ?_); simp only [Int.toNat_natCast, hx]
  refine wpAny_bind (wpAny_rule (wpAny_bind (wpAny_setField ho hd (by simp) ?_))); show wpAny _ _ (newExc (.type "StopIteration") [] >>= _) _ _ _
  refine wpAny_bind ?_; simp only [newExc, newTuple]; refine wpAny_bind (wpAny_newObj_type ?_ (by size_fits))
  refine wpAny_bind (m := firstArgMember _ _) (wpAny_of_eq (a := Value.none) (by first | rfl | (simp only [firstArgMember]; rfl)) ?_); refine wpAny_newObj_type ?_ (by size_fits)
  simp only [raiseNew]; refine wpAny_bind (wpAny_handled ?_); first | rw [show A.in1.handled = none from hh] | rw [hh]
  refine wpAny_bind (wpAny_pure (wpAny_throw ?_)); exact hE _ _ (((Heap.SameBut.update ..).extBut.push _).push _) ⟨_, Heap.get?_push_size _ rfl, rfl⟩
theorem isTuple_ext {h h' : Heap} {t it : Addr} {items : Array Value} (x : h.IsTuple t items) (hs : Heap.ExtBut it h h') (hne : t ≠ it) : h'.IsTuple t items := let ⟨o, ho, r⟩ := x; ⟨o, hs t o hne ho, r⟩
theorem draws_tup {prog : Program} {w : World} {A : Around} (hh : A.handled = none) (it l : Addr) (hne : l ≠ it) (items : Array Value) :
    Draws prog w A it [it, l] items.size (fun i v => items[i]? = some v) (fun i h => h.IsTupleIter it l i ∧ h.IsTuple l items) where
  live := fun _ _ st => let ⟨o, ho, _⟩ := st.1; ⟨o, ho⟩
  frame := fun _ _ _ st hk => ⟨st.1.at fun o e => hk it (by simp) o e, let ⟨o, ho, r⟩ := st.2; ⟨o, hk l (by simp) o ho, r⟩⟩
  item := fun i s Q E hi st hQ => by
    refine nextOf_tup_item st.1 st.2 (x := items[i]) (by simp [hi]) fun h' hit' hs' => ?_
    exact hQ _ h' s.toks (by simp [hi]) ⟨hit', isTuple_ext st.2 hs'.extBut hne⟩ hs'
  done := fun s Q E st hE => nextOf_tup_end hh st.1 st.2 (by simp) hE
theorem new_enum_tup (l : Addr) (items : Array Value) (n : Nat) (dct : Option Addr) (sl : Array (Option Value)) :
    Meets (Builtin.«enumerate.__new__» ⟨[.type "enumerate", .ref l], []⟩) (fun _ R s => s.heap.get? l = some { cls := .type "tuple", dict := dct, data := .seq items n, slots := sl } ∧
      R (.ok (.ret (.ref (s.heap.push { cls := .type "tuple_iterator", data := .fields #[.ref l, .int 0 0] }).objs.size))) { s with heap := (s.heap.push { cls := .type "tuple_iterator", data := .fields #[.ref l, .int 0 0] }).push { cls := .type "enumerate", data := .fields #[.none, .bool false, .ref s.heap.objs.size, rawInt 0, .none, .none] } }) :=
  .of_wp fun prog w A R s h => by
    obtain ⟨hp, g, d, tk, os⟩ := s; obtain ⟨hl, h⟩ := h; have hsub := sub_enumerate
    have hL : Heap.IsTuple (Shared.heap ⟨hp, g, d, tk, os⟩) l items := ⟨_, hl, rfl, n, rfl⟩
    wp_walk using wpAny_loadPart' hl
    refine wpAny_stack_any fun st => wpAny_pure ?_; split
    · rename_i c _ _ _ _ _
      cases (c == Value.type "enumerate")
      · wp_walk using wpAny_loadPart' hl, wpAny_pyIter_tuple hL
        exact ⟨_, rfl, h⟩
      · wp_walk using wpAny_loadPart' hl, wpAny_pyIter_tuple hL
        exact ⟨_, rfl, h⟩
    · wp_walk using wpAny_loadPart' hl, wpAny_pyIter_tuple hL
      exact ⟨_, rfl, h⟩
theorem call_enum_tup {l : Addr} {items : Array Value} {Q : Value → Shared → Prop} (hL : s.heap.IsTuple l items)
    (h : ∀ h', IsEnum h' (s.heap.objs.size + 1) s.heap.objs.size 0 .none → h'.IsTupleIter s.heap.objs.size l 0 → h'.objs.size = s.heap.objs.size + 2 → (∀ b o, s.heap.get? b = some o → h'.get? b = some o) → Q (.ref (s.heap.objs.size + 1)) { s with heap := h' }) :
    wpAny (model prog w) A (call (.type "enumerate") [.ref l]) Q E s := by
  obtain ⟨⟨c, dct, dt, sl⟩, hl, hc, n, hd⟩ := hL; replace hc : c = .type "tuple" := hc; replace hd : dt = .seq items n := hd; subst hc hd
  refine callType_new F.called_enumerate (by decide) (F.typeCall_enumerate_1 _) (F.newCall_enumerate_1 _) (fun obj => F.args_object_init_2 obj _) F.entry_enumerate_new (new_enum_tup l items n dct sl) ⟨hl, ?_⟩
  have hz : (s.heap.push { cls := .type "tuple_iterator", data := .fields #[.ref l, .int 0 0] }).objs.size = s.heap.objs.size + 1 := Heap.size_push ..
  show _ ∧ _; rw [hz]
  have he : IsEnum ((s.heap.push { cls := .type "tuple_iterator", data := .fields #[.ref l, .int 0 0] }).push { cls := .type "enumerate", data := .fields #[.none, .bool false, .ref s.heap.objs.size, rawInt 0, .none, .none] }) (s.heap.objs.size + 1) s.heap.objs.size 0 .none := by
    have := Heap.get?_push_size (s.heap.push { cls := .type "tuple_iterator", data := .fields #[.ref l, .int 0 0] }) (o := { cls := .type "enumerate", data := .fields #[.none, .bool false, .ref s.heap.objs.size, rawInt 0, .none, .none] }) rfl
    rw [hz] at this; exact this
  exact ⟨⟨_, he, rfl⟩, h _ he ⟨_, Heap.get?_push_of_some _ (Heap.get?_push_size _ rfl), rfl, rfl⟩ (by rw [Heap.size_push, hz]) fun b o x => Heap.get?_push_of_some _ (Heap.get?_push_of_some _ x)⟩
theorem enum_end_tup {e it l : Addr} {i : Nat} {items : Array Value} {old : Value} {Q : Option Value → Shared → Prop} (hh : A.handled = none) (he : IsEnum s.heap e it i old) (hit : s.heap.IsTupleIter it l i) (hl : s.heap.IsTuple l items) (hx : items[i]? = none)
    (hQ : ∀ h', Heap.ExtBut it s.heap h' → Q none { s with heap := h' }) : wpAny (model prog w) A (pyNext (.ref e)) Q E s := by
  have hT : s.TypeIs (.ref e) "enumerate" := ⟨_, he, rfl⟩; unfold pyNext
  refine wpAny_bind (wpAny_attempt (wpAny_callSpecial?_slot (name := Str.ofString "__next__") hT F.slot_enumerate_next (wpAny_call_entry F.slot_enumerate_next hT F.entry_enumerate_next ?_ (F.args_enumerate_next_1 _))))
  show wpAny _ _ (field (.ref e) 2 >>= _) _ _ _; refine wpAny_bind (wpAny_field he rfl (x := .ref it) rfl ?_)
  refine wpAny_bind (nextOf_tup_end (by first | exact hh | (rw [show A.in1.handled = A.handled from rfl]; exact hh)) hit hl hx fun h' x he' hx' => ?_); obtain ⟨o, ho, hc⟩ := hx'
  refine wpAny_bind (wpAny_isInstance (T := "StopIteration") (b := true) ⟨o, ho, hc⟩ isSubtype_stop ?_); exact wpAny_pure (hQ _ he')
end
section
variable {X : Cx} {tg : Expr}
noncomputable def IteT (K : PySem.W.Frag) (a : Addr) : It :=
  ⟨fun i H => ∃ xs x, SqT K H a xs ∧ xs[i]? = some x, fun i H x H' => ∃ p v, x = .ref p ∧ H p = none ∧ H' = upd H p (.tup [.int (i : Nat), v]) ∧ ∀ xs, SqT K H a xs → xs[i]? = some v, fun i H => ∃ xs, SqT K H a xs ∧ xs.length ≤ i⟩
theorem turn_enumT {P : Program} {w : World} {K : PySem.W.Frag} {elts : List Expr} {kk : Nat} {tpos : Pos} (a e it : Addr) (hei : e ≠ it) : Turn P w K (.Tuple elts kk tpos) (IteT K a) [e, it] e (fun i h => (∃ old, IsEnum h e it ((i : Nat) : Int) old) ∧ h.IsTupleIter it a i) where
  mem := by simp
  obj := fun i h st b hb => by
    have hb' : b = e ∨ b = it := by simpa using hb
    rcases hb' with z | z
    · subst z
      obtain ⟨old, q⟩ := st.1
      exact ⟨_, q, fun v y => by
        have y' : Data.fields _ = Data.cell v := y
        cases y'⟩
    · subst z
      obtain ⟨o, q, c, d⟩ := st.2
      exact ⟨o, q, fun v y => by rw [d] at y; cases y⟩
  keep := fun i h h' st k => ⟨let ⟨old, q⟩ := st.1; ⟨old, k e (by simp) _ q⟩, st.2.at fun o q => k it (by simp) o q⟩
  item := by
    intro X hP hw hK hc i pins s σ H E I hf st hg
    subst hP hw hK
    obtain ⟨xs, x, hq, hx⟩ := hg
    obtain ⟨its, rv, p, hz⟩ := I.tuple hq
    obtain ⟨u, hu, ru⟩ := rv.get hx
    obtain ⟨⟨old, he⟩, hit⟩ := st
    have hl : s.heap.IsTuple a its.toArray := p
    have ai : a ≠ it := fun z => by
      obtain ⟨o1, q1, c1, _⟩ := hit
      obtain ⟨o2, q2, c2, _⟩ := hl
      rw [z, q1] at q2; cases q2
      rw [c1] at c2; exact absurd c2 (by decide)
    have ae : e ∉ [it, a] := fun z => by
      have z' : e = it ∨ e = a := by simpa using z
      rcases z' with z | z
      · exact hei z
      · obtain ⟨o2, q2, c2, _⟩ := hl
        rw [← z, he] at q2; cases q2; exact absurd (show Value.type "enumerate" = Value.type "tuple" from c2) (by decide)
    have D := draws_tup (prog := X.prog) (w := X.w) (A := X.A.in1) (by first | exact I.ok.hd hc | (rw [show X.A.in1.handled = X.A.handled from rfl]; exact I.ok.hd hc)) it a ai its.toArray
    have hlt : i < its.toArray.size := by
      have := (List.getElem?_eq_some_iff.mp hu).1
      rw [List.size_toArray]; exact this
    refine wpAny_pyNext_enum_itemD D he ⟨hit, hl⟩ hlt hei ae fun y h' tk hy hout st' hT hsz hk => ⟨.ref s.heap.objs.size, rfl, ?_⟩
    refine wpAny_letOwnedTupleGo_enum hout fun h2 he2 hs2 => ?_
    have hy' : its.toArray[i]? = some y := hy
    have ey : y = u := by
      have : its[i]? = some y := by simpa using hy'
      rw [hu] at this; cases this; rfl
    subst ey
    have kk : ∀ b o, b ≠ e → b ≠ it → s.heap.get? b = some o → h2.get? b = some o := fun b o h1 h3 q => (hs2.2 b h1).trans (hk b o h1 h3 q)
    have neT : s.heap.objs.size ≠ e := Nat.ne_of_gt (Heap.lt_size he)
    have I2 := I.turnedT (h' := h2) (t' := tk + 1) (e := e) (it := it) (T := s.heap.objs.size) (xs := [.int (i : Nat), x]) (its := [.int i tk, y]) kk (hf e (by simp)) (hf it (by simp)) rfl ⟨_, (hs2.2 _ neT).trans hT, rfl, _, rfl⟩ (.cons ⟨tk, rfl⟩ (.cons ru .nil)) (by show 2 ≤ sizeLine; decide)
      ⟨_, he2⟩ (let ⟨o, q, _⟩ := st'.1; ⟨o, (hs2.2 it (Ne.symm hei)).trans q⟩)
    refine ⟨.ref s.heap.objs.size, _, I2, rfl, ⟨s.heap.objs.size, x, rfl, I.hok.fresh (Nat.le_refl _), rfl, fun ys hy2 => by rw [I.tuple_inj hy2 hq]; exact hx⟩, ⟨⟨_, he2⟩, st'.1.at fun o q => (hs2.2 it (Ne.symm hei)).trans q⟩, fun b hb => ?_⟩
    rw [upd_ne fun z => ?_]
    · exact (hf b hb).1
    · have hb' : b = e ∨ b = it := by simpa using hb
      rcases hb' with y | y
      · rw [← z, y] at neT; exact neT rfl
      · obtain ⟨o, q, _⟩ := hit
        rw [y] at z
        exact absurd (Heap.lt_size q) (by rw [z]; exact Nat.lt_irrefl _)
  done := by
    intro X hP hw hK hc i pins s σ H E I hf st hg
    subst hP hw hK
    obtain ⟨xs, hq, hx⟩ := hg
    obtain ⟨its, rv, p, hz⟩ := I.tuple hq
    obtain ⟨⟨old, he⟩, hit⟩ := st
    obtain ⟨f0, f1, f2, f3, f4, f5⟩ := hf it (by simp)
    have hl := rv.length
    exact enum_end_tup (I.ok.hd hc) he hit (show s.heap.IsTuple a its.toArray from p) (by simp; omega) fun h' eb => ⟨rfl, I.turned (t' := s.toks) (fun b o hb q => eb b o hb q) f0 f1 f3 f4 f5⟩
  self := fun _ _ _ _ _ st h => let ⟨⟨old, he⟩, _⟩ := st; wpAny_pyIter_enum he h
noncomputable def iEnumT (K : PySem.W.Frag) (ta : TA) : TI := fun σ H R => ta σ H fun vs H1 => ∃ a xs, vs = [.ref a] ∧ SqT K H1 a xs ∧ R (IteT K a) H1
theorem pi_enumT {l : Expr} {elts : List Expr} {kk : Nat} {tpos p pos : Pos} {ta : TA} (hg : Gl X "enumerate") (hm : X.mg "enumerate" = none) (ha : PA X [l] ta) (hs : starEach [l] X.env = [(false, eval l X.env)] := by rfl) :
    PI X (.Tuple elts kk tpos) (.Call (.Name "enumerate" p) [l] [] pos) (iEnumT X.K ta) := by
  intro pins s σ H R I h
  refine Call_ (ld_blt I hg hm boot_enumerate (PyProof.Rows.callWith_type1 (thn (ha pos pins s σ H _ I h) fun us s1 ⟨vs, H1, I1, r1, q1⟩ => ?_) hs rfl))
  obtain ⟨a, xs, e, hq, q⟩ := q1
  subst e
  obtain ⟨u, rfl, ru⟩ := vals1 r1
  cases ru
  obtain ⟨its, rv, p, hz⟩ := I1.tuple hq
  refine call_enum_tup (show s1.heap.IsTuple a its.toArray from p) fun h' he hit hsz hk => wpAny_pyIter_enum he ?_
  have I2 : Inv X pins σ H1 { s1 with heap := h' } := I1.kept (t' := s1.toks) hk
  refine ⟨s1.heap.objs.size + 1, [s1.heap.objs.size + 1, s1.heap.objs.size], _, _, H1, rfl, I2, turn_enumT a _ _ (Nat.succ_ne_self _), ⟨⟨.none, by simpa using he⟩, hit⟩, fun b hb => ?_, q⟩
  have hb' : b = s1.heap.objs.size + 1 ∨ b = s1.heap.objs.size := by simpa using hb
  rcases hb' with z | z
  · subst z; exact I1.fpOk (Nat.le_succ _) (I1.hok.fresh (Nat.le_succ _))
  · subst z; exact I1.fpOk (Nat.le_refl _) (I1.hok.fresh (Nat.le_refl _))

end
end L2
namespace DL
open PySem PySem.Spec PyProof.Rows L2
variable {K : PySem.W.Frag}
theorem yields_enumT {F : Hp} {a : Addr} {xs : List D} {vs : List V} (h : SqT K F a vs) (r : Reps K F xs vs) : Yields K (IteT K a) F (enumL xs) := fun F' H sF sH i => by
  have q : SqT K H a vs := sqT_mono (sF.trans sH) h
  refine ⟨fun d hd => ?_, fun hl => ⟨vs, q, by rw [← r.length, ← enumL_len]; exact hl⟩⟩
  obtain ⟨x, hx, rfl⟩ := enumL_get hd
  obtain ⟨v, h1, h2⟩ := r.get hx
  refine ⟨⟨vs, v, q, h1⟩, fun y H' ⟨p, w, e1, e2, e3, e4⟩ => ?_⟩
  subst e1 e3
  have e5 := e4 vs q
  rw [h1] at e5; cases e5
  have hp : F' p = none := sH.free e2
  have sm : Same F' (addL F' [(p, .tup [.int (i : Nat), v])]) := addL_same fun z hz => by obtain rfl := List.mem_singleton.mp hz; exact hp
  refine ⟨same_new e2, [(p, .tup [.int (i : Nat), v])], nd1, fun z hz => ?_, .tup upd_same (.cons (.int _) (.cons (h2.mono (sF.trans sm)) .nil))⟩
  obtain rfl := List.mem_singleton.mp hz
  exact ⟨e2, upd_same⟩
section
variable {Z : Ent K} {H : Hp} {σ : L2.St} {Q : VK}
@[simp] noncomputable def enumTI (fd : FD) : FD := fun δ => (fd δ).bind fun p => match p.1 with
  | [.tup xs] => some (enumL xs, p.2)
  | _ => none
theorem l_enumTI {fd : FD} {R : It → Hp → Prop} (h : liftI Z (enumTI fd) σ H R) : iEnumT K (liftD Z fd) σ H R := by
  obtain ⟨F, δ, own, ds, δ', s, e, k⟩ := h
  obtain ⟨⟨ds1, δ1⟩, e1, e2⟩ := Option.bind_eq_some_iff.mp e
  refine ⟨F, δ, own, ds1, δ1, s, e1, fun vs H1 F1 own1 sH sF s1 r1 => ?_⟩
  dsimp only at e2
  split at e2
  · rename_i xs
    cases e2
    cases r1 with
    | cons h t =>
      cases t
      cases h with
      | tup h r => exact ⟨_, _, rfl, sqT_mono s1.le (tupSq h), k _ H1 F1 own1 sH sF s1 (yields_enumT (tupSq h) r)⟩
  · cases e2
end
section
variable {X : Cx} {Z : Ent X.K} {a : Expr} {fa : FE} {pos : Pos}
@[simp] noncomputable def enumXI (fd : FD) : FD := fun δ => (fd δ).bind fun p => match p.1 with
  | [.lst xs] => some (enumL xs, p.2)
  | [.tup xs] => some (enumL xs, p.2)
  | _ => none
theorem l_enumXI {H : Hp} {σ : L2.St} {fd : FD} {R : It → Hp → Prop} (h : liftI Z (enumXI fd) σ H R) : liftI Z (enumI fd) σ H R ∨ liftI Z (enumTI fd) σ H R := by
  obtain ⟨F, δ, own, ds, δ', s, e, k⟩ := h
  obtain ⟨⟨ds1, δ1⟩, e1, e2⟩ := Option.bind_eq_some_iff.mp e
  dsimp only at e2
  split at e2
  · rename_i xs
    exact .inl ⟨F, δ, own, ds, δ', s, Option.bind_eq_some_iff.mpr ⟨_, e1, e2⟩, k⟩
  · rename_i xs
    exact .inr ⟨F, δ, own, ds, δ', s, Option.bind_eq_some_iff.mpr ⟨_, e1, e2⟩, k⟩
  · cases e2
theorem i_enumX {elts : List Expr} {kk : Nat} {tpos p : Pos} {fd : FD} (hm : X.mg "enumerate" = none) (ha : PA X [a] (liftD Z fd)) (hg : Gl X "enumerate" := by rfl) (hs : starEach [a] X.env = [(false, eval a X.env)] := by rfl) :
    PI X (.Tuple elts kk tpos) (.Call (.Name "enumerate" p) [a] [] pos) (liftI Z (enumXI fd)) := fun pins s σ H R I h => by
  rcases l_enumXI h with h | h
  · exact pi_enum hg hm ha hs pins s σ H R I (l_enumI h)
  · exact pi_enumT hg hm ha hs pins s σ H R I (l_enumTI h)
end
end DL

/-! join of a list or a tuple -/
namespace L2
open PySem PySem.Spec PyProof.Rows
variable {X : Cx}
noncomputable def rJoinX (K : PySem.W.Frag) : V → List V → Hp → VK → Prop := fun x xs H Q => ∃ sep p ys, x = .str sep ∧ xs = [.ref p] ∧ (SqL K H p (ys.map V.str) ∨ SqT K H p (ys.map V.str)) ∧ JoinOk sep ys = true ∧ Q (.str (Txt.join sep ys)) H
theorem mt_joinX : MtR X "str.join" (rJoinX X.K) := by
  intro pins s σ H x xs v us Q I rx rs h
  obtain ⟨sep, p, ys, rfl, rfl, hq, hok, q⟩ := h
  rcases hq with hq | hq
  · exact mt_join pins s σ H _ _ v us Q I rx rs ⟨sep, p, ys, rfl, rfl, hq, hok, q⟩
  · obtain ⟨t, rfl⟩ := rx
    obtain ⟨u, rfl, ru⟩ := vals1 rs
    cases ru
    obtain ⟨its, rv, pl, hz⟩ := I.tuple hq
    obtain ⟨l, e1, e2⟩ := strs_of rv
    subst e1 e2
    have hok' := hok
    unfold JoinOk at hok'
    rw [Bool.not_eq_true'] at hok'
    obtain ⟨o, ho, hc, n, hd⟩ := (show s.heap.IsTuple p (strValues l).toArray from pl)
    exact call_meets F.slot_str_join (typeIs_str _ _ _) F.entry_str_join (F.args_str_join_2 _ _) (meets_str_join_tuple sep t p l hok') ⟨⟨o, n, ho, hc, hd⟩, post_join l ⟨joinFit_length hok', fun t' k => ⟨.str (Txt.join sep (l.map (·.1))), H, I.tok _, ⟨_, rfl⟩, q⟩⟩⟩
end L2
namespace DL
open PySem PySem.Spec PyProof.Rows L2
variable {K : PySem.W.Frag}
@[simp] noncomputable def joinXD : List D → Option SV
  | [.str sep, .lst xs] => (strs? xs).bind fun ys => if JoinOk sep ys = true then some (.fz (.str (Txt.join sep ys))) else none
  | [.str sep, .tup xs] => (strs? xs).bind fun ys => if JoinOk sep ys = true then some (.fz (.str (Txt.join sep ys))) else none
  | _ => none
theorem p_joinX {Z : Ent K} : PrimM Z (rJoinX K) joinXD := by
  intro F H σ δ own vs ds sv Q s r e k
  unfold joinXD at e
  split at e
  · obtain ⟨ys, e1, e2⟩ := Option.bind_eq_some_iff.mp e
    split at e2
    · rename_i hok
      cases e2
      cases r with
      | cons h1 t1 =>
        cases t1 with
        | cons h2 t2 =>
          cases t2
          obtain ⟨a, us, ex, ha, ra⟩ := h2.lst s.le
          rw [strs_ok e1 ra] at ha
          exact ⟨_, _, rfl, _, a, ys, h1.str, by rw [ex], .inl ha, hok, k.fz s (.str _)⟩
    · cases e2
  · obtain ⟨ys, e1, e2⟩ := Option.bind_eq_some_iff.mp e
    split at e2
    · rename_i hok
      cases e2
      cases r with
      | cons h1 t1 =>
        cases t1 with
        | cons h2 t2 =>
          cases t2
          obtain ⟨a, us, ex, ha, ra⟩ := h2.tup s.le
          rw [strs_ok e1 ra] at ha
          exact ⟨_, _, rfl, _, a, ys, h1.str, by rw [ex], .inr ha, hok, k.fz s (.str _)⟩
    · cases e2
  · cases e
section
variable {X : Cx} {Z : Ent X.K} {a b : Expr} {fa fb : FE}
theorem e_joinX {apos cpos : Pos} (ha : PE X a (liftE Z fa)) (hb : PE X b (liftE Z fb)) (hbase : attributeBase a "join" X.env (eval a X.env) = eval a X.env := by rfl)
    (hfew : ((backTo cpos (starEach [b] X.env)).all (fun x => !x.1) && (backToKw cpos (keywordEach [] X.env)).all (fun x => x.1.isSome) && decide ([b].length + ([] : List Keyword).length + (if ([] : List Keyword).isEmpty then 0 else 1) < 30)) = true := by rfl)
    (hline : (apos.endLine == cpos.line) = true := by rfl) (hs : starEach [b] X.env = (false, eval b X.env) :: starEach [] X.env := by rfl) (hpl : (backTo cpos (starEach [] X.env)).any (·.1) = false := by rfl) :
    PE X (.Call (.Attribute a "join" apos) [b] [] cpos) (liftE Z (bmF "str" joinXD fa (argCons fb argNil))) :=
  (pe_bm PySem.F.plainAttrs_str PySem.F.slot_str_join PySem.F.type_str_join mt_joinX ha (a_cons hb a_nil hs) hbase hfew hline hs hpl).imp fun _ _ _ h => l_bm p_joinX h
end
end DL

/-! DICTS: looked up, asked, got, made, put -/
namespace L2
open PySem PySem.Spec PyProof.Rows
variable {X : Cx}
noncomputable def rDGet : R2 := fun x y H Q => ∃ a v, x = .ref a ∧ DGet H a y (some v) ∧ Q v H
noncomputable def rDIn : R2 := fun y x H Q => ∃ a o, x = .ref a ∧ DGet H a y o ∧ Q (.bl o.isSome) H
noncomputable def rDNotIn : R2 := fun y x H Q => ∃ a o, x = .ref a ∧ DGet H a y o ∧ Q (.bl (!o.isSome)) H
theorem op_in_dict (hu : X.A.units + 1 < cLine) : OpR X (compareOp .In) rDIn := by
  intro pins s σ H y x v u Q I ry rx h
  obtain ⟨a, o, rfl, g, q⟩ := h
  cases rx
  exact d_in hu I g ry fun s' I' => ⟨.bl o.isSome, H, I', rfl, q⟩
end L2
namespace DL
open PySem PySem.Spec PyProof.Rows L2
variable {K : PySem.W.Frag}
@[simp] noncomputable def D.key? : D → Option Key
  | .int i => some (.inl i)
  | .str x => some (.inr x)
  | _ => none
@[simp] noncomputable def keys? : List D → Option (List Key)
  | [] => some []
  | d :: r => d.key?.bind fun k => (keys? r).bind fun t => some (k :: t)
section
variable {κ : Type} [DecidableEq κ]
@[simp] noncomputable def look (ks : List κ) (vs : List D) (k : κ) : Option D := match ks, vs with
  | a :: ks, v :: vs => if a = k then some v else look ks vs k
  | _, _ => none
theorem look_ok {F : Hp} (k : κ) : ∀ (kvs : List (κ × V)) (ds : List D), Reps K F ds (kvs.map (·.2)) → match look (kvs.map (·.1)) ds k with
    | some d => ∃ v, valV kvs k = some v ∧ Rep K F d v
    | none => valV kvs k = none
  | [], _, r => by cases r; exact valV_nil
  | p :: kvs, _, r => by
    cases r with
    | @cons d v ds vs h t =>
      show match (if p.1 = k then some d else look (kvs.map (·.1)) ds k) with
        | some d => ∃ v, valV (p :: kvs) k = some v ∧ Rep K F d v
        | none => valV (p :: kvs) k = none
      by_cases e : p.1 = k
      · rw [if_pos e]
        exact ⟨p.2, valV_pos e, h⟩
      · rw [if_neg e, valV_neg e]
        exact look_ok k kvs ds t
@[simp] noncomputable def putA (ks : List κ) (vs : List D) (k : κ) (v : D) : List κ × List D :=
  if k ∈ ks then (ks, (ks.zip vs).map fun p => if p.1 = k then v else p.2) else (ks ++ [k], vs ++ [v])
end
theorem key_ok {F H : Hp} {d : D} {k : Key} {y : V} (e : d.key? = some k) (r : RepN K F H d y) : y = kV k := by
  cases d with
  | int i => cases e; exact r.int
  | str x => cases e; exact r.str
  | _ => cases e
theorem key_rep {F : Hp} {d : D} {k : Key} {y : V} (e : d.key? = some k) (r : Rep K F d y) : y = kV k := key_ok (H := F) e (RepN.of r)
theorem keys_ok {F : Hp} : ∀ {ds : List D} {ks : List Key} {vs : List V}, keys? ds = some ks → Reps K F ds vs → vs = ks.map kV
  | [], _, _, e, r => by cases e; cases r; rfl
  | d :: ds, _, _, e, r => by
    cases r with
    | cons h t =>
      obtain ⟨k, e1, e2⟩ := Option.bind_eq_some_iff.mp e
      obtain ⟨t', e3, e4⟩ := Option.bind_eq_some_iff.mp e2
      cases e4
      rw [key_rep e1 h, keys_ok e3 t]; rfl
theorem RepN.tupH {F H : Hp} {xs : List D} {v : V} (le : Same F H) (h : RepN K F H (.tup xs) v) : ∃ a vs, v = .ref a ∧ H a = some (.tup vs) ∧ Reps K F xs vs := by
  obtain ⟨sv, ns, e, n, sh, hp⟩ := h
  cases sh with
  | fz r => cases e; cases r with | tup h r => exact ⟨_, _, rfl, le _ _ h, r⟩
  | ol r => cases e
  | oK e' r => cases e
  | oT e' r => cases e
  | oN e' r => cases n
@[simp] noncomputable def getO : D → D → Option (Option D)
  | .dK ks vs, d => d.key?.bind fun k => some (look ks vs k)
  | .dT ks vs, .tup xs => (keys? xs).bind fun k => some (look ks vs k)
  | _, _ => none
theorem get_ok {F H : Hp} {d1 d2 : D} {x y : V} {o : Option D} (le : Same F H) (e : getO d1 d2 = some o) (r1 : RepN K F H d1 x) (r2 : RepN K F H d2 y) :
    ∃ a, x = .ref a ∧ IsD H a ∧ match o with
      | some d => ∃ v, DGet H a y (some v) ∧ Rep K F d v
      | none => DGet H a y none := by
  unfold getO at e
  split at e
  · obtain ⟨k, e1, e2⟩ := Option.bind_eq_some_iff.mp e
    obtain ⟨a, kvs, rfl, ha, rfl, rr⟩ := r1.dK le
    refine ⟨a, rfl, .inl ⟨kvs, .inl ha⟩, ?_⟩
    rw [key_ok e1 r2]
    have z := look_ok k kvs _ rr
    have g := DGet.k (k := k) ha
    rw [Option.some.inj e2] at z
    cases o with
    | none => rw [show valV kvs k = none from z] at g; exact g
    | some d => obtain ⟨v, z1, z2⟩ := z; rw [z1] at g; exact ⟨v, g, z2⟩
  · obtain ⟨k, e1, e2⟩ := Option.bind_eq_some_iff.mp e
    obtain ⟨a, kvs, rfl, ha, rfl, rr⟩ := r1.dT le
    obtain ⟨b, vs, rfl, hb, rb⟩ := r2.tupH le
    refine ⟨a, rfl, .inr ⟨kvs, .inl ha⟩, ?_⟩
    rw [keys_ok e1 rb] at hb
    have z := look_ok k kvs _ rr
    have g := DGet.t ha hb
    rw [Option.some.inj e2] at z
    cases o with
    | none => rw [show valV kvs k = none from z] at g; exact g
    | some d => obtain ⟨v, z1, z2⟩ := z; rw [z1] at g; exact ⟨v, g, z2⟩
  · cases e
section
variable {Z : Ent K}
@[simp] noncomputable def dgetD (d1 d2 : D) : Option SV := (getO d1 d2).bind fun o => o.bind fun d => some (.fz d)
theorem p_dget : Prim2 Z rDGet dgetD := by
  intro F H σ δ own x y d1 d2 sv Q s r1 r2 e k
  obtain ⟨o, e1, e2⟩ := Option.bind_eq_some_iff.mp e
  obtain ⟨d, e3, e4⟩ := Option.bind_eq_some_iff.mp e2
  cases e4
  subst e3
  obtain ⟨a, rfl, _, v, g, rv⟩ := get_ok s.le e1 r1 r2
  exact ⟨a, v, rfl, g, k.fz s rv⟩
@[simp] noncomputable def inDd (d1 d2 : D) : Option SV := (getO d2 d1).bind fun o => some (.fz (.bl o.isSome))
@[simp] noncomputable def notinDd (d1 d2 : D) : Option SV := (getO d2 d1).bind fun o => some (.fz (.bl (!o.isSome)))
theorem p_inDd : Prim2 Z rDIn inDd := by
  intro F H σ δ own x y d1 d2 sv Q s r1 r2 e k
  obtain ⟨o, e1, e2⟩ := Option.bind_eq_some_iff.mp e
  cases e2
  obtain ⟨a, rfl, _, g⟩ := get_ok s.le e1 r2 r1
  cases o with
  | none => exact ⟨a, none, rfl, g, k.fz s (.bl _)⟩
  | some d => obtain ⟨v, g, _⟩ := g; exact ⟨a, some v, rfl, g, k.fz s (.bl _)⟩
@[simp] noncomputable def D.isD : D → Bool
  | .dK _ _ => true | .dT _ _ => true | _ => false
@[simp] noncomputable def ixX (d1 d2 : D) : Option SV := if d1.isD = true then dgetD d1 d2 else ixD d1 d2
@[simp] noncomputable def inX (d1 d2 : D) : Option SV := if d2.isD = true then inDd d1 d2 else inD d1 d2
@[simp] noncomputable def notinX (d1 d2 : D) : Option SV := if d2.isD = true then notinDd d1 d2 else notinD d1 d2
theorem bin_split {H : Hp} {σ : L2.St} {Q : VK} {fa fb : FE} {g g1 g2' : D → D → Option SV} (hg : ∀ d1 d2 sv, g d1 d2 = some sv → g1 d1 d2 = some sv ∨ g2' d1 d2 = some sv) (h : liftE Z (binF g fa fb) σ H Q) : liftE Z (binF g1 fa fb) σ H Q ∨ liftE Z (binF g2' fa fb) σ H Q := by
  obtain ⟨F, δ, own, rv, δ', s, e, k⟩ := h
  obtain ⟨⟨rvs, δ1⟩, e1, e2⟩ := Option.bind_eq_some_iff.mp e
  obtain ⟨ds, e3, e4⟩ := Option.bind_eq_some_iff.mp e2
  obtain ⟨sv, e5, e6⟩ := Option.bind_eq_some_iff.mp e4
  have : (g2 g1) ds = some sv ∨ (g2 g2') ds = some sv := by
    unfold g2 at e5 ⊢
    split at e5
    · exact hg _ _ _ e5
    · cases e5
  rcases this with z | z
  · exact .inl ⟨F, δ, own, rv, δ', s, Option.bind_eq_some_iff.mpr ⟨_, e1, Option.bind_eq_some_iff.mpr ⟨_, e3, Option.bind_eq_some_iff.mpr ⟨_, z, e6⟩⟩⟩, k⟩
  · exact .inr ⟨F, δ, own, rv, δ', s, Option.bind_eq_some_iff.mpr ⟨_, e1, Option.bind_eq_some_iff.mpr ⟨_, e3, Option.bind_eq_some_iff.mpr ⟨_, z, e6⟩⟩⟩, k⟩
theorem p_inX : Prim2 Z (fun x y H Q => (∃ i j, x = .str i ∧ y = .str j ∧ Q (.bl (!(Builtin.Str.occurrences j i 0 j.length 1).isEmpty)) H) ∨ rDIn x y H Q) inX := by
  intro F H σ δ own x y d1 d2 sv Q s r1 r2 e k
  unfold inX at e
  split at e
  · exact .inr (p_inDd F H σ δ own x y d1 d2 sv Q s r1 r2 e k)
  · exact .inl (p_in F H σ δ own x y d1 d2 sv Q s r1 r2 e k)
end
section
variable {X : Cx} {Z : Ent X.K} {a b c : Expr} {fa fb fc : FE} {pos : Pos}
theorem e_ixX (hu : X.A.units + 1 < cLine) (ha : PE X a (liftE Z fa)) (hb : PE X b (liftE Z fb)) (hs : PlainIx b := by intro _ _; rfl) : PE X (.Subscript a b pos) (liftE Z (binF ixX fa fb)) := fun pins s σ H Q I h => by
  rcases bin_split (g1 := dgetD) (g2' := ixD) (fun d1 d2 sv e => by
    unfold ixX at e
    split at e
    · exact .inl e
    · exact .inr e) h with h | h
  · exact pe_dget hu ha hb hs pins s σ H Q I (l_bin p_dget h)
  · exact pe_ix ix_seq ha hb hs pins s σ H Q I (l_bin p_ix h)
end
end DL

namespace L2
open PySem PySem.Spec PyProof.Rows
variable {X : Cx}
noncomputable def rDGetM : V → List V → Hp → VK → Prop := fun x xs H Q => ∃ a, x = .ref a ∧ ((∃ y o, xs = [y] ∧ DGet H a y o ∧ Q (o.getD .non) H) ∨ (∃ y z o, xs = [y, z] ∧ DGet H a y o ∧ Q (o.getD z) H))
theorem mt_dget (hu : X.A.units + 1 < cLine) : MtR X "dict.get" rDGetM := by
  intro pins s σ H x xs v us Q I rx rs h
  obtain ⟨a, rfl, h⟩ := h
  cases rx
  rcases h with ⟨y, o, rfl, g, q⟩ | ⟨y, z, o, rfl, g, q⟩
  · obtain ⟨u, rfl, ru⟩ := vals1 rs
    exact d_get1 hu I g ru fun w' s' I' r' => ⟨_, H, I', r', q⟩
  · obtain ⟨u, w', rfl, r1, r2⟩ := vals2 rs
    exact d_get2 hu I g r1 r2 fun w' s' I' r' => ⟨_, H, I', r', q⟩
end L2
namespace DL
open PySem PySem.Spec PyProof.Rows L2
variable {K : PySem.W.Frag}
section
variable {Z : Ent K} {H : Hp} {σ : L2.St} {Q : VK} {E : Ends}
/-! {} -/
@[simp] noncomputable def dnewK : FE := fun δ => some (.tmp (.oK [] []), δ)
@[simp] noncomputable def dnewT : FE := fun δ => some (.tmp (.oT [] []), δ)
/-! d[k] = v, of a slot's own dict -/
@[simp] noncomputable def SV.isOD : Option (Option SV) → Bool
  | some (some (.oK _ _)) => true
  | some (some (.oT _ _)) => true
  | _ => false
@[simp] noncomputable def putS (kd d : D) : Option (Option SV) → Option SV
  | some (some (.oK ks vs)) => kd.key?.bind fun k => if vs.length < PySem.sizeLine then some (.oK (putA ks vs k d).1 (putA ks vs k d).2) else none
  | some (some (.oT ks vs)) => match kd with
    | .tup xs => (keys? xs).bind fun k => if vs.length < PySem.sizeLine then some (.oT (putA ks vs k d).1 (putA ks vs k d).2) else none
    | _ => none
  | _ => none
@[simp] noncomputable def putF (i : Nat) (fk fv : FE) : FS := fun δ => (fv δ).bind fun p => (frz p.1 p.2).bind fun q => if SV.isOD (q.2[i]?) = true then (fk q.2).bind fun r => (rdv r.1 r.2).bind fun kd => (putS kd q.1 (r.2[i]?)).bind fun sv => some (.nx (r.2.set i (some sv))) else none
/-! o.m(..), the arguments frozen -/
@[simp] noncomputable def bmDF (T : String) (g : D → List D → Option SV) (fo : FE) (fd : FD) : FE := fun δ => (fo δ).bind fun p => (rdv p.1 p.2).bind fun d0 => if tyOk T d0 = true then (fd p.2).bind fun q => (rdv p.1 q.2).bind fun d1 => (g d1 q.1).bind fun sv => some (.tmp sv, q.2) else none
noncomputable def PrimF (Z : Ent K) (r : V → List V → Hp → VK → Prop) (g : D → List D → Option SV) : Prop :=
  ∀ (F H : Hp) (σ : L2.St) (δ : DSt) (own : Nat → Nodes) (x : V) (d : D) (vs : List V) (ds : List D) (sv : SV) (Q : VK), SR Z F H σ δ own → RepN K F H d x → Reps K F ds vs → g d ds = some sv → Fin Z F H σ δ own sv Q → r x vs H Q
theorem l_bmD {T : String} {r : V → List V → Hp → VK → Prop} {g : D → List D → Option SV} {fo : FE} {fd : FD} (hg : PrimF Z r g) (h : liftE Z (bmDF T g fo fd) σ H Q) : tBM K T r (liftE Z fo) (liftD Z fd) σ H Q := by
  obtain ⟨F, δ, own, rv, δ', s, e, k⟩ := h
  obtain ⟨⟨rv1, δ1⟩, e1, e⟩ := Option.bind_eq_some_iff.mp e
  obtain ⟨d0, e2, e⟩ := Option.bind_eq_some_iff.mp e
  dsimp only at e
  split at e
  · rename_i ht
    obtain ⟨⟨ds, δ2⟩, e3, e⟩ := Option.bind_eq_some_iff.mp e
    obtain ⟨d1, e4, e⟩ := Option.bind_eq_some_iff.mp e
    obtain ⟨sv, e5, e⟩ := Option.bind_eq_some_iff.mp e
    cases e
    refine ⟨F, δ, own, rv1, δ1, s, e1, fun v H1 F1 own1 sH1 sF1 s1 r1 => ?_⟩
    obtain ⟨F1', sF1', s1', r1'⟩ := s1.settleR r1
    refine ⟨ty_ok s1'.le (s1'.rd r1' e2) ht, F1', δ1, own1, ds, δ2, s1', e3, fun vs H2 F2 own2 sH2 sF2 s2 r2 => ?_⟩
    exact hg F2 H2 σ δ2 own2 v d1 vs ds sv Q s2 (s2.rd (r1'.mono sF2) e4) r2 e5 fun q H4 F4 ns sH4 sF4 s4 t4 =>
      k q H4 F4 own2 (sH1.trans (sH2.trans sH4)) (sF1.trans (sF1'.trans (sF2.trans sF4))) s4 ⟨ns, t4⟩
  · cases e
@[simp] noncomputable def dgetMD : D → List D → Option SV
  | d, [y] => (getO d y).bind fun o => some (.fz (o.getD .non))
  | d, [y, z] => (getO d y).bind fun o => some (.fz (o.getD z))
  | _, _ => none
theorem p_dgetM : PrimF Z rDGetM dgetMD := by
  intro F H σ δ own x d vs ds sv Q s r1 r2 e k
  unfold dgetMD at e
  split at e
  · obtain ⟨o, e1, e2⟩ := Option.bind_eq_some_iff.mp e
    cases e2
    cases r2 with
    | cons h t =>
      cases t
      obtain ⟨a, rfl, _, g⟩ := get_ok s.le e1 r1 (RepN.of h)
      cases o with
      | none => exact ⟨a, rfl, .inl ⟨_, none, rfl, g, k.fz s .non⟩⟩
      | some d => obtain ⟨v, g, rv⟩ := g; exact ⟨a, rfl, .inl ⟨_, some v, rfl, g, k.fz s rv⟩⟩
  · obtain ⟨o, e1, e2⟩ := Option.bind_eq_some_iff.mp e
    cases e2
    cases r2 with
    | cons h t =>
      cases t with
      | cons h2 t =>
        cases t
        obtain ⟨a, rfl, _, g⟩ := get_ok s.le e1 r1 (RepN.of h)
        cases o with
        | none => exact ⟨a, rfl, .inr ⟨_, _, none, rfl, g, k.fz s h2⟩⟩
        | some d => obtain ⟨v, g, rv⟩ := g; exact ⟨a, rfl, .inr ⟨_, _, some v, rfl, g, k.fz s rv⟩⟩
  · cases e
end
section
variable {X : Cx} {Z : Ent X.K} {a b c : Expr} {fa fb fc : FE} {pos : Pos}
theorem e_dget {apos cpos : Pos} {es : List Expr} {fd : FD} (hu : X.A.units + 1 < cLine) (ha : PE X a (liftE Z fa)) (hb : PA X (b :: es) (liftD Z fd)) (hbase : attributeBase a "get" X.env (eval a X.env) = eval a X.env := by rfl)
    (hfew : ((backTo cpos (starEach (b :: es) X.env)).all (fun x => !x.1) && (backToKw cpos (keywordEach [] X.env)).all (fun x => x.1.isSome) && decide ((b :: es).length + ([] : List Keyword).length + (if ([] : List Keyword).isEmpty then 0 else 1) < 30)) = true := by rfl)
    (hline : (apos.endLine == cpos.line) = true := by rfl) (hs : starEach (b :: es) X.env = (false, eval b X.env) :: starEach es X.env := by rfl) (hpl : (backTo cpos (starEach es X.env)).any (·.1) = false := by rfl) :
    PE X (.Call (.Attribute a "get" apos) (b :: es) [] cpos) (liftE Z (bmDF "dict" dgetMD fa fd)) :=
  (pe_bm PySem.F.plainAttrs_dict PySem.F.slot_dict_get PySem.F.type_dict_get (mt_dget hu) ha hb hbase hfew hline hs hpl).imp fun _ _ _ h => l_bmD p_dgetM h
end
end DL

/-! dict(d); {text: name}; d.pop(k) -/
namespace L2
open PySem PySem.Spec PyProof.Rows
variable {X : Cx}
noncomputable def rDictOf : List V → Hp → VK → Prop := fun xs H Q => ∃ a kvs, xs = [.ref a] ∧ Rd H a (.dK kvs) ∧ ∀ p, H p = none → Q (.ref p) (upd H p (.dK kvs))
end L2
namespace DL
open PySem PySem.Spec PyProof.Rows L2
variable {K : PySem.W.Frag}
section
variable {Z : Ent K} {H : Hp} {σ : L2.St} {Q : VK} {E : Ends}
@[simp] noncomputable def dictD : List D → Option SV
  | [.dK ks vs] => some (.oK ks vs)
  | _ => none
@[simp] noncomputable def disp1F (k : Str) (i : Nat) : FE := fun δ => match δ[i]? with
  | some (some sv) => some (.tmp (.oK [.inr k] [sv.toD]), δ.set i (some (.fz sv.toD)))
  | _ => none
@[simp] noncomputable def dropA (ks : List Key) (vs : List D) (k : Key) : List Key × List D := (((ks.zip vs).filter fun p => decide (p.1 ≠ k)).map (·.1), ((ks.zip vs).filter fun p => decide (p.1 ≠ k)).map (·.2))
@[simp] noncomputable def popF (i : Nat) (fk : FE) : FS := fun δ => match δ[i]? with
  | some (some (.oK _ _)) => (fk δ).bind fun r => (rdv r.1 r.2).bind fun kd => kd.key?.bind fun k => match r.2[i]? with
    | some (some (.oK ks vs)) => if (look ks vs k).isSome = true then some (.nx (r.2.set i (some (.oK (dropA ks vs k).1 (dropA ks vs k).2)))) else none
    | _ => none
  | _ => none
end
section
variable {X : Cx} {Z : Ent X.K} {a b c : Expr} {fa fb fc : FE} {pos : Pos}
end
end DL

/-! None looked for among texts and whole numbers -/
namespace L2
open PySem PySem.Spec PyProof.Rows
section
variable {prog : Program} {w : World} {A : Around} {E : Value → Shared → Prop} {s : Shared}
theorem pyHash_non {Q : Int → Shared → Prop} (h : Q 0xFCA86420 { s with toks := s.toks + 1 }) : wpAny (model prog w) A (pyHash .none) Q E s := by
  have hT : s.TypeIs .none "NoneType" := rfl
  refine PySem.W.pyHash_slot (v := .none) (Q := Q) hT F.slot_NoneType_hash F.entry_NoneType_hash (F.args_NoneType_hash_1 _) rfl (.inl rfl) ?_
  show wpAny (model prog w) A.in1 (mkInt 0xFCA86420 >>= fun v => ret v) _ E s
  refine wpAny_bind (wpAny_mkInt ?_)
  exact wpAny_pure ⟨_, _, rfl, h⟩
end
noncomputable def nonIs : Option Key → Value → Bool
  | none, .none => true
  | none, _ => false
  | some k, v => keyIs k v
theorem nonIs_shape {k : Option Key} {v : Value} (h : nonIs k v = true) : (k = none ∧ v = .none) ∨ ∃ j, k = some j ∧ keyIs j v = true := by
  cases k with
  | none => cases v <;> first | exact .inl ⟨rfl, rfl⟩ | cases h
  | some j => exact .inr ⟨j, rfl, h⟩
theorem key_none {j : Key} (h : keyIs j .none = true) : False := by
  rcases keyIs_shape h with ⟨i, t, _, e⟩ | ⟨x, t, _, e⟩ <;> cases e
noncomputable def optKind (prog : Program) (w : World) : PySem.KeyKind prog w (Option Key) where
  is := nonIs
  hash := fun | none => 0xFCA86420 | some k => (mixKind prog w).hash k
  inj := fun v a b ha hb => by
    rcases nonIs_shape ha with ⟨rfl, rfl⟩ | ⟨i, rfl, hi⟩
    · rcases nonIs_shape hb with ⟨rfl, _⟩ | ⟨j, rfl, hj⟩
      · rfl
      · exact (key_none hj).elim
    · rcases nonIs_shape hb with ⟨rfl, rfl⟩ | ⟨j, rfl, hj⟩
      · exact (key_none hi).elim
      · rw [(mixKind prog w).inj v i j hi hj]
  byValue := fun k v h => by
    rcases nonIs_shape h with ⟨rfl, rfl⟩ | ⟨i, rfl, hi⟩
    · rfl
    · exact (mixKind prog w).byValue i v hi
  pyHash := fun {A E s k v Q} hv h => by
    rcases nonIs_shape hv with ⟨rfl, rfl⟩ | ⟨i, rfl, hi⟩
    · exact pyHash_non h
    · exact (mixKind prog w).pyHash hi h
  eqBool := fun {A E s a b u v Q} hu hv h => by
    rcases nonIs_shape hu with ⟨rfl, rfl⟩ | ⟨i, rfl, hi⟩
    · rcases nonIs_shape hv with ⟨rfl, rfl⟩ | ⟨j, rfl, hj⟩
      · exact SeqAt.EqAt.same _ _ _ _ _ (by simpa using h)
      · rw [decide_eq_false (fun z => nomatch z)] at h
        rcases keyIs_shape hj with ⟨i, t, rfl, rfl⟩ | ⟨x, t, rfl, rfl⟩
        · exact SeqAt.EqAt.none_int i t _ _ _ _ h
        · exact SeqAt.EqAt.none_str x t _ _ _ _ h
    · rcases nonIs_shape hv with ⟨rfl, rfl⟩ | ⟨j, rfl, hj⟩
      · rw [decide_eq_false (fun z => nomatch z)] at h
        rcases keyIs_shape hi with ⟨i, t, rfl, rfl⟩ | ⟨x, t, rfl, rfl⟩
        · exact SeqAt.EqAt.int_none i t _ _ _ _ h
        · exact SeqAt.EqAt.str_none x t _ _ _ _ h
      · refine (mixKind prog w).eqBool hi hj ?_
        have e : decide (some i = some j) = decide (i = j) := by simp
        rw [← e]; exact h
  «strs» := fun k x t v h => by
    rcases nonIs_shape h with ⟨rfl, e⟩ | ⟨i, rfl, hi⟩
    · cases e
    · exact (mixKind prog w).strs i x t v hi
variable {X : Cx}
theorem map_opt {P : Program} {w : World} {h : Heap} {a : Addr} {vs : List (Key × Value)} (d : h.DictOf (mixKind P w) a vs) : h.MapOf (optKind P w) a (fun | none => none | some k => valueAt vs k) := by
  obtain ⟨o, es, ep, ho, hc, hd, hk, hf⟩ := d.mapOf
  refine ⟨o, es, ep, ho, hc, hd, fun e he => ?_, fun k => ?_⟩
  · obtain ⟨k, h1, h2⟩ := hk e he
    exact ⟨some k, h1, h2⟩
  · cases k with
    | some k => exact hf k
    | none =>
      show (es.find? fun e => nonIs none e.key).map (·.val) = none
      rw [Array.find?_eq_none.mpr fun e he z => ?_]
      · rfl
      · obtain ⟨k, h1, _⟩ := hk e he
        rcases nonIs_shape z with ⟨_, e2⟩ | ⟨j, e2, _⟩
        · rw [e2] at h1; exact key_none h1
        · cases e2
noncomputable def rNonIn (neg : Bool) : R2 := fun y x H Q => ∃ a kvs, y = .non ∧ x = .ref a ∧ Rd H a (.dK kvs) ∧ Q (.bl neg) H
theorem op_non_in : OpR X (compareOp .In) (rNonIn false) := by
  intro pins s σ H y x v u Q I ry rx h
  obtain ⟨a, kvs, rfl, rfl, e, q⟩ := h
  cases ry
  cases rx
  obtain ⟨z, hd, vs, rel, dd⟩ := dk_rd I.hok e
  exact wpAny_in_of (knd := optKind X.prog X.w) (k := none) rfl hd (map_opt dd) ⟨.bl false, H, I.tok _, rfl, q⟩
end L2

/-! == of dicts whose keys are texts: looked up by the texts alone, so it hangs on no world -/
namespace L2
open PySem PySem.Spec PyProof.Rows
noncomputable def SPairs (es : Array DictEntry) (kvs : List (Str × Value)) : Prop := es.size = kvs.length ∧ ∀ (i : Nat) (p : Str × Value), kvs[i]? = some p → ∃ e t, es[i]? = some e ∧ e.key = .str p.1 t ∧ e.val = p.2
noncomputable def SDict (h : Heap) (a : Addr) (kvs : List (Str × Value)) : Prop := ∃ o es ep, h.get? a = some o ∧ o.ExactDict ∧ o.data = .dict es ep ∧ SPairs es kvs
noncomputable def place (kvs : List (Str × Value)) (x : Str) : Option Nat := kvs.findIdx? fun p => decide (p.1 = x)
theorem SPairs.find {es : Array DictEntry} {kvs : List (Str × Value)} (h : SPairs es kvs) (x : Str) : (es.findIdx? fun e => e.key.isStr x) = place kvs x := by
  unfold place
  have hA : (es.findIdx? fun e => e.key.isStr x) = es.toList.findIdx? fun e => e.key.isStr x := by obtain ⟨l⟩ := es; simp
  rw [hA]
  have : ∀ (es : List DictEntry) (kvs : List (Str × Value)), es.length = kvs.length → (∀ (i : Nat) (p : Str × Value), kvs[i]? = some p → ∃ e t, es[i]? = some e ∧ e.key = .str p.1 t ∧ e.val = p.2) →
      es.findIdx? (fun e => e.key.isStr x) = kvs.findIdx? fun p => decide (p.1 = x) := by
    intro es
    induction es with
    | nil => intro kvs hl _; cases kvs with
      | nil => rfl
      | cons p r => cases hl
    | cons e es ih =>
      intro kvs hl hp
      cases kvs with
      | nil => cases hl
      | cons p r =>
        obtain ⟨e', t, h1, h2, h3⟩ := hp 0 p rfl
        obtain rfl : e = e' := by simpa using h1
        have hk : e.key.isStr x = decide (p.1 = x) := by
          rw [h2]
          show (p.1 == x) = _
          by_cases z : p.1 = x
          · rw [z]; simp
          · rw [decide_eq_false z]; exact beq_eq_false_iff_ne.mpr z
        rw [List.findIdx?_cons, List.findIdx?_cons, hk, ih r (by simpa using hl) (fun i q hq => hp (i + 1) q (by simpa using hq))]
  exact this es.toList kvs (by rw [Array.length_toList]; exact h.1) (fun i p hp => by
    obtain ⟨e, t, h1, h2⟩ := h.2 i p hp
    exact ⟨e, t, by rw [Array.getElem?_toList]; exact h1, h2⟩)
section
variable {prog : Program} {w : World} {A : Around} {E : Value → Shared → Prop} {s : Shared}
theorem find_text {d : Addr} {o : Obj} {es : Array DictEntry} {ep : Nat} {kvs : List (Str × Value)} {x : Str} {t : Tok} {n : Int} {Q : Option Nat → Shared → Prop} (ho : s.heap.get? d = some o) (hd : o.data = .dict es ep) (hp : SPairs es kvs) (q : Q (place kvs x) s) :
    wpAny (model prog w) A (dictFind d (.str x t) n) Q E s := by
  have hall : (es.all fun e => isExactStrKey e.key) = true := by
    rw [Array.all_eq_true]
    intro i hi
    have hi' : i < kvs.length := by rw [← hp.1]; exact hi
    obtain ⟨e, t', h1, h2, _⟩ := hp.2 i kvs[i] (by simp [hi'])
    rw [Array.getElem?_eq_getElem hi] at h1
    cases h1
    rw [h2]; rfl
  unfold dictFind
  try with_reducible refine wpAny_holding ?_
  refine wpAny_bind (wpAny_dictEntries ho hd ?_)
  dsimp only
  rw [if_pos hall]
  unfold foundByValue
  rw [hp.find x]
  cases hj : place kvs x with
  | none => rw [hj] at q; exact wpAny_pure q
  | some j =>
    rw [hj] at q
    obtain ⟨hlt, hx, _⟩ := List.findIdx?_eq_some_iff_getElem.mp hj
    obtain ⟨e, t', h1, h2, h3⟩ := hp.2 j kvs[j] (by simp [hlt])
    have hx' : kvs[j].1 = x := of_decide_eq_true hx
    rw [hx'] at h2
    dsimp only
    rw [h1]
    dsimp only
    refine wpAny_bind (wpAny_dictEpoch ho hd ?_)
    rw [h2]
    refine wpAny_bind (SeqAt.EqAt.str_str x t' x t prog w _ _ ?_)
    refine wpAny_bind (wpAny_dictEpoch ho hd ?_)
    rw [if_neg (by simp)]
    simp only [beq_self_eq_true, if_true]
    exact wpAny_bind (wpAny_rule (wpAny_pure q))
end
inductive SHits (A : Around) (s : Shared) (kb : List (Str × Value)) : List (Str × Value) → Bool → Prop where
  | nil : SHits A s kb [] true
  | miss {k : Str} {v : Value} {r : List (Str × Value)} : place kb k = none → SHits A s kb ((k, v) :: r) false
  | hit {k : Str} {v : Value} {r : List (Str × Value)} {j : Nat} {p : Str × Value} {e b : Bool} : place kb k = some j → kb[j]? = some p → SeqAt.EqAt A s v p.2 e → SHits A s kb r b → SHits A s kb ((k, v) :: r) (e && b)
section
variable {prog : Program} {w : World} {A : Around} {E : Value → Shared → Prop} {s : Shared}
theorem same_texts {nm : String} {a b : Addr} {ka kb : List (Str × Value)} {r : Bool} {Q : Bool → Shared → Prop} (ha : (a == sysModules) = false) (hb : (b == sysModules) = false) (da : SDict s.heap a ka) (db : SDict s.heap b kb)
    (hits : ka.length = kb.length → SHits A s kb ka r) (q : Q (ka.length == kb.length && r) s) : wpAny (model prog w) A (Builtin.Dict.samePairs nm a b) Q E s := by
  obtain ⟨oa, es, ep, ga, _, dta, pa⟩ := da
  obtain ⟨ob, es', ep', gb, _, dtb, pb⟩ := db
  have la := pa.1
  have lb := pb.1
  unfold Builtin.Dict.samePairs Builtin.Dict.showsAll
  rw [if_neg (by rw [ha]; exact Bool.false_ne_true), if_neg (by rw [hb]; exact Bool.false_ne_true)]
  refine wpAny_bind (wpAny_pure (wpAny_bind (wpAny_pure (wpAny_bind (wpAny_dictEntries ga dta ?_)))))
  refine wpAny_bind (wpAny_dictEntries gb dtb ?_)
  by_cases hz : es.size = es'.size
  · have hl : ka.length = kb.length := by omega
    have q' : Q r s := by simpa [hl] using q
    have hh := hits hl
    rw [if_neg (by rw [hz]; simp)]
    refine wpAny_bind (wpAny_dictEpoch ga dta (wpAny_bind ?_))
    rw [Std.Legacy.Range.forIn_eq_forIn_range']
    simp only [Std.Legacy.Range.size, Nat.sub_zero, Nat.add_sub_cancel, Nat.div_one]
    refine wpAny_forIn_list _ (fun rest x s' => s' = s ∧ x = (none, ()) ∧ ∃ i, rest = List.range' i (es.size - i) ∧ i ≤ es.size ∧ SHits A s kb (ka.drop i) r) _ ?_ ?_ _ _ ⟨rfl, rfl, 0, by simp, Nat.zero_le _, hh⟩
    · rintro x rest y s' ⟨rfl, rfl, i, hr, hi, hS⟩
      have hlt : i < es.size := by
        rcases Nat.lt_or_ge i es.size with z | z
        · exact z
        · rw [Nat.sub_eq_zero_of_le z] at hr; cases hr
      rw [show es.size - i = (es.size - (i + 1)) + 1 by omega, List.range'_succ] at hr
      injection hr with hx hrest
      subst hx
      have hlk : x < ka.length := by omega
      obtain ⟨e, t, h1, h2, h3⟩ := pa.2 x ka[x] (by simp [hlk])
      rw [List.drop_eq_getElem_cons hlk] at hS
      refine wpAny_bind (wpAny_dictEntries ga dta ?_)
      rw [h1]
      show wpAny _ _ (holding [e.key, e.val] _ >>= _) _ _ _
      rw [h2]
      refine wpAny_bind (wpAny_holding (wpAny_bind (find_text gb dtb pb ?_)))
      generalize hk : ka[x] = p at hS h2 h3 ⊢
      obtain ⟨k, v⟩ := p
      cases hS with
      | miss hn =>
        rw [hn]
        refine wpAny_pure ?_
        show wpAny _ _ (if (!false) = true then _ else _) _ _ _
        rw [if_pos (by decide)]
        exact wpAny_pure (wpAny_pure q')
      | @hit _ _ _ j p' eb bb hn hp he hr' =>
        rw [hn]
        obtain ⟨f, t', g1, g2, g3⟩ := pb.2 j p' hp
        refine wpAny_bind (wpAny_dictEntries gb dtb ?_)
        rw [g1]
        rw [show e.val = v from h3]
        dsimp only
        rw [g3]
        refine wpAny_holding (he prog w _ _ ?_)
        cases eb with
        | false =>
          rw [Bool.false_and] at q'
          show wpAny _ _ (if (!false) = true then _ else _) _ _ _
          rw [if_pos (by decide)]
          exact wpAny_pure (wpAny_pure q')
        | true =>
          show wpAny _ _ (if (!true) = true then _ else _) _ _ _
          rw [if_neg (by decide)]
          refine wpAny_bind (wpAny_dictEpoch ga dta ?_)
          rw [if_neg (by simp)]
          exact wpAny_pure ⟨rfl, rfl, x + 1, hrest, hlt, by rw [Bool.true_and]; exact hr'⟩
    · rintro x s' ⟨rfl, rfl, i, hr, hi, hS⟩
      have e : i = es.size := by
        rcases Nat.lt_or_ge i es.size with z | z
        · rw [show es.size - i = (es.size - (i + 1)) + 1 by omega, List.range'_succ] at hr; cases hr
        · omega
      rw [e, la, List.drop_length] at hS
      cases hS
      exact wpAny_pure q'
  · rw [if_pos (by simpa using hz)]
    have hf : (ka.length == kb.length) = false := by rw [← la, ← lb]; simpa using hz
    rw [hf, Bool.false_and] at q
    exact wpAny_bind (wpAny_rule (wpAny_pure q))
end
section
variable {A : Around} {s : Shared} {a b : Addr} {ka kb : List (Str × Value)} {r : Bool}
theorem SDict.typeIs (d : SDict s.heap a ka) : s.TypeIs (.ref a) "dict" := let ⟨o, _, _, ho, hc, _⟩ := d; ⟨o, ho, hc.1⟩
theorem rc_texts (ha : (a == sysModules) = false) (hb : (b == sysModules) = false) (da : SDict s.heap a ka) (db : SDict s.heap b kb) (hu : A.units < cLine) (hits : ka.length = kb.length → SHits A.in1 s kb ka r) : SeqAt.RcAt A s (.ref a) (.ref b) (ka.length == kb.length && r) := fun prog w E Q q => by
  refine wpAny_richCompare_same_room (op := .Eq) da.typeIs db.typeIs PySem.F.slot_dict_eq (wpAny_call_entry PySem.F.slot_dict_eq da.typeIs PySem.F.entry_dict_eq ?_ (PySem.F.args_dict_eq_2 _ _)) hu; show wpAny _ _ (Builtin.Dict.dictSlotArgs "__eq__" ⟨[.ref a, .ref b], []⟩ >>= _) _ _ s
  refine wpAny_bind ?_; unfold Builtin.Dict.dictSlotArgs; refine wpAny_bind (wpAny_notOrdered_dict da.typeIs ?_); show wpAny _ _ (pure (Value.ref a, Value.ref b)) _ _ s
  refine wpAny_pure (wpAny_bind (wpAny_isInstance (T := "dict") db.typeIs PySem.F.sub_dict_dict ?_)); simp only [Bool.not_true, Bool.false_eq_true, if_false]
  refine wpAny_bind (wpAny_pure (wpAny_bind (wpAny_pure (wpAny_bind (same_texts ha hb da db hits ?_)))))
  exact wpAny_pure ⟨_, rfl, (fun x => nomatch x), by simpa using q⟩
theorem rcNe_texts (ha : (a == sysModules) = false) (hb : (b == sysModules) = false) (da : SDict s.heap a ka) (db : SDict s.heap b kb) (hu : A.units < cLine) (hits : ka.length = kb.length → SHits A.in1 s kb ka r) : SeqAt.RcNeAt A s (.ref a) (.ref b) (!(ka.length == kb.length && r)) := fun prog w E Q q => by
  refine wpAny_richCompare_same_room (op := .NotEq) da.typeIs db.typeIs PySem.F.slot_dict_ne (wpAny_call_entry PySem.F.slot_dict_ne da.typeIs PySem.F.entry_dict_ne ?_ (PySem.F.args_dict_ne_2 _ _)) hu; show wpAny _ _ (Builtin.Dict.dictSlotArgs "__ne__" ⟨[.ref a, .ref b], []⟩ >>= _) _ _ s
  refine wpAny_bind ?_; unfold Builtin.Dict.dictSlotArgs; refine wpAny_bind (wpAny_notOrdered_dict da.typeIs ?_); show wpAny _ _ (pure (Value.ref a, Value.ref b)) _ _ s
  refine wpAny_pure (wpAny_bind (wpAny_isInstance (T := "dict") db.typeIs PySem.F.sub_dict_dict ?_)); simp only [Bool.not_true, Bool.false_eq_true, if_false]
  refine wpAny_bind (wpAny_pure (wpAny_bind (wpAny_pure (wpAny_bind (same_texts ha hb da db hits ?_)))))
  exact wpAny_pure ⟨_, rfl, (fun x => nomatch x), by simpa using q⟩
end
end L2

/-! deep == with dicts of text keys, by values -/
namespace DL
open PySem PySem.Spec PyProof.Rows L2
variable {K : PySem.W.Frag}
@[simp] noncomputable def strK? : List Key → Option (List Str)
  | [] => some []
  | .inr x :: r => (strK? r).bind fun t => some (x :: t)
  | _ => none
@[simp] noncomputable def eqKV (f : D → D → Option Bool) (ys : List Str) (us : List D) : List Str → List D → Option Bool
  | x :: xs, v :: vs => match look ys us x with
    | none => some false
    | some u => (f v u).bind fun b => (eqKV f ys us xs vs).bind fun c => some (b && c)
  | _, _ => some true
@[simp] noncomputable def eqStep2 (f : D → D → Option Bool) : D → D → Option Bool
  | .dK ks vs, .dK ks' vs' => (strK? ks).bind fun xs => (strK? ks').bind fun ys => if xs.length = ys.length then eqKV f ys vs' xs vs else some false
  | d1, d2 => eqStep f d1 d2
@[simp] noncomputable def eqM : Nat → D → D → Option Bool
  | 0 => fun _ _ => none
  | n + 1 => eqStep2 (eqM n)
theorem pairs_s {P : Program} {w : World} : ∀ {es : List DictEntry} {kvs : List (Key × Value)} {xs : List Str}, Pairs (mixKind P w) es kvs → strK? (kvs.map (·.1)) = some xs →
    ∃ skv : List (Str × Value), skv.map (·.1) = xs ∧ skv.map (·.2) = kvs.map (·.2) ∧ es.length = skv.length ∧ ∀ (i : Nat) (p : Str × Value), skv[i]? = some p → ∃ e t, es[i]? = some e ∧ e.key = .str p.1 t ∧ e.val = p.2
  | _, _, _, .nil, e => by cases e; exact ⟨[], rfl, rfl, rfl, fun i p h => by simp at h⟩
  | _, _, _, @Pairs.cons _ _ _ _ _ en kv es kvs hi hv t, e => by
    obtain ⟨k, v⟩ := kv
    cases k with
    | inl i => cases e
    | inr x =>
      have e : (strK? (kvs.map (·.1))).bind (fun t => some (x :: t)) = some _ := e
      obtain ⟨xs, e1, e2⟩ := Option.bind_eq_some_iff.mp e
      cases e2
      obtain ⟨skv, h1, h2, h3, h4⟩ := pairs_s t e1
      refine ⟨(x, v) :: skv, by rw [List.map_cons, h1], by rw [List.map_cons, List.map_cons, h2], by rw [List.length_cons, List.length_cons, h3], fun i p hp => ?_⟩
      cases i with
      | zero =>
        obtain rfl : (x, v) = p := by simpa using hp
        rcases keyIs_shape (show keyIs (.inr x) en.key = true from hi) with ⟨j, t', e3, _⟩ | ⟨y, t', e3, e4⟩
        · cases e3
        · cases e3; exact ⟨en, t', rfl, e4, hv⟩
      | succ i => exact h4 i p (by simpa using hp)
theorem kv_vals : ∀ {kvs : List (Key × V)} {vs : List (Key × Value)}, KV kvs vs → vs.map (·.1) = kvs.map (·.1) ∧ Vals (kvs.map (·.2)) (vs.map (·.2))
  | _, _, .nil => ⟨rfl, .nil⟩
  | _, _, .cons h t => ⟨by rw [List.map_cons, List.map_cons, h.1, (kv_vals t).1], .cons h.2 (kv_vals t).2⟩
section
variable {X : Cx} {pins : List (Addr × Obj)} {σ : L2.St} {F H : Hp} {s : Shared}
theorem sdict_of (I : Inv X pins σ H s) {a : Addr} {kvs : List (Key × V)} {xs : List Str} (ha : H a = some (.dK kvs)) (e : strK? (kvs.map (·.1)) = some xs) :
    (a == sysModules) = false ∧ ∃ skv : List (Str × Value), SDict s.heap a skv ∧ skv.map (·.1) = xs ∧ Vals (kvs.map (·.2)) (skv.map (·.2)) ∧ (kvs.map (·.1)).Nodup := by
  obtain ⟨z, hd, vs, rel, dd⟩ := dk_of I.hok ha
  obtain ⟨k1, k2⟩ := kv_vals rel
  obtain ⟨o, es, ep, ho, hc, hdt, _, hp, nd⟩ := dd
  rw [← k1] at e
  obtain ⟨skv, h1, h2, h3, h4⟩ := pairs_s hp e
  refine ⟨hd, skv, ⟨o, es, ep, ho, hc, hdt, by rw [← h3]; simp, fun i p hpp => ?_⟩, h1, by rw [h2]; exact k2, by rw [← k1]; exact nd⟩
  obtain ⟨en, t, g1, g2⟩ := h4 i p hpp
  exact ⟨en, t, by rw [← Array.getElem?_toList]; exact g1, g2⟩
theorem look_place (x : Str) : ∀ (skv : List (Str × Value)) (us : List D) (Us : List V), Reps X.K F us Us → Vals Us (skv.map (·.2)) → match look (skv.map (·.1)) us x with
    | none => place skv x = none
    | some u => ∃ j p U, place skv x = some j ∧ skv[j]? = some p ∧ Rep X.K F u U ∧ RelV U p.2
  | [], _, _, r, v => by cases v; cases r; rfl
  | p :: skv, _, _, r, v => by
    cases v with
    | @cons U u' Us us' hU tU =>
    cases r with
    | @cons d v' ds vs' h t =>
      have ih := look_place x skv ds Us t tU
      show match (if p.1 = x then some d else look (skv.map (·.1)) ds x) with
        | none => place (p :: skv) x = none
        | some u => ∃ j q U, place (p :: skv) x = some j ∧ (p :: skv)[j]? = some q ∧ Rep X.K F u U ∧ RelV U q.2
      have hpl : place (p :: skv) x = if p.1 = x then some 0 else (place skv x).map (· + 1) := by
        unfold place
        rw [List.findIdx?_cons]
        by_cases e : p.1 = x <;> simp [e]
      by_cases e : p.1 = x
      · rw [if_pos e, hpl, if_pos e]
        exact ⟨0, p, U, rfl, rfl, h, hU⟩
      · rw [if_neg e, hpl, if_neg e]
        cases hl : look (skv.map (·.1)) ds x with
        | none => rw [hl] at ih; dsimp only at ih ⊢; rw [ih]; rfl
        | some u =>
          rw [hl] at ih
          obtain ⟨j, q, U', h1, h2, h3, h4⟩ := ih
          exact ⟨j + 1, q, U', by rw [h1]; rfl, by simpa using h2, h3, h4⟩
theorem hits_of {A : Around} {f : D → D → Option Bool} (ih : ∀ d1 d2 b x y v u, Rep X.K F d1 x → RelV x v → Rep X.K F d2 y → RelV y u → f d1 d2 = some b → SeqAt.EqAt A s v u b) {skv2 : List (Str × Value)} {us : List D} {Us : List V} (ru : Reps X.K F us Us) (vu : Vals Us (skv2.map (·.2))) :
    ∀ (skv : List (Str × Value)) (vs : List D) (Vs : List V) (r : Bool), Reps X.K F vs Vs → Vals Vs (skv.map (·.2)) → eqKV f (skv2.map (·.1)) us (skv.map (·.1)) vs = some r → SHits A s skv2 skv r
  | [], _, _, _, r, v, e => by cases v; cases r; cases e; exact .nil
  | p :: skv, _, _, _, r, v, e => by
    obtain ⟨k, w⟩ := p
    cases v with
    | @cons V0 u' Vs us' hV tV =>
    cases r with
    | @cons d v' ds vs' h t =>
      have lp := look_place (X := X) (F := F) k skv2 us Us ru vu
      have e : (match look (skv2.map (·.1)) us k with
        | none => some false
        | some u => (f d u).bind fun b => (eqKV f (skv2.map (·.1)) us (skv.map (·.1)) ds).bind fun c => some (b && c)) = some _ := e
      cases hl : look (skv2.map (·.1)) us k with
      | none =>
        rw [hl] at lp e
        cases e
        exact .miss lp
      | some u =>
        rw [hl] at lp e
        obtain ⟨j, q, U, h1, h2, h3, h4⟩ := lp
        obtain ⟨b, e1, e2⟩ := Option.bind_eq_some_iff.mp e
        obtain ⟨c, e3, e4⟩ := Option.bind_eq_some_iff.mp e2
        cases e4
        exact .hit h1 h2 (ih _ _ _ _ _ _ _ h hV h3 h4 e1) (hits_of ih ru vu skv ds Vs c t tV e3)
end
end DL

namespace DL
open PySem PySem.Spec PyProof.Rows L2
variable {K : PySem.W.Frag}
theorem place_mem : ∀ (skv : List (Str × Value)), (skv.map (·.1)).Nodup → ∀ q ∈ skv, ∃ j, place skv q.1 = some j ∧ skv[j]? = some q
  | [], _, _, h => nomatch h
  | p :: r, nd, q, h => by
    obtain ⟨n1, n2⟩ := List.nodup_cons.mp nd
    have hpl : place (p :: r) q.1 = if p.1 = q.1 then some 0 else (place r q.1).map (· + 1) := by
      unfold place
      rw [List.findIdx?_cons]
      by_cases e : p.1 = q.1 <;> simp [e]
    rcases List.mem_cons.mp h with e | e
    · subst e; exact ⟨0, by rw [hpl, if_pos rfl], rfl⟩
    · obtain ⟨j, h1, h2⟩ := place_mem r n2 q e
      have hne : ¬ p.1 = q.1 := fun z => n1 (List.mem_map.mpr ⟨q, e, z.symm⟩)
      exact ⟨j + 1, by rw [hpl, if_neg hne, h1]; rfl, by simpa using h2⟩
theorem strK_map : ∀ {ks : List Key} {xs : List Str}, strK? ks = some xs → ks = xs.map Sum.inr
  | [], _, e => by cases e; rfl
  | .inr x :: ks, _, e => by
    obtain ⟨t, e1, e2⟩ := Option.bind_eq_some_iff.mp e
    cases e2
    rw [strK_map e1]; rfl
  | .inl i :: ks, _, e => by cases e
theorem nodup_strK {ks : List Key} {xs : List Str} (e : strK? ks = some xs) (nd : ks.Nodup) : xs.Nodup := by
  rw [strK_map e] at nd
  have z : (xs.map Sum.inr : List Key).Pairwise (· ≠ ·) := nd
  rw [List.pairwise_map] at z
  exact z.imp fun h e => h (by rw [e])
section
variable {X : Cx} {pins : List (Addr × Obj)} {σ : L2.St} {F H : Hp} {s : Shared}
theorem same_hits {f : D → D → Option Bool} (ih : ∀ (d1 d2 : D) (b : Bool) (x y : V) (v : Value), Rep X.K F d1 x → RelV x v → Rep X.K F d2 y → RelV y v → f d1 d2 = some b → b = true) {skv : List (Str × Value)} {us : List D} {Us : List V} (ru : Reps X.K F us Us) (vu : Vals Us (skv.map (·.2))) :
    ∀ (skv1 : List (Str × Value)) (vs : List D) (Vs : List V) (r : Bool), (∀ q ∈ skv1, ∃ j, place skv q.1 = some j ∧ skv[j]? = some q) → Reps X.K F vs Vs → Vals Vs (skv1.map (·.2)) → eqKV f (skv.map (·.1)) us (skv1.map (·.1)) vs = some r → r = true
  | [], _, _, _, _, r, v, e => by cases v; cases r; cases e; rfl
  | p :: skv1, _, _, _, hs, r, v, e => by
    obtain ⟨k, w⟩ := p
    cases v with
    | @cons V0 u' Vs us' hV tV =>
    cases r with
    | @cons d v' ds vs' h t =>
      have lp := look_place (X := X) (F := F) k skv us Us ru vu
      obtain ⟨j, hj1, hj2⟩ := hs (k, w) List.mem_cons_self
      have e : (match look (skv.map (·.1)) us k with
        | none => some false
        | some u => (f d u).bind fun b => (eqKV f (skv.map (·.1)) us (skv1.map (·.1)) ds).bind fun c => some (b && c)) = some _ := e
      cases hl : look (skv.map (·.1)) us k with
      | none =>
        rw [hl] at lp
        rw [show place skv k = some j from hj1] at lp
        cases lp
      | some u =>
        rw [hl] at lp e
        obtain ⟨j', q, U, h1, h2, h3, h4⟩ := lp
        rw [show place skv k = some j from hj1] at h1
        cases h1
        rw [hj2] at h2
        cases h2
        obtain ⟨b, e1, e2⟩ := Option.bind_eq_some_iff.mp e
        obtain ⟨c, e3, e4⟩ := Option.bind_eq_some_iff.mp e2
        cases e4
        rw [ih _ _ _ _ _ _ h hV h3 h4 e1, same_hits ih ru vu skv1 ds Vs c (fun q hq => hs q (List.mem_cons_of_mem _ hq)) t tV e3]; rfl
theorem eqM_same (I : Inv X pins σ H s) (le : Same F H) : ∀ (n : Nat) (d1 d2 : D) (b : Bool) (x y : V) (v : Value), Rep X.K F d1 x → RelV x v → Rep X.K F d2 y → RelV y v → eqM n d1 d2 = some b → b = true
  | 0, _, _, _, _, _, _, _, _, _, _, e => by cases e
  | n + 1, d1, d2, b, x, y, v, r1, v1, r2, v2, e => by
    unfold eqM eqStep2 at e
    split at e
    · cases r1 with
      | @dK a ks ds kvs h1 e1 rr1 =>
      cases r2 with
      | @dK a' ks' ds' kvs' h2 e2 rr2 =>
      cases v1
      cases (show Value.ref a = Value.ref a' from v2)
      rw [h1] at h2
      cases h2
      subst e1 e2
      obtain ⟨xs, f1, e⟩ := Option.bind_eq_some_iff.mp e
      obtain ⟨ys, f2, e⟩ := Option.bind_eq_some_iff.mp e
      rw [f1] at f2
      cases f2
      rw [if_pos rfl] at e
      obtain ⟨_, skv, _, hk, hv, nd⟩ := sdict_of I (le _ _ h1) f1
      have ndx := nodup_strK f1 nd
      rw [← hk] at e ndx
      exact same_hits (eqM_same I le n) rr2 hv skv _ _ b (place_mem skv ndx) rr1 hv e
    · exact same_step I le (eqM_same I le n) d1 d2 b x y v r1 v1 r2 v2 e
theorem rcM (I : Inv X pins σ H s) (le : Same F H) {A : Around} {f : D → D → Option Bool} {d1 d2 : D} {b : Bool} {x y : V} {v u : Value}
    (ih : ∀ d1 d2 b x y v u, Rep X.K F d1 x → RelV x v → Rep X.K F d2 y → RelV y u → f d1 d2 = some b → SeqAt.EqAt A.in1 s v u b) (r1 : RepN X.K F H d1 x) (v1 : RelV x v) (r2 : RepN X.K F H d2 y) (v2 : RelV y u)
    (e : eqStep2 f d1 d2 = some b) (hu : A.units < cLine) (hr : flatV x = false ∨ flatV y = false) : (∃ a c, v = .ref a ∧ u = .ref c) ∧ SeqAt.RcAt A s v u b ∧ SeqAt.RcNeAt A s v u (!b) := by
  unfold eqStep2 at e
  split at e
  · obtain ⟨a1, kvs1, rfl, ha1, rfl, rr1⟩ := r1.dK le
    obtain ⟨a2, kvs2, rfl, ha2, rfl, rr2⟩ := r2.dK le
    cases v1; cases v2
    obtain ⟨xs, f1, e⟩ := Option.bind_eq_some_iff.mp e
    obtain ⟨ys, f2, e⟩ := Option.bind_eq_some_iff.mp e
    obtain ⟨m1, skv1, sd1, hk1, hv1, _⟩ := sdict_of I ha1 f1
    obtain ⟨m2, skv2, sd2, hk2, hv2, _⟩ := sdict_of I ha2 f2
    have l1 : skv1.length = xs.length := by rw [← hk1, List.length_map]
    have l2 : skv2.length = ys.length := by rw [← hk2, List.length_map]
    refine ⟨⟨_, _, rfl, rfl⟩, ?_⟩
    split at e
    · rename_i hl
      rw [← hk1, ← hk2] at e
      have hits : skv1.length = skv2.length → SHits A.in1 s skv2 skv1 b := fun _ => hits_of ih rr2 hv2 skv1 _ _ b rr1 hv1 e
      have hb : b = (skv1.length == skv2.length && b) := by rw [l1, l2, hl]; simp
      rw [hb]
      exact ⟨rc_texts m1 m2 sd1 sd2 hu hits, rcNe_texts m1 m2 sd1 sd2 hu hits⟩
    · rename_i hl
      cases e
      have hits : skv1.length = skv2.length → SHits A.in1 s skv2 skv1 false := fun z => absurd (by omega) hl
      have hb : false = (skv1.length == skv2.length && false) := by simp
      rw [hb]
      exact ⟨rc_texts m1 m2 sd1 sd2 hu hits, rcNe_texts m1 m2 sd1 sd2 hu hits⟩
  · exact rcN I le ih r1 v1 r2 v2 e hu hr
theorem eqM_at (I : Inv X pins σ H s) (le : Same F H) : ∀ (n : Nat) (A : Around) (d1 d2 : D) (b : Bool) (x y : V) (v u : Value), A.units + n < cLine → Rep X.K F d1 x → RelV x v → Rep X.K F d2 y → RelV y u → eqM n d1 d2 = some b → SeqAt.EqAt A s v u b
  | 0, _, _, _, _, _, _, _, _, _, _, _, _, _, e => by cases e
  | n + 1, A, d1, d2, b, x, y, v, u, hu, r1, v1, r2, v2, e => by
    by_cases hf : flatV x = true ∧ flatV y = true
    · have e' : eqS d1 d2 = some b := by
        unfold eqM eqStep2 at e
        split at e
        · cases r1; cases hf.1
        · unfold eqStep at e
          split at e
          · cases r1; cases hf.1
          · cases r1; cases hf.1
          · cases r1; cases hf.1
          · cases r1; cases hf.1
          · exact e
      obtain ⟨f1, f2, rfl⟩ := eqS_flat (H := H) e' (RepN.of r1) (RepN.of r2)
      exact eqAt_V v1 v2 f1 f2
    · have hf' : flatV x = false ∨ flatV y = false := by
        cases h1 : flatV x with
        | false => exact .inl rfl
        | true => cases h2 : flatV y with
          | false => exact .inr rfl
          | true => exact absurd ⟨h1, h2⟩ hf
      obtain ⟨⟨a, c, rfl, rfl⟩, h1, _⟩ := rcM I le (A := A) (f := eqM n) (fun d1 d2 b x y v u q1 w1 q2 w2 e => eqM_at I le n A.in1 d1 d2 b x y v u (by have : A.in1.units = A.units + 1 := rfl; omega) q1 w1 q2 w2 e) (RepN.of r1) v1 (RepN.of r2) v2 e (by omega) hf'
      by_cases hac : a = c
      · subst hac
        rw [eqM_same I le (n + 1) d1 d2 b x y _ r1 v1 r2 v2 e]
        exact SeqAt.EqAt.same _
      · exact SeqAt.EqAt.of_refs hac h1
noncomputable def rEqM (K : PySem.W.Frag) (neg : Bool) : R2 := fun x y H Q => ∃ F d1 d2 b, Same F H ∧ RepN K F H d1 x ∧ RepN K F H d2 y ∧ eqM 48 d1 d2 = some b ∧ (flatV x = false ∨ flatV y = false) ∧ Q (.bl (if neg then !b else b)) H
theorem op_eqM (hu : X.A.units + 64 < cLine) : OpR X (compareOp .Eq) (rEqM X.K false) := by
  intro pins s σ H x y v u Q I rx ry h
  obtain ⟨F, d1, d2, b, le, r1, r2, e, hf, q⟩ := h
  obtain ⟨_, h1, _⟩ := rcM I le (A := X.A) (f := eqM 47) (fun d1 d2 b x y v u q1 w1 q2 w2 e => eqM_at I le 47 X.A.in1 d1 d2 b x y v u (by have : X.A.in1.units = X.A.units + 1 := rfl; omega) q1 w1 q2 w2 e) r1 rx r2 ry e (by omega) hf
  exact h1 X.prog X.w X.xe _ ⟨.bl b, H, I, rfl, q⟩
theorem op_neM (hu : X.A.units + 64 < cLine) : OpR X (compareOp .NotEq) (rEqM X.K true) := by
  intro pins s σ H x y v u Q I rx ry h
  obtain ⟨F, d1, d2, b, le, r1, r2, e, hf, q⟩ := h
  obtain ⟨_, _, h1⟩ := rcM I le (A := X.A) (f := eqM 47) (fun d1 d2 b x y v u q1 w1 q2 w2 e => eqM_at I le 47 X.A.in1 d1 d2 b x y v u (by have : X.A.in1.units = X.A.units + 1 := rfl; omega) q1 w1 q2 w2 e) r1 rx r2 ry e (by omega) hf
  exact h1 X.prog X.w X.xe _ ⟨.bl !b, H, I, rfl, q⟩
end
end DL

namespace DL
open PySem PySem.Spec PyProof.Rows L2
variable {K : PySem.W.Frag}
@[simp] noncomputable def eqY (d1 d2 : D) : Option SV := if d1.isFlat = true ∧ d2.isFlat = true then eqD d1 d2 else (eqM 48 d1 d2).bind fun b => some (.fz (.bl b))
@[simp] noncomputable def neY (d1 d2 : D) : Option SV := if d1.isFlat = true ∧ d2.isFlat = true then neD d1 d2 else (eqM 48 d1 d2).bind fun b => some (.fz (.bl !b))
@[simp] noncomputable def inY (d1 d2 : D) : Option SV := match d1, d2 with
  | .non, .dK _ _ => some (.fz (.bl false))
  | _, _ => inX d1 d2
@[simp] noncomputable def notinY (d1 d2 : D) : Option SV := match d1, d2 with
  | .non, .dK _ _ => some (.fz (.bl true))
  | _, _ => notinX d1 d2
section
variable {Z : Ent K}
theorem flat_or {F H : Hp} {d1 d2 : D} {x y : V} (r1 : RepN K F H d1 x) (r2 : RepN K F H d2 y) (hf : ¬ (d1.isFlat = true ∧ d2.isFlat = true)) : flatV x = false ∨ flatV y = false := by
  cases h1 : d1.isFlat with
  | false => exact .inl (notFlat_ok r1 h1)
  | true => cases h2 : d2.isFlat with
    | false => exact .inr (notFlat_ok r2 h2)
    | true => exact absurd ⟨h1, h2⟩ hf
theorem p_eqY : Prim2 Z (fun x y H Q => rEq x y H Q ∨ rEqM K false x y H Q) eqY := by
  intro F H σ δ own x y d1 d2 sv Q s r1 r2 e k
  unfold eqY at e
  split at e
  · exact .inl (p_eq F H σ δ own x y d1 d2 sv Q s r1 r2 e k)
  · rename_i hf
    obtain ⟨b, e1, e2⟩ := Option.bind_eq_some_iff.mp e
    cases e2
    exact .inr ⟨F, d1, d2, b, s.le, r1, r2, e1, flat_or r1 r2 hf, k.fz s (.bl _)⟩
theorem p_neY : Prim2 Z (fun x y H Q => rNe x y H Q ∨ rEqM K true x y H Q) neY := by
  intro F H σ δ own x y d1 d2 sv Q s r1 r2 e k
  unfold neY at e
  split at e
  · exact .inl (p_ne F H σ δ own x y d1 d2 sv Q s r1 r2 e k)
  · rename_i hf
    obtain ⟨b, e1, e2⟩ := Option.bind_eq_some_iff.mp e
    cases e2
    exact .inr ⟨F, d1, d2, b, s.le, r1, r2, e1, flat_or r1 r2 hf, k.fz s (.bl _)⟩
theorem p_inY : Prim2 Z (fun x y H Q => ((∃ i j, x = .str i ∧ y = .str j ∧ Q (.bl (!(Builtin.Str.occurrences j i 0 j.length 1).isEmpty)) H) ∨ rDIn x y H Q) ∨ rNonIn false x y H Q) inY := by
  intro F H σ δ own x y d1 d2 sv Q s r1 r2 e k
  unfold inY at e
  split at e
  · cases e
    obtain ⟨a, kvs, rfl, ha, _, _⟩ := r2.dK s.le
    exact .inr ⟨a, kvs, r1.non, rfl, .inl ha, k.fz s (.bl _)⟩
  · exact .inl (p_inX F H σ δ own x y d1 d2 sv Q s r1 r2 e k)
end
section
variable {X : Cx} {Z : Ent X.K} {a b c : Expr} {fa fb fc : FE} {pos : Pos}
theorem e_eqY (hv : X.A.units + 64 < cLine) (ha : PE X a (liftE Z fa)) (hb : PE X b (liftE Z fb)) : PE X (.Compare a [.Eq] [b] pos) (liftE Z (binF eqY fa fb)) := e_cmp (op_eq.or (op_eqM hv)) p_eqY ha hb (nomark _)
theorem t_eqY (hv : X.A.units + 64 < cLine) (ha : PE X a (liftE Z fa)) (hb : PE X b (liftE Z fb)) : PT X (.Compare a [.Eq] [b] pos) (liftT Z (testF (binF eqY fa fb))) := t_cmp (op_eq.or (op_eqM hv)) p_eqY ha hb (nomark _)
theorem t_neY (hv : X.A.units + 64 < cLine) (ha : PE X a (liftE Z fa)) (hb : PE X b (liftE Z fb)) : PT X (.Compare a [.NotEq] [b] pos) (liftT Z (testF (binF neY fa fb))) := t_cmp (op_ne.or (op_neM hv)) p_neY ha hb (nomark _)
end
end DL

/-! a slot's own dict of own lists: t = {}; t[k] = []; t[k].append(x) -/
namespace DL
open PySem PySem.Spec PyProof.Rows L2
variable {K : PySem.W.Frag}
section
variable {Z : Ent K} {H : Hp} {σ : L2.St} {Q : VK} {E : Ends}
@[simp] noncomputable def dnewN : FE := fun δ => some (.tmp (.oN [] []), δ)
@[simp] noncomputable def putNF (i j : Nat) : FS := fun δ => match δ[i]?, δ[j]? with
  | some (some (.oN ks xss)), some (some (.fz kd)) => kd.key?.bind fun k => if (ks.any fun x => decide (x = k)) = false ∧ xss.length < PySem.sizeLine then some (.nx (δ.set i (some (.oN (ks ++ [k]) (xss ++ [[]]))))) else none
  | _, _ => none
end
@[simp] noncomputable def placeK : List Key → Key → Option Nat
  | [], _ => none
  | a :: r, k => if a = k then some 0 else (placeK r k).map (· + 1)
section
variable {Z : Ent K} {H : Hp} {σ : L2.St} {Q : VK} {E : Ends}
@[simp] noncomputable def appNF (i j : Nat) (fe : FE) : FS := fun δ => match δ[i]?, δ[j]? with
  | some (some (.oN ks _)), some (some (.fz kd)) => kd.key?.bind fun k => (placeK ks k).bind fun p => (fe δ).bind fun q => (frz q.1 q.2).bind fun r => match r.2[i]? with
    | some (some (.oN ks' xss)) => if ks' = ks then (xss[p]?).bind fun xs => if xs.length < PySem.sizeLine then some (.nx (r.2.set i (some (.oN ks (xss.set p (xs ++ [r.1])))))) else none else none
    | _ => none
  | _, _ => none
end
end DL

namespace DL
open PySem PySem.Spec PyProof.Rows L2
variable {K : PySem.W.Frag}
section
variable {Z : Ent K} {H : Hp} {σ : L2.St} {E : Ends}
@[simp] noncomputable def retZ (fe : FE) : FS := fun δ => (fe δ).bind fun p => (frz p.1 p.2).bind fun q => some (.rt (.fz q.1))
end
section
variable {X : Cx} {Z : Ent X.K} {a b c : Expr} {fa fb fc : FE} {pos : Pos}
end
end DL

/-! in a list; list.index, str.index, rstrip; a text times a number; str of a number -/
namespace L2
open PySem PySem.Spec PyProof.Rows
variable {X : Cx}
noncomputable def rIndexL (K : PySem.W.Frag) : V → List V → Hp → VK → Prop := fun x xs H Q => ∃ p ys y j, x = .ref p ∧ xs = [y] ∧ SqL K H p ys ∧ flatV y = true ∧ ys.all flatV = true ∧ (ys.findIdx? fun z => eqV z y) = some j ∧ Q (.int (j : Nat)) H
noncomputable def rIndexS : V → List V → Hp → VK → Prop := fun x xs H Q => ∃ a b i rest, x = .str a ∧ xs = [.str b] ∧ Builtin.Str.occurrences a b 0 a.length 1 = i :: rest ∧ Q (.int (i : Nat)) H
noncomputable def rRstrip : V → List V → Hp → VK → Prop := fun x xs H Q => ∃ a b, x = .str a ∧ xs = [.str b] ∧ a.length ≤ sizeLine ∧ Q (.str (Txt.rstripChars a b)) H
noncomputable def rSRep : R2 := fun x y H Q => ∃ a k, x = .str a ∧ y = .int k ∧ MulOk a k ∧ Q (.str (Txt.mul a k)) H
theorem op_srep : OpR X (binaryOp .Mult) rSRep := by
  intro pins s σ H x y v u Q I rx ry h
  obtain ⟨a, k, rfl, rfl, hm, q⟩ := h
  obtain ⟨t, rfl⟩ := rx
  obtain ⟨t', rfl⟩ := ry
  exact SB.mul hm fun t' k => ⟨.str _, H, I.tok _, ⟨_, rfl⟩, q⟩
end L2

namespace DL
open PySem PySem.Spec PyProof.Rows L2
variable {K : PySem.W.Frag}
@[simp] noncomputable def D.fv : D → V
  | .bl b => .bl b
  | .int i => .int i
  | .str x => .str x
  | _ => .non
theorem fv_ok {F H : Hp} {d : D} {x : V} (r : RepN K F H d x) (h : d.isFlat = true) : x = d.fv ∧ flatV x = true := by
  cases d with
  | non => rw [r.non]; exact ⟨rfl, rfl⟩
  | bl b => rw [r.bl]; exact ⟨rfl, rfl⟩
  | int i => rw [r.int]; exact ⟨rfl, rfl⟩
  | str y => rw [r.str]; exact ⟨rfl, rfl⟩
  | _ => cases h
theorem fvs_ok {F : Hp} : ∀ {ds : List D} {vs : List V}, Reps K F ds vs → ds.all D.isFlat = true → vs = ds.map D.fv ∧ vs.all flatV = true
  | _, _, .nil, _ => ⟨rfl, rfl⟩
  | _, _, .cons h t, e => by
    rw [List.all_cons, Bool.and_eq_true] at e
    obtain ⟨a1, a2⟩ := fv_ok (H := F) (RepN.of h) e.1
    obtain ⟨b1, b2⟩ := fvs_ok t e.2
    refine ⟨by rw [List.map_cons, ← a1, ← b1], by rw [List.all_cons, a2, b2]; rfl⟩
noncomputable def eqFl (y x : D) : Bool := eqV y.fv x.fv
@[simp] theorem eqFl_str (a b : Str) : eqFl (.str a) (.str b) = decide (a = b) := by
  show (a == b) = decide (a = b)
  by_cases h : a = b
  · subst h; simp
  · rw [decide_eq_false h]; exact beq_eq_false_iff_ne.mpr h
@[simp] theorem eqFl_bl (a b : Bool) : eqFl (.bl a) (.bl b) = decide (a = b) := by cases a <;> cases b <;> rfl
@[simp] theorem eqFl_non : eqFl .non .non = true := rfl
@[simp] theorem eqFl_sn (a : Str) : eqFl (.str a) .non = false := rfl
noncomputable def inFl (x : D) (xs : List D) : Bool := xs.any fun y => eqFl y x
theorem inFl_ok {d : D} {ds : List D} : inV d.fv (ds.map D.fv) = inFl d ds := by
  unfold inV inFl
  rw [List.any_map]; rfl
noncomputable def D.seq? : D → Option (List D)
  | .lst xs => some xs
  | .tup xs => some xs
  | _ => none
@[simp] theorem seq_lst (xs : List D) : D.seq? (.lst xs) = some xs := rfl
@[simp] theorem seq_tup (xs : List D) : D.seq? (.tup xs) = some xs := rfl
@[simp] theorem seq_str (x : Str) : D.seq? (.str x) = none := rfl
@[simp] theorem seq_dK (ks : List Key) (vs : List D) : D.seq? (.dK ks vs) = none := rfl
@[simp] theorem seq_dT (ks : List (List Key)) (vs : List D) : D.seq? (.dT ks vs) = none := rfl
@[simp] noncomputable def inZ (d1 d2 : D) : Option SV := match d2.seq? with
  | some xs => if d1.isFlat = true ∧ xs.all D.isFlat = true then some (.fz (.bl (inFl d1 xs))) else none
  | none => inY d1 d2
@[simp] noncomputable def notinZ (d1 d2 : D) : Option SV := match d2.seq? with
  | some xs => if d1.isFlat = true ∧ xs.all D.isFlat = true then some (.fz (.bl (!inFl d1 xs))) else none
  | none => notinY d1 d2
section
variable {Z : Ent K} {H : Hp} {σ : L2.St} {Q : VK} {E : Ends}
theorem seq_ok {F : Hp} {d : D} {x : V} {xs : List D} (le : Same F H) (r : RepN K F H d x) (h : d.seq? = some xs) : ∃ a vs, x = .ref a ∧ (SqL K H a vs ∨ SqT K H a vs) ∧ Reps K F xs vs := by
  cases d with
  | lst ys => cases h; obtain ⟨a, vs, e, q, rr⟩ := r.lst le; exact ⟨a, vs, e, .inl q, rr⟩
  | tup ys => cases h; obtain ⟨a, vs, e, q, rr⟩ := r.tup le; exact ⟨a, vs, e, .inr q, rr⟩
  | _ => cases h
theorem p_inZ : Prim2 Z (fun x y H Q => (((∃ i j, x = .str i ∧ y = .str j ∧ Q (.bl (!(Builtin.Str.occurrences j i 0 j.length 1).isEmpty)) H) ∨ rDIn x y H Q) ∨ rNonIn false x y H Q) ∨ rIn K false x y H Q) inZ := by
  intro F H σ δ own x y d1 d2 sv Q s r1 r2 e k
  unfold inZ at e
  split at e
  · rename_i xs hx
    split at e
    · rename_i hf
      cases e
      obtain ⟨a, vs, rfl, hq, rr⟩ := seq_ok s.le r2 hx
      obtain ⟨e1, f1⟩ := fv_ok r1 hf.1
      obtain ⟨e2, f2⟩ := fvs_ok rr hf.2
      refine .inr ⟨a, vs, rfl, hq, f1, f2, ?_⟩
      rw [e1, e2, inFl_ok]
      exact k.fz s (.bl _)
    · cases e
  · exact .inl (p_inY F H σ δ own x y d1 d2 sv Q s r1 r2 e k)
/-! index, rstrip -/
@[simp] noncomputable def indexD : List D → Option SV
  | [.lst xs, x] => if x.isFlat = true ∧ xs.all D.isFlat = true then (xs.findIdx? fun y => eqFl y x).bind fun j => some (.fz (.int (j : Nat))) else none
  | _ => none
@[simp] noncomputable def sindexD : List D → Option SV
  | [.str a, .str b] => match Builtin.Str.occurrences a b 0 a.length 1 with
    | i :: _ => some (.fz (.int (i : Nat)))
    | [] => none
  | _ => none
@[simp] noncomputable def rstripD : List D → Option SV
  | [.str a, .str b] => if a.length ≤ PySem.sizeLine then some (.fz (.str (Txt.rstripChars a b))) else none
  | _ => none
/-! text times number -/
open Classical in
noncomputable def mulS (a : Str) (k : Int) : Option SV := if MulOk a k then some (.fz (.str (Txt.mul a k))) else none
theorem mulS_of {a : Str} {k : Int} {sv : SV} (h : mulS a k = some sv) : MulOk a k ∧ sv = .fz (.str (Txt.mul a k)) := by
  unfold mulS at h
  split at h
  · rename_i hm; cases h; exact ⟨hm, rfl⟩
  · cases h
noncomputable def CMulP (i j : Int) : Prop := cMul i j = true
open Classical in
noncomputable def mulI (i j : Int) : Option SV := if CMulP i j then some (.fz (.int (i * j))) else none
theorem mulI_of {i j : Int} {sv : SV} (h : mulI i j = some sv) : mulD (.int i) (.int j) = some sv := by
  unfold mulI at h
  split at h
  · rename_i hc
    cases h
    unfold CMulP at hc
    simp [hc]
  · cases h
noncomputable def mulZ : D → D → Option SV
  | .str a, .int k => mulS a k
  | .int i, .int j => mulI i j
  | _, _ => none
@[simp] theorem mulZ_si (a : Str) (k : Int) : mulZ (.str a) (.int k) = mulS a k := rfl
@[simp] theorem mulZ_ii (i j : Int) : mulZ (.int i) (.int j) = mulI i j := rfl
theorem p_mulZ : Prim2 Z (fun x y H Q => rI CMul (fun i j => V.int (i * j)) x y H Q ∨ rSRep x y H Q) mulZ := by
  intro F H σ δ own x y d1 d2 sv Q s r1 r2 e k
  unfold mulZ at e
  split at e
  · obtain ⟨hm, rfl⟩ := mulS_of e
    exact .inr ⟨_, _, r1.str, r2.int, hm, k.fz s (.str _)⟩
  · exact .inl (p_mul F H σ δ own x y _ _ sv Q s r1 r2 (mulI_of e) k)
  · cases e
/-! str of a whole number -/
@[simp] noncomputable def strD : List D → Option SV
  | [.int i] => if i.natAbs.log2 < 1920 then some (.fz (.str (toString i))) else none
  | _ => none
/-! x[i] = v of a slot's own list -/
@[simp] noncomputable def putLS (kd d : D) : Option (Option SV) → Option SV
  | some (some (.ol xs)) => match kd with
    | .int i => (ixN xs.length i).bind fun j => some (.ol (xs.set j d))
    | _ => none
  | _ => none
@[simp] noncomputable def SV.isOL : Option (Option SV) → Bool
  | some (some (.ol _)) => true
  | _ => false
@[simp] noncomputable def putLF (i : Nat) (fk fv : FE) : FS := fun δ => (fv δ).bind fun p => (frz p.1 p.2).bind fun q => if SV.isOL (q.2[i]?) = true then (fk q.2).bind fun r => (rdv r.1 r.2).bind fun kd => (putLS kd q.1 (r.2[i]?)).bind fun sv => some (.nx (r.2.set i (some sv))) else none
/-! x.extend(new list) -/
@[simp] noncomputable def SV.ol? : RV → Option (List D)
  | .tmp (.ol ys) => some ys
  | _ => none
@[simp] noncomputable def extF (i : Nat) (fe : FE) : FS := fun δ => match δ[i]? with
  | some (some (.ol _)) => (fe δ).bind fun p => (SV.ol? p.1).bind fun ys => match p.2[i]? with
    | some (some (.ol xs)) => if xs.length + ys.length ≤ PySem.sizeLine then some (.nx (p.2.set i (some (.ol (xs ++ ys))))) else none
    | _ => none
  | _ => none
theorem ol?_ok {rv : RV} {ys : List D} (h : SV.ol? rv = some ys) : rv = .tmp (.ol ys) := by
  unfold SV.ol? at h
  split at h
  · cases h; rfl
  · cases h
theorem l_ext {i : Nat} {fe : FE} (h : liftS Z (extF i fe) E σ H) : tDrop (tBM K "list" rExtend (tVar i) (tCons (liftE Z fe) tNil)) E σ H := by
  obtain ⟨F, δ, own, fl, s, e, k⟩ := h
  unfold extF at e
  split at e
  · rename_i xs0 hx0
    obtain ⟨⟨rv, δ1⟩, e1, e2⟩ := Option.bind_eq_some_iff.mp e
    obtain ⟨ys, e3, e4⟩ := Option.bind_eq_some_iff.mp e2
    obtain ⟨v, hv, sh⟩ := s.at' i _ hx0
    obtain ⟨a, vs0, ev, en, r0⟩ := shape_ol sh
    refine ⟨v, hv, ?_, F, δ, own, rv, δ1, s, e1, fun y H1 F1 own1 sH sF s1 r1 => ?_⟩
    · subst ev
      exact .inl ⟨rfl, vs0, .inl (.inl (s.ok i (a, .lst vs0) (by rw [en]; exact List.mem_cons_self)).2.2)⟩
    have e5 := ol?_ok e3
    dsimp only at e5 e4
    subst e5
    obtain ⟨ns, t⟩ := r1
    obtain ⟨c, us, ec, ens, ru⟩ := shape_ol t.sh
    have hc : H1 c = some (.lst us) := (t.ok (c, .lst us) (by rw [ens]; exact List.mem_cons_self)).2.2
    split at e4
    · rename_i xs hx
      split at e4
      · rename_i hz
        cases e4
        obtain ⟨v', hv', sh'⟩ := s1.at' i _ hx
        rw [hv] at hv'; cases hv'
        obtain ⟨b, vs, eb, en', r'⟩ := shape_ol sh'
        have mb : (b, HO.lst vs) ∈ own1 i := by rw [en']; exact List.mem_cons_self
        subst eb
        refine ⟨b, c, vs, us, rfl, by rw [ec], (s1.ok i _ mb).2.2, hc, by rw [← r'.length, ← ru.length]; exact hz, ?_⟩
        exact k σ _ F1 _ sF (s1.change (sv' := .ol (xs ++ ys)) (o' := .lst (vs ++ us)) (ns' := [(b, .lst (vs ++ us))]) hx hv mb (.ol (r'.append ru)) (fun p hp => .inl (List.mem_singleton.mp hp)) nd1)
      · cases e4
    · cases e4
  · cases e
end
section
variable {X : Cx} {Z : Ent X.K} {a b c : Expr} {fa fb fc : FE} {pos : Pos}
theorem e_inZ (hu : X.A.units + 1 < cLine) (ha : PE X a (liftE Z fa)) (hb : PE X b (liftE Z fb)) (hm : behindInMarks .In b = false := by rfl) : PE X (.Compare a [.In] [b] pos) (liftE Z (binF inZ fa fb)) := e_cmp (((op_in_str.or (op_in_dict hu)).or op_non_in).or op_in_seq) p_inZ ha hb hm
theorem e_mulZ (ha : PE X a (liftE Z fa)) (hb : PE X b (liftE Z fb)) : PE X (.BinOp a .Mult b pos) (liftE Z (binF mulZ fa fb)) := e_bin (op_mul.or op_srep) p_mulZ ha hb
theorem s_ext (i : Nat) {x : Str} {px apos cpos : Pos} (hb : PE X b (liftE Z fb)) (hN : X.N[i]? = some x := by rfl) (hv : Vis X.env.scope x := by first | exact Or.inl rfl | exact Or.inr (Or.inl rfl) | exact Or.inr (Or.inr rfl)) (hd : (x == ("__debug__" : Str)) = false := by decide)
    (hcd : (x == ("__classdict__" : Str)) = false := by decide) (hbase : attributeBase (.Name x px) "extend" X.env (eval (.Name x px) X.env) = eval (.Name x px) X.env := by rfl)
    (hfew : ((backTo cpos (starEach [b] X.env)).all (fun x => !x.1) && (backToKw cpos (keywordEach [] X.env)).all (fun x => x.1.isSome) && decide ([b].length + ([] : List Keyword).length + (if ([] : List Keyword).isEmpty then 0 else 1) < 30)) = true := by rfl)
    (hline : (apos.endLine == cpos.line) = true := by rfl) (hs : starEach [b] X.env = (false, eval b X.env) :: starEach [] X.env := by rfl) (hpl : (backTo cpos (starEach [] X.env)).any (·.1) = false := by rfl) (hsw : swapsWith (.Call (.Attribute (.Name x px) "extend" apos) [b] [] cpos) none pos.line X.env = pure false := by rfl) :
    PS X (.Expr (.Call (.Attribute (.Name x px) "extend" apos) [b] [] cpos) pos) (liftS Z (extF i fb)) :=
  (ps_expr (pe_bm PySem.F.plainAttrs_list PySem.F.slot_list_extend PySem.F.type_list_extend mt_extend (pe_var (i := i) hN hv hd hcd) (pa_cons hb pa_nil hs) hbase hfew hline hs hpl) hsw).imp fun _ _ _ h => l_ext h
end
end DL

namespace DL
open PySem PySem.Spec PyProof.Rows L2
end DL

/-! a test leaves all slots as they are -/
namespace DL
open PySem PySem.Spec PyProof.Rows L2
variable {K : PySem.W.Frag}
section
variable {Z : Ent K} {H : Hp} {σ : L2.St} {Q : Bool → Hp → Prop}
@[simp] noncomputable def keepT (f : FT) : FT := fun δ => (f δ).bind fun p => some (p.1, δ)
end
section
variable {X : Cx} {Z : Ent X.K} {a : Expr} {ft : FT}
end
end DL

/-! a new list, so many times -/
namespace DL
open PySem PySem.Spec PyProof.Rows L2
variable {K : PySem.W.Frag}
noncomputable def repP (n : Nat) (k : Int) : Prop := -(2 ^ 63) ≤ k ∧ k < 2 ^ 63 ∧ n * k.toNat ≤ PySem.sizeLine
section
variable {Z : Ent K} {H : Hp} {σ : L2.St} {Q : VK}
open Classical in
noncomputable def repI (xs : List D) : D → Option SV
  | .int k => if repP xs.length k then some (.ol (List.replicate k.toNat xs).flatten) else none
  | _ => none
@[simp] theorem repI_int {xs : List D} {k : Int} (h : repP xs.length k) : repI xs (.int k) = some (.ol (List.replicate k.toNat xs).flatten) := by
  unfold repI; dsimp only; rw [if_pos h]
@[simp] noncomputable def repF (fa fb : FE) : FE := fun δ => (fa δ).bind fun p => (SV.ol? p.1).bind fun xs => (fb p.2).bind fun q => (rdv q.1 q.2).bind fun d => (repI xs d).bind fun sv => some (.tmp sv, q.2)
end
section
variable {X : Cx} {Z : Ent X.K} {a b : Expr} {fa fb : FE} {pos : Pos}
end
end DL

/-! a part of a tuple -/
namespace DL
open PySem PySem.Spec PyProof.Rows L2
variable {K : PySem.W.Frag}
section
variable {Z : Ent K}
@[simp] noncomputable def slT : D → Option Int → Option Int → Option SV
  | .tup xs, lo, hi => if ¬ (HT.sIx xs.length 0 lo = 0 ∧ HT.sIx xs.length xs.length hi = xs.length) then some (.fz (.tup (cutD xs lo hi))) else none
  | _, _, _ => none
end
section
variable {X : Cx} {Z : Ent X.K} {a : Expr} {fa : FE} {pos : Pos}
end
end DL

/-! EXPRESSIONS THAT MAY RAISE, and what passes it on -/
namespace DL
open PySem L2
variable {K : PySem.W.Frag}
inductive RX where
  | v (rv : RV) (δ : DSt) | x (e : Exn) (δ : DSt)
inductive RL (α : Type) where
  | v (xs : List α) (δ : DSt) | x (e : Exn) (δ : DSt)
noncomputable abbrev FX := DSt → Option RX
noncomputable abbrev FAX := DSt → Option (RL RV)
noncomputable abbrev FDX := DSt → Option (RL D)
noncomputable def XOk (Z : Ent K) (F : Hp) (σ : St) (e : Exn) (δ : DSt) : Prop := ∀ H' F' own' cls od, Same F F' → SR Z F' H' σ δ own' → ExcRep K F' e cls od → Z.x cls od σ H'
theorem XOk.mono {Z : Ent K} {F F' : Hp} {σ : St} {e : Exn} {δ : DSt} (s : Same F F') (h : XOk Z F σ e δ) : XOk Z F' σ e δ := fun H2 F2 own cls od a => h H2 F2 own cls od (s.trans a)
noncomputable def liftX (Z : Ent K) (f : FX) : TE := fun σ H Q => ∃ F δ own r, SR Z F H σ δ own ∧ f δ = some r ∧ match r with
  | .v rv δ' => ∀ v H' F' own', Same H H' → Same F F' → SR Z F' H' σ δ' own' → RVRep Z F' H' σ own' rv v → Q v H'
  | .x e δ' => XOk Z F σ e δ'
noncomputable def liftAX (Z : Ent K) (f : FAX) : TA := fun σ H Q => ∃ F δ own r, SR Z F H σ δ own ∧ f δ = some r ∧ match r with
  | .v rvs δ' => ∀ vs H' F' own', Same H H' → Same F F' → SR Z F' H' σ δ' own' → RVSs K F' σ rvs vs → Q vs H'
  | .x e δ' => XOk Z F σ e δ'
noncomputable def liftDX (Z : Ent K) (f : FDX) : TA := fun σ H Q => ∃ F δ own r, SR Z F H σ δ own ∧ f δ = some r ∧ match r with
  | .v ds δ' => ∀ vs H' F' own', Same H H' → Same F F' → SR Z F' H' σ δ' own' → Reps K F' ds vs → Q vs H'
  | .x e δ' => XOk Z F σ e δ'
@[simp] noncomputable def FX.val (f : FX) : FE := fun δ => match f δ with
  | some (.v rv δ') => some (rv, δ')
  | _ => none
section
variable {Z : Ent K} {H : Hp} {σ : St} {Q : VK} {E : Ends}
theorem lift_val {f : FX} (h : liftE Z f.val σ H Q) : liftX Z f σ H Q := by
  obtain ⟨F, δ, own, rv, δ', s, e, k⟩ := h
  unfold FX.val at e
  split at e
  · rename_i rv' δ2 hf
    cases e
    exact ⟨F, δ, own, _, s, hf, k⟩
  · cases e
theorem lift_exn {f : FX} {F : Hp} {δ δ' : DSt} {own : Nat → Nodes} {x : Exn} (s : SR Z F H σ δ own) (hf : f δ = some (.x x δ')) (k : XOk Z F σ x δ') : liftX Z f σ H Q := ⟨F, δ, own, _, s, hf, k⟩
@[simp] noncomputable def pureX (fe : FE) : FX := fun δ => (fe δ).bind fun p => some (.v p.1 p.2)
theorem l_pureX {fe : FE} (h : liftX Z (pureX fe) σ H Q) : liftE Z fe σ H Q := by
  obtain ⟨F, δ, own, r, s, e, k⟩ := h
  obtain ⟨⟨rv, δ'⟩, e1, e2⟩ := Option.bind_eq_some_iff.mp e
  cases e2
  exact ⟨F, δ, own, rv, δ', s, e1, k⟩
@[simp] noncomputable def argNilX : FAX := fun δ => some (.v [] δ)
@[simp] noncomputable def argConsX (fx : FX) (fa : FAX) : FAX := fun δ => (fx δ).bind fun
  | .v rv δ1 => (fa δ1).bind fun
    | .v rvs δ2 => some (.v (rv :: rvs) δ2)
    | .x e δ2 => some (.x e δ2)
  | .x e δ1 => some (.x e δ1)
theorem l_argNilX {R : List V → Hp → Prop} (h : liftAX Z argNilX σ H R) : tNil σ H R := by
  obtain ⟨F, δ, own, r, s, e, k⟩ := h
  cases e
  exact k [] H F own (Same.refl H) (Same.refl F) s .nil
theorem l_argConsX {fx : FX} {fa : FAX} {R : List V → Hp → Prop} (h : liftAX Z (argConsX fx fa) σ H R) : tCons (liftX Z fx) (liftAX Z fa) σ H R := by
  obtain ⟨F, δ, own, r, s, e, k⟩ := h
  obtain ⟨r1, e1, e2⟩ := Option.bind_eq_some_iff.mp e
  cases r1 with
  | x x1 δ1 => cases e2; exact ⟨F, δ, own, _, s, e1, k⟩
  | v rv δ1 =>
    obtain ⟨r2, e3, e4⟩ := Option.bind_eq_some_iff.mp e2
    refine ⟨F, δ, own, _, s, e1, fun v H1 F1 own1 sH sF s1 r1 => ?_⟩
    obtain ⟨F2, sF2, s2, rr⟩ := s1.settleR r1
    cases r2 with
    | x x2 δ2 => cases e4; exact ⟨F2, δ1, own1, _, s2, e3, XOk.mono (sF.trans sF2) k⟩
    | v rvs δ2 =>
      cases e4
      exact ⟨F2, δ1, own1, _, s2, e3, fun vs H3 F3 own3 sH3 sF3 s3 r3 => k _ H3 F3 own3 (sH.trans sH3) (sF.trans (sF2.trans sF3)) s3 (.cons (rr.mono sF3) r3)⟩
@[simp] noncomputable def dispNilX : FDX := fun δ => some (.v [] δ)
@[simp] noncomputable def dispConsX (fx : FX) (fd : FDX) : FDX := fun δ => (fx δ).bind fun
  | .v rv δ1 => (frz rv δ1).bind fun q => (fd q.2).bind fun
    | .v ds δ2 => some (.v (q.1 :: ds) δ2)
    | .x e δ2 => some (.x e δ2)
  | .x e δ1 => some (.x e δ1)
@[simp] noncomputable def tupX (fd : FDX) : FX := fun δ => (fd δ).bind fun
  | .v ds δ1 => if ds.length ≤ PySem.sizeLine then some (.v (.tmp (.fz (.tup ds))) δ1) else none
  | .x e δ1 => some (.x e δ1)
@[simp] noncomputable def primX (g : List D → Option SV) (fa : FAX) : FX := fun δ => (fa δ).bind fun
  | .v rvs δ1 => (readAll rvs δ1).bind fun ds => (g ds).bind fun sv => some (.v (.tmp sv) δ1)
  | .x e δ1 => some (.x e δ1)
@[simp] noncomputable def binX (g : D → D → Option SV) (fa fb : FX) : FX := fun δ => (fa δ).bind fun
  | .x e δ1 => some (.x e δ1)
  | .v r1 δ1 => (fb δ1).bind fun
    | .x e δ2 => some (.x e δ2)
    | .v r2 δ2 => (rdv r1 δ2).bind fun d1 => (rdv r2 δ2).bind fun d2 => (g d1 d2).bind fun sv => some (.v (.tmp sv) δ2)
end
/-! ### a def that may raise -/
inductive XO where
  | v (sv : SV) | x (e : Exn)
noncomputable def spX (K : PySem.W.Frag) (n : Nat) (g : List D → Option XO) : Sp := fun vs H Q E => ∃ F ds o, Same F H ∧ Reps K F ds vs ∧ ds.length = n ∧ g ds = some o ∧ match o with
  | .v sv => ∀ v H' F' ns, Same H H' → Same F F' → Same F' H' → (∀ (b : Addr) (o : HO), F' b = some o → F b = some o ∨ H b = none) → Shape K F' sv v ns → (adr ns).Nodup → (∀ p ∈ ns, F' p.1 = none ∧ H p.1 = none ∧ H' p.1 = some p.2) → Q v H'
  | .x e => ∀ cls od H' F', Same H H' → Same F F' → Same F' H' → (∀ (b : Addr) (o : HO), F' b = some o → F b = some o ∨ H b = none) → ExcRep K F' e cls od → E cls od H'
theorem spX_len {n : Nat} {g : List D → Option XO} {vs : List V} {H : Hp} {Q : VK} {E : XK} (h : spX K n g vs H Q E) : vs.length = n := by
  obtain ⟨F, ds, o, le, r, hn, e, k⟩ := h
  rw [← r.length]; exact hn
@[simp] noncomputable def outX (f : FS) (n : Nat) (ds : List D) : Option XO := match f (startD n ds) with
  | some (.rt sv) => some (.v sv)
  | some (.nx _) => some (.v (.fz .non))
  | some (.ex e _) => some (.x e)
  | _ => none
@[simp] noncomputable def valG (h : List D → Option XO) (ds : List D) : Option SV := match h ds with
  | some (.v sv) => some sv
  | _ => none
theorem spX_val {n : Nat} {g : List D → Option XO} {vs : List V} {H : Hp} {Q : VK} {E : XK} (h : spOf K n (valG g) vs H Q E) : spX K n g vs H Q E := by
  obtain ⟨F, ds, sv, le, r, hn, e, k⟩ := h
  unfold valG at e
  split at e
  · rename_i hg
    cases e
    exact ⟨F, ds, .v sv, le, r, hn, hg, k⟩
  · cases e
noncomputable abbrev entX (H F : Hp) (E : XK) : Ent K := ⟨H, F, fun cls od _ H' => E cls od H'⟩
theorem SR.ent {Z Y : Ent K} {F H : Hp} {σ : St} {δ : DSt} {own : Nat → Nodes} (s : SR Z F H σ δ own) (h1 : Z.h = Y.h := by rfl) (h2 : Z.f = Y.f := by rfl) : SR Y F H σ δ own :=
  ⟨s.le, h1 ▸ h2 ▸ s.fro, h1 ▸ s.old, s.len, s.at', s.nod, fun i p hp => h1 ▸ s.ok i p hp, s.sep⟩
theorem body_outX {N : List Str} {n : Nat} {f : FS} {vs : List V} {H : Hp} {Q : VK} {E : XK} (h : spX K n (outX f N.length) vs H Q E) : ∃ F, liftS (entX H F E : Ent K) f { nx := fun _ H' => Q .non H', rt := Q } (L2.start N vs) H := by
  obtain ⟨F, ds, o, le, r, hn, e, k⟩ := h
  have s0 : SR (entX H F E : Ent K) F H (L2.start N vs) (startD N.length ds) fun _ => [] := (sr_start (N := N) le r).ent
  unfold outX at e
  split at e
  · rename_i sw hf
    cases e
    exact ⟨F, F, _, _, .rt sw, s0, hf, fun v H' F' ns a b c d e' nd ok => k v H' F' ns d a b c e' nd ok⟩
  · rename_i δ hf
    cases e
    exact ⟨F, F, _, _, .nx δ, s0, hf, fun σ' H' F' own' a s' => k .non H' F' [] s'.old a s'.le s'.fro (.fz .non) List.nodup_nil fun _ h => (nomatch h)⟩
  · rename_i x δ hf
    cases e
    exact ⟨F, F, _, _, .ex x δ, s0, hf, fun σ' H' F' own' cls od a s' r' => k cls od H' F' s'.old a s'.le s'.fro r'⟩
  · cases e
section
variable {Z : Ent K} {H : Hp} {σ : St} {Q : VK} {E : Ends}
theorem SR.behind {F2 H1 F3 H3 : Hp} {δ2 : DSt} {own2 : Nat → Nodes} (s2 : SR Z F2 H1 σ δ2 own2) (sH3 : Same H1 H3) (sF3 : Same F2 F3) (le3 : Same F3 H3) (fro3 : ∀ (b : Addr) (o : HO), F3 b = some o → F2 b = some o ∨ H1 b = none) : SR Z F3 H3 σ δ2 own2 := by
  refine ⟨le3, fun b o e => ?_, s2.old.trans sH3, s2.len, fun i sw ei => ?_, s2.nod, fun i p hp => ?_, s2.sep⟩
  · rcases fro3 b o e with z | z
    · exact s2.fro b o z
    · exact .inr (s2.old.free z)
  · obtain ⟨w, h1, h2⟩ := s2.at' i sw ei
    exact ⟨w, h1, h2.mono sF3⟩
  · obtain ⟨a, b, c⟩ := s2.ok i p hp
    refine ⟨?_, b, sH3 _ _ c⟩
    cases z : F3 p.1 with
    | none => rfl
    | some u =>
      rcases fro3 _ u z with y | y
      · rw [a] at y; cases y
      · rw [c] at y; cases y
@[simp] noncomputable def callX (n : Nat) (g : List D → Option XO) (fa : FAX) : FX := fun δ => (fa δ).bind fun
  | .x e δ1 => some (.x e δ1)
  | .v rvs δ1 => (DL.frzAll rvs δ1).bind fun q => if q.1.length = n then (g q.1).bind (fun
    | .v sv => some (.v (.tmp sv) (if sv.scal then δ1 else q.2))
    | .x e => some (.x e q.2)) else none
theorem l_callX {n : Nat} {g : List D → Option XO} {fa : FAX} (h : liftX Z (callX n g fa) σ H Q) : tCallX (spX K n g) Z.x (liftAX Z fa) σ H Q := by
  obtain ⟨F, δ, own, rx, s, e, k⟩ := h
  obtain ⟨r1, e1, e2⟩ := Option.bind_eq_some_iff.mp e
  cases r1 with
  | x x1 δ1 => cases e2; exact ⟨F, δ, own, _, s, e1, k⟩
  | v rvs δ1 =>
    obtain ⟨⟨ds, δ2⟩, e3, e4⟩ := Option.bind_eq_some_iff.mp e2
    refine ⟨F, δ, own, _, s, e1, fun vs H1 F1 own1 sH sF s1 r1 => ?_⟩
    obtain ⟨F2, own2, sF2, s2, r2⟩ := s1.frzAll (own := own) (F := F) (δ := δ) r1 e3
    by_cases hn : ds.length = n
    · rw [if_pos hn] at e4
      obtain ⟨o, e5, e6⟩ := Option.bind_eq_some_iff.mp e4
      refine ⟨F2, ds, o, s2.le, r2, hn, e5, ?_⟩
      cases o with
      | x x2 =>
        cases e6
        exact fun cls od H3 F3 sH3 sF3 le3 fro3 rr => k H3 F3 own2 cls od (sF.trans (sF2.trans sF3)) (s2.behind sH3 sF3 le3 fro3) rr
      | v sv =>
        cases e6
        intro v H3 F3 ns sH3 sF3 le3 fro3 sh nd ok
        by_cases hs : sv.scal = true
        · rw [if_pos hs] at k
          obtain ⟨_, sh'⟩ := scal_rep (F' := F1) hs sh
          exact k v H3 F1 own1 (sH.trans sH3) sF (s1.grow sH3) ⟨[], sh', List.nodup_nil, fun _ h => (nomatch h), fun _ _ _ h => (nomatch h)⟩
        · rw [if_neg hs] at k
          exact k v H3 F3 own2 (sH.trans sH3) (sF.trans (sF2.trans sF3)) (s2.behind sH3 sF3 le3 fro3) ⟨ns, sh, nd, fun p hp => ⟨(ok p hp).1, (s2.old).free (ok p hp).2.1, (ok p hp).2.2⟩, fun i p q hp hq e => by
            have z := (s2.ok i q hq).2.2
            rw [← e, (ok p hp).2.1] at z; cases z⟩
    · rw [if_neg hn] at e4; cases e4
@[simp] noncomputable def liftG' (g : List D → Option SV) (ds : List D) : Option XO := (g ds).bind fun sv => some (.v sv)
/-! statements -/
@[simp] noncomputable def setX (i : Nat) (fx : FX) : FS := fun δ => (fx δ).bind fun
  | .v rv δ1 => (stow i rv δ1).bind fun δ' => some (.nx δ')
  | .x e δ1 => some (.ex e δ1)
theorem XOk.of {F : Hp} {x : Exn} {δ : DSt} (k : EndsOk Z F E (.ex x δ)) : XOk Z F σ x δ := fun H' F' own' cls od a b c => k σ H' F' own' cls od a b c
theorem l_setX {i : Nat} {fx : FX} (h : liftS Z (setX i fx) E σ H) : tAsg (liftX Z fx) (gName i) E σ H := by
  obtain ⟨F, δ, own, fl, s, e, k⟩ := h
  obtain ⟨r, e1, e2⟩ := Option.bind_eq_some_iff.mp e
  cases r with
  | x x1 δ1 => cases e2; exact lift_exn s e1 (.of k)
  | v rv δ1 => exact lift_val (l_set (Z := Z) (E := E) (i := i) (fe := fx.val) ⟨F, δ, own, fl, s, by unfold setF FX.val; rw [e1]; exact e2, k⟩)
@[simp] noncomputable def retX (fx : FX) : FS := fun δ => (fx δ).bind fun
  | .v rv δ1 => (outF rv δ1).bind fun sv => some (.rt sv)
  | .x e δ1 => some (.ex e δ1)
@[simp] noncomputable def dropX (fx : FX) : FS := fun δ => (fx δ).bind fun
  | .v _ δ1 => some (.nx δ1)
  | .x e δ1 => some (.ex e δ1)
theorem l_dropX {fx : FX} (h : liftS Z (dropX fx) E σ H) : tDrop (liftX Z fx) E σ H := by
  obtain ⟨F, δ, own, fl, s, e, k⟩ := h
  obtain ⟨r, e1, e2⟩ := Option.bind_eq_some_iff.mp e
  cases r with
  | x x1 δ1 => cases e2; exact lift_exn s e1 (.of k)
  | v rv δ1 => exact lift_val (l_drop (Z := Z) (E := E) (fe := fx.val) ⟨F, δ, own, fl, s, by unfold dropF FX.val; rw [e1]; exact e2, k⟩)
@[simp] noncomputable def appX (i : Nat) (fx : FX) : FS := fun δ => match fx δ with
  | some (.x e δ1) => (match δ[i]? with
    | some (some (.ol _)) => some (.ex e δ1)
    | _ => none)
  | _ => appF i fx.val δ
@[simp] noncomputable def extX (i : Nat) (fx : FX) : FS := fun δ => match fx δ with
  | some (.x e δ1) => (match δ[i]? with
    | some (some (.ol _)) => some (.ex e δ1)
    | _ => none)
  | _ => extF i fx.val δ
theorem ol_at {F : Hp} {δ : DSt} {own : Nat → Nodes} {i : Nat} {xs : List D} (s : SR Z F H σ δ own) (h : δ[i]? = some (some (.ol xs))) : ∃ v, σ[i]? = some (some v) ∧ tyV K "list" v H := by
  obtain ⟨v, hv, sh⟩ := s.at' i _ h
  obtain ⟨a, vs0, ev, en, r0⟩ := shape_ol sh
  subst ev
  exact ⟨_, hv, .inl ⟨rfl, vs0, .inl (.inl (s.ok i (a, .lst vs0) (by rw [en]; exact List.mem_cons_self)).2.2)⟩⟩
theorem l_appX {i : Nat} {fx : FX} (h : liftS Z (appX i fx) E σ H) : tDrop (tBM K "list" rAppend (tVar i) (tCons (liftX Z fx) tNil)) E σ H := by
  obtain ⟨F, δ, own, fl, s, e, k⟩ := h
  unfold appX at e
  split at e
  · rename_i x δ1 hx
    split at e
    · rename_i xs hi
      cases e
      obtain ⟨v, hv, ty⟩ := ol_at s hi
      exact ⟨v, hv, ty, lift_exn s hx (.of k)⟩
    · cases e
  · obtain ⟨v, hv, ty, q⟩ := l_app (Z := Z) (E := E) (i := i) (fe := fx.val) ⟨F, δ, own, fl, s, e, k⟩
    exact ⟨v, hv, ty, lift_val q⟩
/-! raise, try -/
@[simp] noncomputable def raiseF (c : Str) : FS := fun δ => some (.ex ⟨c, [], []⟩ δ)
theorem l_raise {c : Str} {C : Addr} {x : Str} (cl : ClsIs K c C) (hx : ∀ cls od σ H', Z.x cls od σ H' → Z.x cls od [] H') (h : liftS Z (raiseF c) E σ H) : tRaise (fun cls od H' => Z.x cls od [] H') C (tCons (tC (.str x)) tNil) E σ H := by
  obtain ⟨F, δ, own, fl, s, e, k⟩ := h
  cases e
  exact ⟨by show 1 ≤ PySem.sizeLine; decide, hx _ _ _ _ (k σ H F own (.ref C) none (Same.refl F) s ⟨C, cl, rfl, rfl, rfl⟩)⟩
structure HX where
  x : Str
  np : Pos
  nm : Option (Str × Nat)
  b0 : Stmt
  suite : List Stmt
  pos : Pos
  B : Addr
  yes : List Str
  no : List Str
  f : FS
structure HX.Sub (K : PySem.W.Frag) (h : HX) : Prop where
  yes : ∀ c ∈ h.yes, ∀ C, ClsIs K c C → PySem.W.mroIn K C (.ref h.B) = some true
  no : ∀ c ∈ h.no, ∀ C, ClsIs K c C → PySem.W.mroIn K C (.ref h.B) = some false
noncomputable def HX.hd (Z : Ent K) (h : HX) : Hd := ⟨h.x, h.np, h.nm, h.b0, h.suite, h.pos, h.B, liftS Z h.f⟩
structure HF where
  i : Option Nat
  yes : List Str
  no : List Str
  f : FS
@[simp] noncomputable def HX.hf (h : HX) : HF := ⟨h.nm.map (·.2), h.yes, h.no, h.f⟩
@[simp] noncomputable def pickF (c : Str) : List HF → Option HF
  | [] => none
  | h :: r => if c ∈ h.yes then some h else if c ∈ h.no then pickF c r else none
theorem pick_same (Z : Ent K) {c : Str} {C : Addr} (cl : ClsIs K c C) : ∀ (hs : List HX) {f : HF}, (∀ h ∈ hs, h.Sub K) → pickF c (hs.map HX.hf) = some f → ∃ h : HX, h.hf = f ∧ pickH K C (hs.map (HX.hd Z)) = some (h.hd Z)
  | [], f, _, e => nomatch e
  | h :: r, f, ok, e => by
    have e : (if c ∈ h.yes then some h.hf else if c ∈ h.no then pickF c (r.map HX.hf) else none) = some f := e
    show ∃ g : HX, g.hf = f ∧ (match PySem.W.mroIn K C (.ref h.B) with | some true => some (h.hd Z) | some false => pickH K C (r.map (HX.hd Z)) | none => none) = some (g.hd Z)
    have kh := ok h List.mem_cons_self
    by_cases q : c ∈ h.yes
    · rw [if_pos q] at e; cases e; exact ⟨h, rfl, by rw [kh.yes c q C cl]⟩
    · rw [if_neg q] at e
      by_cases q2 : c ∈ h.no
      · rw [if_pos q2] at e
        obtain ⟨g, g1, g2⟩ := pick_same Z cl r (fun g hg => ok g (List.mem_cons_of_mem _ hg)) e
        exact ⟨g, g1, by rw [kh.no c q2 C cl]; exact g2⟩
      · rw [if_neg q2] at e; cases e
@[simp] noncomputable def Fl.but (i : Nat) : Fl → Fl
  | .nx δ => .nx (δ.set i none)
  | .bk δ => .bk (δ.set i none)
  | .ct δ => .ct (δ.set i none)
  | .ex e δ => .ex e (δ.set i none)
  | .rt sv => .rt sv
@[simp] noncomputable def Fl.isEx : Fl → Bool
  | .ex _ _ => true
  | _ => false
@[simp] noncomputable def HF.run (h : HF) (x : Exn) (δ : DSt) : Option Fl := match h.i with
  | none => h.f δ
  | some i => if i < δ.length then (h.f (δ.set i (some (.fz (.exc x.c x.ks x.vs))))).bind fun fl => if fl.isEx = true then none else some (fl.but i) else none
@[simp] noncomputable def tryF (fb : FS) (hs : List HF) : FS := fun δ => (fb δ).bind fun
  | .ex x δ1 => (pickF x.c hs).bind fun h => h.run x δ1
  | fl => some fl
noncomputable abbrev Ent.wish (Z : Ent K) (EX : EXT) : Ent K := ⟨Z.h, Z.f, EX⟩
theorem SR.unset {F : Hp} {δ : DSt} {own : Nat → Nodes} (s : SR Z F H σ δ own) (i : Nat) : SR Z F H (σ.set i none) (δ.set i none) (put own i []) := by
  refine ⟨s.le, s.fro, s.old, by rw [List.length_set, List.length_set]; exact s.len, fun j sw ej => ?_, fun j => ?_, fun j p hp => ?_, fun j k p q hjk hp hq => ?_⟩
  · by_cases hj : j = i
    · subst hj
      have hd : j < δ.length := by
        have := (List.getElem?_eq_some_iff.mp ej).1
        simpa using this
      rw [List.getElem?_set_self hd] at ej
      cases ej
    · rw [List.getElem?_set_ne (Ne.symm hj)] at ej
      rw [put_ne hj, List.getElem?_set_ne (Ne.symm hj)]
      exact s.at' j sw ej
  · by_cases hj : j = i
    · subst hj; rw [put_same]; exact List.nodup_nil
    · rw [put_ne hj]; exact s.nod j
  · by_cases hj : j = i
    · subst hj; rw [put_same] at hp; exact nomatch hp
    · rw [put_ne hj] at hp; exact s.ok j p hp
  · by_cases hj : j = i
    · subst hj; rw [put_same] at hp; exact nomatch hp
    · by_cases hk : k = i
      · subst hk; rw [put_same] at hq; exact nomatch hq
      · rw [put_ne hj] at hp
        rw [put_ne hk] at hq
        exact s.sep j k p q hjk hp hq
theorem ends_but {F : Hp} {i : Nat} {fl : Fl} (hx : fl.isEx = false) (k : EndsOk Z F E (fl.but i)) : EndsOk Z F (E.but i) fl := by
  cases fl with
  | nx δ => exact fun σ' H' F' own' a b => k (σ'.set i none) H' F' _ a (b.unset i)
  | bk δ => exact fun σ' H' F' own' a b => k (σ'.set i none) H' F' _ a (b.unset i)
  | ct δ => exact fun σ' H' F' own' a b => k (σ'.set i none) H' F' _ a (b.unset i)
  | rt sv => exact k
  | ex x δ => cases hx
theorem l_try {fb : FS} {hs : List HX} (hsub : ∀ h ∈ hs, h.Sub K) (h : liftS Z (tryF fb (hs.map HX.hf)) E σ H) : tTry K (fun EX => liftS (Z.wish EX) fb) (hs.map (HX.hd Z)) E σ H := by
  obtain ⟨F, δ, own, fl, s, e, k⟩ := h
  obtain ⟨f1, e1, e2⟩ := Option.bind_eq_some_iff.mp e
  refine ⟨F, δ, own, f1, s.ent, e1, ?_⟩
  cases f1 with
  | nx δ1 => cases e2; exact fun σ' H' F' own' a b => k σ' H' F' own' a b.ent
  | bk δ1 => cases e2; exact fun σ' H' F' own' a b => k σ' H' F' own' a b.ent
  | ct δ1 => cases e2; exact fun σ' H' F' own' a b => k σ' H' F' own' a b.ent
  | rt sv => cases e2; exact k
  | ex x δ1 =>
    obtain ⟨hf, e3, e4⟩ := Option.bind_eq_some_iff.mp e2
    intro σ' H' F' own' cls od sF s' r
    obtain ⟨C, cl, rc, r2⟩ := r
    obtain ⟨g, g1, g2⟩ := pick_same Z cl hs hsub e3
    subst g1
    refine ⟨C, g.hd Z, rc, g2, ?_⟩
    have s2 : SR Z F' H' σ' δ1 own' := s'.ent
    obtain ⟨gx, gnp, gnm, gb0, gsu, gpos, gB, gy, gn, gf⟩ := g
    cases gnm with
    | none => exact ⟨F', δ1, own', fl, s2, e4, k.mono sF⟩
    | some ni =>
      obtain ⟨n, i⟩ := ni
      have e4 : (if i < δ1.length then (gf (δ1.set i (some (.fz (.exc x.c x.ks x.vs))))).bind fun fl => if fl.isEx = true then none else some (fl.but i) else none) = some fl := e4
      by_cases hc : i < δ1.length
      · rw [if_pos hc] at e4
        obtain ⟨fl0, e5, e6⟩ := Option.bind_eq_some_iff.mp e4
        have hx0 : fl0.isEx = false := by
          cases z : fl0.isEx with
          | true => rw [if_pos z] at e6; cases e6
          | false => rfl
        rw [if_neg (by rw [hx0]; exact Bool.false_ne_true)] at e6
        cases e6
        intro a ha
        have ha' : H' a = none := ha
        have sm := same_new (o := .ext (excAt a C od)) ha'
        have sF2 : Same F' (addL F' [(a, .ext (excAt a C od))]) := addL_same fun q hq => by obtain rfl := List.mem_singleton.mp hq; exact s2.le.free ha'
        have s3 : SR Z (addL F' [(a, .ext (excAt a C od))]) (upd H' a (.ext (excAt a C od))) σ' δ1 own' := by
          refine (s2.grow sm).addF nd1 (fun q hq => ?_) (fun q hq => ?_) (fun q hq => ?_) fun i q u hq hu => ?_
          · obtain rfl := List.mem_singleton.mp hq; exact s2.le.free ha'
          · obtain rfl := List.mem_singleton.mp hq; exact upd_same
          · obtain rfl := List.mem_singleton.mp hq; exact s2.old.free ha'
          · obtain rfl := List.mem_singleton.mp hq
            intro e
            have e' : a = u.1 := e
            have z := (s2.ok i u hu).2.2
            rw [← e', ha'] at z; cases z
        have rp : Rep K (addL F' [(a, .ext (excAt a C od))]) (.exc x.c x.ks x.vs) (.ref a) := by
          cases od with
          | none => obtain ⟨r3, r4⟩ := r2; rw [r3, r4]; exact .exc cl upd_same
          | some dx => obtain ⟨fs, r3, r4, r5⟩ := r2; exact .exd cl upd_same (sF2 _ _ r3) r4 (r5.mono sF2)
        have s4 := s3.store (i := i) (sv := .fz (.exc x.c x.ks x.vs)) (v := .ref a) (ns := []) (.fz rp) (by rw [s3.len]; exact hc)
        exact ⟨_, _, _, fl0, s4, e5, ends_but hx0 (k.mono (sF.trans sF2))⟩
      · rw [if_neg hc] at e4; cases e4
end
end DL

/-! THE RULES for what may raise -/
namespace DL
open PySem PySem.Spec PyProof.Rows L2
section
variable {X : Cx} {Z : Ent X.K} {a b c : Expr} {fa fb : FE} {fx fy : FX} {pos : Pos}
theorem x_pure (h : PE X a (liftE Z fa)) : PE X a (liftX Z (pureX fa)) := h.imp fun _ _ _ q => l_pureX q
theorem ax_nil : PA X [] (liftAX Z argNilX) := pa_nil.imp fun _ _ _ h => l_argNilX h
theorem ax_cons {es : List Expr} {fr : FAX} (ha : PE X a (liftX Z fx)) (hr : PA X es (liftAX Z fr)) (hs : starEach (a :: es) X.env = (false, eval a X.env) :: starEach es X.env := by rfl) : PA X (a :: es) (liftAX Z (argConsX fx fr)) := (pa_cons ha hr hs).imp fun _ _ _ h => l_argConsX h
theorem x_call {k n : Nat} {f : Addr} {fd : FuncData} {ps : List Str} {g : List D → Option XO} {x : Str} {p : Pos} {es : List Expr} {fr : FAX} (F : FnOk X.prog X.w X.K X.mg X.base (CX1 X.prog X.w) k f fd ps (spX X.K n g)) (hr : Room k X.A) (hm : X.mg x = some (.ref f)) (hk : PySem.W.keepIn X.K (.ref f) = true) (hb : Binds X.K fd ps [])
    (th : PassX X Z.x) (ha : PA X (a :: es) (liftAX Z fr)) (hg : Gl X x := by rfl) (hdb : (x == ("__debug__" : Str)) = false := by decide) (he : starEach (a :: es) X.env = (false, eval a X.env) :: starEach es X.env := by rfl) (hpl : (backTo pos (starEach es X.env)).any (·.1) = false := by rfl) :
    PE X (.Call (.Name x p) (a :: es) [] pos) (liftX Z (callX n g fr)) := (pe_callX F hr hg hm hk hb th ha hdb he hpl).imp fun _ _ _ h => l_callX h
theorem pass1 {X : Cx} : Passes (CX1 X.prog X.w) X fun _ _ _ => False := fun _ _ _ _ _ _ _ h => by
  obtain ⟨_, _, _, _, _, _, _, _, _, _, _, _, _, _, _, q⟩ := h
  exact q.elim
theorem e_callV {k n : Nat} {f : Addr} {fd : FuncData} {ps : List Str} {g : List D → Option XO} {x : Str} {p : Pos} {es : List Expr} {fr : FA} (F : FnOk X.prog X.w X.K X.mg X.base (CX1 X.prog X.w) k f fd ps (spX X.K n g)) (hr : Room k X.A) (hm : X.mg x = some (.ref f)) (hk : PySem.W.keepIn X.K (.ref f) = true) (hb : Binds X.K fd ps [])
    (ha : PA X (a :: es) (liftA Z fr)) (hg : Gl X x := by rfl) (hdb : (x == ("__debug__" : Str)) = false := by decide) (he : starEach (a :: es) X.env = (false, eval a X.env) :: starEach es X.env := by rfl) (hpl : (backTo pos (starEach es X.env)).any (·.1) = false := by rfl) :
    PE X (.Call (.Name x p) (a :: es) [] pos) (liftE Z (callF n (valG g) fr)) :=
  (pe_call (sp := spOf X.K n (valG g)) (CX := CX1 X.prog X.w) (F.imp fun _ _ _ _ h => spX_val h) hr hg hm hk hb .nil pass1 ha hdb he hpl).imp fun _ _ _ h => l_call h
theorem passX_fn {P : Program} {w : World} {K : PySem.W.Frag} {mg : Str → Option Value} {base : Heap} {N : List Str} {qual : Str} {scope : Scope} {f : Addr} {cd : Value} {A : Around} {outer : List Env} {s : Shared} {H : Hp} {E : XK} :
    PassX (cxOf (CX1 P w) P w K mg base N qual scope f cd A outer s H E) fun cls od _ H' => E cls od H' := by
  have th := (throws_fn (P := P) (w := w) (K := K) (mg := mg) (base := base) (N := N) (qual := qual) (scope := scope) (f := f) (cd := cd) (A := A) (outer := outer) (s := s) (H := H) (E := E)).t.pass rfl
  intro pins σ H1 s1 e s2 I h
  exact th pins σ H1 s1 e s2 I h
theorem Fun.okX {P : Program} {w : World} {K : PySem.W.Frag} {mg : Str → Option Value} {base : Heap} {x qual : Str} {st : Stmt} {f : Addr} {fd : FuncData} {N ps : List Str} {k : Nat} {sp : Sp} (F : Fun K x qual st f fd) (S : FnScope N ps (defScope st)) (len : ∀ vs H Q E, sp vs H Q E → vs.length = ps.length)
    (hbody : ∀ (cdv : Value) (A : Around) (outer : List Env) (s : Shared) (H : Hp) (vs : List V) (Q : VK) (E : XK), Room k (A.deeper (envOfC qual (defScope st) s.heap.objs.size f cdv)) → sp vs H Q E →
      ∃ t, PSs (cxOf (CX1 P w) P w K mg base N qual (defScope st) f cdv A outer s H E) (defBody st) t ∧ t { nx := fun _ H' => Q .non H', rt := Q } (L2.start N vs) H) : FnOk P w K mg base (CX1 P w) (k + 1) f fd ps sp := by
  obtain ⟨oc, od, kV, doc, pm, an, cdv, ct, osl, rfl, lk, hcd⟩ := F.ex
  exact fn_of lk hcd S len fun A outer s H vs Q E hr hsp => hbody cdv A outer s H vs Q E hr hsp
/-! statements -/
theorem s_exprX (h : PE X a (liftX Z fx)) (hs : swapsWith a none pos.line X.env = pure false := by rfl) : PS X (.Expr a pos) (liftS Z (dropX fx)) := (ps_expr h hs).imp fun _ _ _ h => l_dropX h
theorem s_setX (i : Nat) {x : Str} {pos' : Pos} (hN : X.N.Nodup) (he : PE X a (liftX Z fx)) (hi : X.N[i]? = some x := by rfl) (hx : Loc X.env.scope x := by first | exact Or.inl rfl | exact Or.inr rfl) (hs : swapsWith a (some (.Name x pos')) pos.line X.env = pure false := by rfl) (hf : X.fn x = true ∨ X.env.scope.names.lookup x = some .local := by first | exact .inl rfl | exact .inr rfl) :
    PS X (.Assign [.Name x pos'] a pos) (liftS Z (setX i fx)) := (ps_set hN hi hx he hs hf).imp fun _ _ _ h => l_setX h
theorem s_appX (i : Nat) {x : Str} {px apos cpos : Pos} (hb : PE X b (liftX Z fx)) (hN : X.N[i]? = some x := by rfl) (hv : Vis X.env.scope x := by first | exact Or.inl rfl | exact Or.inr (Or.inl rfl) | exact Or.inr (Or.inr rfl)) (hd : (x == ("__debug__" : Str)) = false := by decide)
    (hcd : (x == ("__classdict__" : Str)) = false := by decide) (hbase : attributeBase (.Name x px) "append" X.env (eval (.Name x px) X.env) = eval (.Name x px) X.env := by rfl)
    (hfew : ((backTo cpos (starEach [b] X.env)).all (fun x => !x.1) && (backToKw cpos (keywordEach [] X.env)).all (fun x => x.1.isSome) && decide ([b].length + ([] : List Keyword).length + (if ([] : List Keyword).isEmpty then 0 else 1) < 30)) = true := by rfl)
    (hline : (apos.endLine == cpos.line) = true := by rfl) (hs : starEach [b] X.env = (false, eval b X.env) :: starEach [] X.env := by rfl) (hpl : (backTo cpos (starEach [] X.env)).any (·.1) = false := by rfl) (hsw : swapsWith (.Call (.Attribute (.Name x px) "append" apos) [b] [] cpos) none pos.line X.env = pure false := by rfl) :
    PS X (.Expr (.Call (.Attribute (.Name x px) "append" apos) [b] [] cpos) pos) (liftS Z (appX i fx)) :=
  (ps_expr (pe_bm PySem.F.plainAttrs_list PySem.F.slot_list_append PySem.F.type_list_append mt_append (pe_var (i := i) hN hv hd hcd) (pa_cons hb pa_nil hs) hbase hfew hline hs hpl) hsw).imp fun _ _ _ h => l_appX h
theorem own2_of_in {K : PySem.W.Frag} {h : Heap} {mg : Str → Option Value} {x : Str} {C : Addr} {bmB : List Value} {newId : String} (X : K.In h) (hb : mg x = some (.ref C)) (q : PySem.W.excIn K C bmB newId = true) : OwnCls x C bmB newId mg h := by
  refine ⟨hb, ?_⟩
  unfold PySem.W.excIn at q
  split at q
  · rename_i dd cd sl ho
    split at q
    · rename_i C2 bm s0 s1 s2 s3 id s5 hm hs
      simp only [Bool.and_eq_true, beq_iff_eq, Bool.not_eq_true'] at q
      obtain ⟨⟨⟨⟨⟨rfl, rfl⟩, hdl⟩, ht⟩, hok⟩, hin⟩ := q
      obtain ⟨nm, bs, mro, ns, qn, hd, sn, sub, ab, col, del⟩ := cd
      dsimp only at hm hdl hok hin
      subst hm hdl
      obtain ⟨l⟩ := sl
      simp only at hs
      subst hs
      exact ⟨bm, ns, nm, qn, bs, hd, sn, sub, ab, col, dd, s0, s1, s2, s3, s5, _, X _ _ ho,
        .of_isNs (PySem.W.isNs_of_in X hok), PySem.W.nsMap_none_of_in X hok hin, PySem.W.tail_of_in X ht⟩
    · cases q
  · cases q
theorem veb_base : ∀ h bm, OwnTail h VEB bm → bm.contains (.type "BaseException") = true := fun h bm t => t.hasType (by decide)
theorem s_raise {x : Str} {C : Addr} {np cpos cp : Pos} {y : Str} {j : Nat} (th : Throws X fun cls od H' => Z.x cls od [] H') (hc : X.calm = true) (oc : OwnCls x C VEB "ValueError.__new__" X.mg X.base) (cl : ClsIs X.K x C) (hx : ∀ cls od σ H', Z.x cls od σ H' → Z.x cls od [] H' := by exact fun _ _ _ _ h => h) (hex : X.ex = [] := by rfl) (hg : Gl X x := by rfl)
    (he : starEach [.Constant (.str y) j cp] X.env = (false, eval (.Constant (.str y) j cp) X.env) :: starEach [] X.env := by rfl) (hpl : ((backTo cpos (starEach [.Constant (.str y) j cp] X.env)).any fun x => x.1) = false := by rfl)
    (hbk : ∃ z rest, backTo cpos (starEach [.Constant (.str y) j cp] X.env) = (false, z) :: rest := by exact ⟨_, _, rfl⟩) (hd : (x == ("__debug__" : Str)) = false := by decide) :
    PS X (.Raise (some (.Call (.Name x np) [.Constant (.str y) j cp] [] cpos)) none pos) (liftS Z (raiseF x)) :=
  (ps_raise th hc hex oc hg (pa_cons pe_str pa_nil he) he hpl hbk veb_base hd).imp fun _ _ _ h => l_raise cl hx h
theorem s_try {body : List Stmt} {fb : FS} {h0 : HX} {hs : List HX} (hb : ∀ pn xe EX, ThrowsT (X.inTry pn xe) EX → PSs (X.inTry pn xe) body (liftS (Z.wish EX) fb)) (ok : ∀ h ∈ h0 :: hs, (h.hd Z).Ok X) (hsub : ∀ h ∈ h0 :: hs, h.Sub X.K) (hex : X.ex = [] := by rfl) (hst : X.stack = X.env :: X.outer := by rfl) (hfr : X.env.frame = some X.env.locals := by rfl) :
    PS X (.Try body (((h0 :: hs).map (HX.hd Z)).map Hd.ast) [] [] pos) (liftS Z (tryF fb ((h0 :: hs).map HX.hf))) :=
 
  (ps_try (tb := fun EX => liftS (Z.wish EX) fb) (h0 := h0.hd Z) (hs := hs.map (HX.hd Z)) hb (fun h hh => by
    have hh' : h ∈ (h0 :: hs).map (HX.hd Z) := hh
    obtain ⟨g, hg, rfl⟩ := List.mem_map.mp hh'
    exact ok g hg) hex hst hfr).imp fun _ _ _ h => l_try (hs := h0 :: hs) hsub h
theorem all_one {α : Type} {P : α → Prop} {a : α} (h : P a) : ∀ x ∈ [a], P x := fun x hx => by rw [List.mem_singleton.mp hx]; exact h
theorem sub_nil {P : Addr → Prop} {K : PySem.W.Frag} : ∀ c ∈ ([] : List Str), ∀ C, ClsIs K c C → P C := fun _ h => nomatch h
theorem sub_cons {P : Addr → Prop} {K : PySem.W.Frag} {c : Str} {a : Addr} {r : List Str} (x : ClsIs K c a) (m : P a) (t : ∀ c ∈ r, ∀ C, ClsIs K c C → P C) : ∀ d ∈ c :: r, ∀ C, ClsIs K d C → P C := fun d hd C cl => by
  rcases List.mem_cons.mp hd with e | e
  · subst e
    have z := x.symm.trans cl
    cases z
    exact m
  · exact t d e C cl
theorem nm_none {P : Str → Nat → Prop} : ∀ n i, (none : Option (Str × Nat)) = some (n, i) → P n i := fun _ _ h => nomatch h
theorem nm_some {P : Str → Nat → Prop} {m : Str} {j : Nat} (h : P m j) : ∀ n i, some (m, j) = some (n, i) → P n i := fun _ _ e => by cases e; exact h
/-! isinstance(e, ..), e an exception -/
@[simp] noncomputable def isxD (yes no : List Str) : D → Option SV
  | .exc c _ _ => if c ∈ yes then some (.fz (.bl true)) else if c ∈ no then some (.fz (.bl false)) else none
  | _ => none
theorem RepN.exc {K : PySem.W.Frag} {F H : Hp} {c : Str} {ks : List Str} {vs : List D} {v : V} (le : Same F H) (h : RepN K F H (.exc c ks vs) v) : ∃ a C dx, v = .ref a ∧ H a = some (.ext (excAt a C dx)) ∧ ClsIs K c C := by
  obtain ⟨sv, ns, e, n, sh, hp⟩ := h
  cases sh with
  | fz r => cases e; cases r with | exc cl h => exact ⟨_, _, _, rfl, le _ _ h, cl⟩ | exd cl h _ _ _ => exact ⟨_, _, _, rfl, le _ _ h, cl⟩
  | ol r => cases e
  | oK e' r => cases e
  | oT e' r => cases e
  | oN e' r => cases n
theorem isx_cases {yes no : List Str} {d : D} {sv : SV} (e : isxD yes no d = some sv) : ∃ c ks vs b, d = .exc c ks vs ∧ sv = .fz (.bl b) ∧ (b = true → c ∈ yes) ∧ (b = false → c ∈ no) := by
  unfold isxD at e
  split at e
  · rename_i c ks vs
    by_cases h1 : c ∈ yes
    · rw [if_pos h1] at e; cases e; exact ⟨c, ks, vs, true, rfl, rfl, fun _ => h1, fun z => nomatch z⟩
    · rw [if_neg h1] at e
      by_cases h2 : c ∈ no
      · rw [if_pos h2] at e; cases e; exact ⟨c, ks, vs, false, rfl, rfl, (fun z => nomatch z), fun _ => h2⟩
      · rw [if_neg h2] at e; cases e
  · cases e
noncomputable def Kn (K : PySem.W.Frag) (r : Addr → Bool → Prop) (yes no : List Str) : Prop := (∀ c ∈ yes, ∀ C, ClsIs K c C → ExcKit K C ∧ r C true) ∧ ∀ c ∈ no, ∀ C, ClsIs K c C → ExcKit K C ∧ r C false
theorem Kn.at' {K : PySem.W.Frag} {r : Addr → Bool → Prop} {yes no : List Str} (k : Kn K r yes no) {c : Str} {C : Addr} {b : Bool} (h1 : b = true → c ∈ yes) (h2 : b = false → c ∈ no) (cl : ClsIs K c C) : ExcKit K C ∧ r C b := by
  cases b with
  | true => exact k.1 c (h1 rfl) C cl
  | false => exact k.2 c (h2 rfl) C cl
theorem p_isX {c : V} {cv : Value} {yes no : List Str} (kn : Kn X.K (fun C b => PySem.W.kitOne X.K (.ref C) cv = some b) yes no) : Prim1 Z (fun x H Q => rIsX X.K c cv [x, c] H Q) (isxD yes no) := by
  intro F H σ δ own x d sv Q s r e k
  obtain ⟨c', ks, vs, b, rfl, rfl, h1, h2⟩ := isx_cases e
  obtain ⟨a, C, dx, rfl, ha, cl⟩ := r.exc s.le
  obtain ⟨q1, q2⟩ := kn.at' h1 h2 cl
  exact ⟨a, C, dx, b, rfl, ha, q1, q2, k.fz s (.bl b)⟩
theorem e_isX {x : Str} {B : Addr} {p p2 : Pos} {yes no : List Str} (hm : X.mg "isinstance" = none) (hmc : X.mg x = some (.ref B)) (kn : Kn X.K (fun C b => PySem.W.kitOne X.K (.ref C) (.ref B) = some b) yes no) (ha : PE X a (liftE Z fa))
    (hg : Gl X "isinstance" := by rfl) (hgc : Gl X x := by rfl) (hdb : (x == ("__debug__" : Str)) = false := by decide) (he : starEach [a, .Name x p2] X.env = (false, eval a X.env) :: starEach [.Name x p2] X.env := by rfl) (he2 : starEach [.Name x p2] X.env = (false, eval (.Name x p2) X.env) :: starEach [] X.env := by rfl) (hpl : (backTo pos (starEach [.Name x p2] X.env)).any (·.1) = false := by rfl) :
    PE X (.Call (.Name "isinstance" p) [a, .Name x p2] [] pos) (liftE Z (unF (isxD yes no) fa)) :=
  (pe_callB (call_isX (c := .ref B) (cv := .ref B) fun u h => h) hg hm boot_isinstance (pa_cons ha (pa_cons (pe_glob (v := .ref B) hgc hmc rfl hdb) pa_nil he2) he) (by decide) (by decide) he hpl).imp fun σ H Q h => l_un (p_isX (c := .ref B) kn) h
theorem boot_VE : bootBuiltins "ValueError" = some (.type "ValueError") := by decide +kernel
theorem e_isXB {x : Str} {t : String} {p p2 : Pos} {yes no : List Str} (hm : X.mg "isinstance" = none) (hmc : X.mg x = none) (hv : bootBuiltins x = some (.type t)) (kn : Kn X.K (fun C b => PySem.W.kitOne X.K (.ref C) (.type t) = some b) yes no) (ha : PE X a (liftE Z fa))
    (hg : Gl X "isinstance" := by rfl) (hgc : Gl X x := by rfl) (hn : x ≠ "__name__" := by decide) (hdb : (x == ("__debug__" : Str)) = false := by decide) (he : starEach [a, .Name x p2] X.env = (false, eval a X.env) :: starEach [.Name x p2] X.env := by rfl) (he2 : starEach [.Name x p2] X.env = (false, eval (.Name x p2) X.env) :: starEach [] X.env := by rfl) (hpl : (backTo pos (starEach [.Name x p2] X.env)).any (·.1) = false := by rfl) :
    PE X (.Call (.Name "isinstance" p) [a, .Name x p2] [] pos) (liftE Z (unF (isxD yes no) fa)) :=
  (pe_callB (call_isX (c := .ty t) (cv := .type t) fun u h => h) hg hm boot_isinstance (pa_cons ha (pa_cons (pe_bltn (v := .ty t) hgc hmc hv rfl hn hdb) pa_nil he2) he) (by decide) (by decide) he hpl).imp fun σ H Q h => l_un (p_isX (c := .ty t) kn) h
noncomputable def namesT (Bs : List Addr) : TA := fun _ H R => R (Bs.map V.ref) H
theorem nt_nil : PA X [] (namesT []) := pa_nil.imp fun _ _ _ h => h
theorem nt_cons {x : Str} {B : Addr} {p : Pos} {es : List Expr} {Bs : List Addr} (hmc : X.mg x = some (.ref B)) (t : PA X es (namesT Bs)) (hg : Gl X x := by rfl) (hdb : (x == ("__debug__" : Str)) = false := by decide) (hs : starEach (.Name x p :: es) X.env = (false, eval (.Name x p) X.env) :: starEach es X.env := by rfl) : PA X (.Name x p :: es) (namesT (B :: Bs)) :=
  (pa_cons (pe_glob (v := .ref B) hg hmc rfl hdb) t hs).imp fun _ _ _ h => h
theorem e_isXT {es : List Expr} {Bs : List Addr} {p p2 : Pos} {k2 : Nat} {yes no : List Str} (hm : X.mg "isinstance" = none) (hn : PA X es (namesT Bs)) (kn : Kn X.K (fun C b => PySem.W.kitAny X.K (.ref C) (Bs.map Value.ref) = some b) yes no) (ha : PE X a (liftE Z fa)) (hz : Bs.length ≤ 1000 := by exact Nat.le_of_ble_eq_true rfl)
    (hg : Gl X "isinstance" := by rfl) (he : starEach [a, .Tuple es k2 p2] X.env = (false, eval a X.env) :: starEach [.Tuple es k2 p2] X.env := by rfl) (he2 : starEach [.Tuple es k2 p2] X.env = (false, eval (.Tuple es k2 p2) X.env) :: starEach [] X.env := by rfl) (hpl : (backTo pos (starEach [.Tuple es k2 p2] X.env)).any (·.1) = false := by rfl) :
    PE X (.Call (.Name "isinstance" p) [a, .Tuple es k2 p2] [] pos) (liftE Z (unF (isxD yes no) fa)) :=
  (pe_callB (call_isXT (Bs := Bs)) hg hm boot_isinstance (pa_cons ha (pa_cons (pe_tup hn) pa_nil he2) he) (by decide) (by decide) he hpl).imp fun σ H Q h => by
    obtain ⟨F, δ, own, rv, δ', s, e, k⟩ := h
    obtain ⟨⟨rvs, δ1⟩, e1, e2⟩ := Option.bind_eq_some_iff.mp e
    obtain ⟨ds, e3, e4⟩ := Option.bind_eq_some_iff.mp e2
    obtain ⟨sv, e5, e6⟩ := Option.bind_eq_some_iff.mp e4
    cases e6
    obtain ⟨⟨rv1, δ2⟩, e7, e8⟩ := Option.bind_eq_some_iff.mp e1
    obtain ⟨⟨rr', δ4⟩, e9, e10⟩ := Option.bind_eq_some_iff.mp e8
    cases e10
    cases e9
    obtain ⟨d, e11, e12⟩ := Option.bind_eq_some_iff.mp e3
    cases e12
    refine ⟨F, δ, own, rv1, δ2, s, e7, fun v H1 F1 own1 sH sF s1 r1 => ?_⟩
    obtain ⟨F2, sF2, s2, r2⟩ := s1.settleR r1
    have rn := s2.rd r2 e11
    obtain ⟨c', ks, vs, b, rfl, rfl, h1, h2⟩ := isx_cases e5
    obtain ⟨a1, C, dx, rfl, ha1, cl⟩ := rn.exc s2.le
    obtain ⟨q1, q2⟩ := kn.at' h1 h2 cl
    refine ⟨by rw [List.length_map]; exact Nat.le_trans hz (Nat.le_of_lt (small1000 (Nat.le_refl _))), fun p hp => ?_⟩
    have sm := same_new (o := .tup (Bs.map V.ref)) hp
    exact ⟨a1, C, dx, p, b, rfl, sm _ _ ha1, q1, upd_same, q2, k (.bl b) _ F2 own1 (sH.trans sm) (sF.trans sF2) (s2.grow sm) ⟨[], .fz (.bl b)⟩⟩
end
end DL

/-! DICT DISPLAYS with text keys; min of two -/
namespace DL
open PySem PySem.Spec PyProof.Rows L2
section
variable {X : Cx} {pins : List (Addr × Obj)} {σ : L2.St} {H : Hp} {s : Shared}
theorem Inv.trackO {a : Addr} {o : HO} (I : Inv X pins σ H s) (e0 : X.s₀.heap.get? a = none) (eH : H a = none) (le : a ≠ X.env.locals) (ce : ∀ x c, X.env.cells.lookup x = some c → c ≠ a) (pe : ∀ p ∈ X.pn ++ pins, p.1 ≠ a) (new : ObjOk X.prog X.w (upd H a o) s.heap a o) : Inv X pins σ (upd H a o) s := by
  refine ⟨I.ok, I.os, I.bare, ⟨I.base.keep, I.base.slot, fun b o q n hx => ?_, I.base.there, fun b xs q => ?_, fun b o u q => ?_, fun b ps q => ?_⟩, I.loc, I.cell, ?_, fun x c ec => ?_, fun p hp => ?_, fun b u q => ?_, I.len⟩
  · rw [upd_ne (fun z => by rw [z, e0] at q; cases q)]; exact I.base.free b o q n hx
  · have := I.base.tups b xs q
    rw [upd_ne (fun z => by rw [z, eH] at this; cases this)]; exact this
  · have := I.base.frzs b o u q
    rw [upd_ne (fun z => by rw [z, eH] at this; cases this)]; exact this
  · obtain ⟨m, this⟩ := I.base.tbls b ps q
    exact ⟨m, by rw [upd_ne (fun z => by rw [z, eH] at this; cases this)]; exact this⟩
  · rw [upd_ne (Ne.symm le)]; exact I.free
  · rw [upd_ne (ce x c ec)]; exact I.freeC x c ec
  · obtain ⟨q, n, r⟩ := I.pin p hp
    exact ⟨q, by rw [upd_ne (pe p hp)]; exact n, r⟩
  · by_cases hb : b = a
    · subst hb
      rw [upd_same] at q; cases q
      exact new
    · rw [upd_ne hb] at q
      exact (I.hok b u q).stay (fun c v _ z => z) (fun c z => by rw [upd_ne (fun y => by rw [y, eH] at z; cases z)]; exact z) fun c xs z => by rw [upd_ne (fun y => by rw [y, eH] at z; cases z)]; exact z
noncomputable def tDispN (trs : List (TE × TE)) : TE := fun σ H Q => tPairs trs σ H fun ps H2 => ∃ kvs : List (Key × V), ps = kvs.map (fun kv => (kV kv.1, kv.2)) ∧ kvs.length ≤ 15 ∧ ∀ p, H2 p = none → Q (.ref p) (upd H2 p (.dK (mergeK [] kvs)))
theorem pe_dispN {pos : Pos} {keys : List (Option Expr)} {values : List Expr} {trs : List (TE × TE)} (h : PPs X pos keys values trs) (hall : keys.all (·.isSome) = true) (hl : keys.length = values.length) (h0 : keys ≠ [])
    (h15 : keys.length ≤ 15) : PE X (.Dict keys values pos) (tDispN trs) := by
  intro pins s σ H Q I q
  have hn := I.hok.fresh (Nat.le_refl s.heap.objs.size)
  have I0 := I.kept (h' := s.heap.push { cls := .type "dict", data := .dict #[] }) (t' := s.toks) (fun _ _ q => Heap.get?_push_of_some _ q)
  have hob : (s.heap.push { cls := .type "dict", data := .dict #[] }).get? s.heap.objs.size = some { cls := .type "dict", data := .dict #[] } := Heap.get?_push_size _ rfl
  have old : ∀ b o, s.heap.get? b = some o → b ≠ s.heap.objs.size := fun b o z => Nat.ne_of_lt (Heap.lt_size z)
  have apart : ∀ p ∈ X.pn ++ pins, p.1 ≠ s.heap.objs.size := fun p hp => old _ _ (I.pin p hp).1
  have hloc : s.heap.objs.size ≠ X.env.locals := fun z => Nat.lt_irrefl _ (Nat.lt_of_lt_of_le (z ▸ I.lt) (Nat.le_refl _))
  have hcel : ∀ x c, X.env.cells.lookup x = some c → c ≠ s.heap.objs.size := fun x c ec => by
    obtain ⟨v, o, ho, _⟩ := I.cell x c ec
    exact old _ _ ho
  have hs0 : X.s₀.heap.get? s.heap.objs.size = none := Heap.get?_none_of_le I.sz
  have I1 := I0.pins_of (pins' := (s.heap.objs.size, { cls := .type "dict", data := .dict #[] }) :: pins) fun p hp => by
    rcases List.mem_cons.mp hp with z | z
    · subst z
      exact ⟨hob, hn, hloc, I.nofs (Nat.le_refl _), fun v z => nomatch z⟩
    · exact I0.pin p (List.mem_append_right _ z)
  refine wpAny_Dict_walk (knd := mixKind X.prog X.w) hall hl h0 h15 (thn (h _ _ σ _ _ I1 q) fun ws s2 ⟨ps, H2, I2, rel, kvs, ep, lk, q2⟩ => ?_)
  subst ep
  obtain ⟨rs, c, rk⟩ := carries_of (P := X.prog) (w := X.w) rel
  obtain ⟨p1, p2, p3, p4, p5⟩ := I2.pin (s.heap.objs.size, { cls := .type "dict", data := .dict #[] }) (List.mem_append_right _ List.mem_cons_self)
  have new0 : ObjOk X.prog X.w (upd H2 s.heap.objs.size (.dK [])) s2.heap s.heap.objs.size (.dK []) := (show ObjOk X.prog X.w (fun _ => none) _ _ (.dK []) from dk_empty s.heap I.big).stay (fun b u hb z => by
    rcases hb with rfl | hb
    · rw [hob] at z; cases z; exact p1
    · cases hb) (fun _ z => nomatch z) fun _ _ z => nomatch z
  have I3 : Inv X pins σ (upd H2 s.heap.objs.size (.dK [])) s2 := Inv.trackO (I2.pins_of (pins' := pins) fun p hp => I2.pin p (List.mem_append_right _ (List.mem_cons_of_mem _ hp))) hs0 p2 hloc hcel apart new0
  obtain ⟨z, hd, vs0, r0, dd⟩ := dk_of I3.hok (show upd H2 s.heap.objs.size (.dK []) s.heap.objs.size = some (.dK []) from upd_same)
  cases r0
  refine ⟨rs, c, dd, fun h' dd' hs => ⟨.ref s.heap.objs.size, _, ?_, rfl, q2 _ p2⟩⟩
  have hz : (mergeK [] kvs).length ≤ sizeLine := by
    have h1 := length_mergeK kvs []
    rw [List.length_nil] at h1
    rw [sizeLine_eq]; omega
  have he : ∃ q, h'.get? s.heap.objs.size = some q := let ⟨q, _, _, hq, _⟩ := dd'; ⟨q, hq⟩
  have I4 : L2.Inv X pins σ (upd (upd H2 s.heap.objs.size (.dK [])) s.heap.objs.size (.dK (mergeK [] kvs))) { s2 with heap := h', toks := s2.toks + ws.length } := d_write I3 (by rw [upd_same]; exact True.intro) hs he (dk_new hz hd (rk.merge .nil) dd')
  rw [upd_upd] at I4
  exact I4
end
section
variable {K : PySem.W.Frag} {Z : Ent K} {σ : L2.St} {H : Hp} {Q : VK}
theorem liftE_mono {f : FE} {Q' : VK} (m : ∀ v H, Q v H → Q' v H) (h : liftE Z f σ H Q) : liftE Z f σ H Q' := by
  obtain ⟨F, δ, own, rv, δ', s, e, k⟩ := h
  exact ⟨F, δ, own, rv, δ', s, e, fun v H' F' own' a b c d => m _ _ (k v H' F' own' a b c d)⟩
noncomputable def tPD (Z : Ent K) (l : List (Str × FE)) : List (TE × TE) := l.map fun p => (tC (.str p.1), liftE Z p.2)
@[simp] noncomputable def pairsF : List (Str × FE) → FD
  | [] => dispNil
  | p :: r => dispCons p.2 (pairsF r)
theorem l_pairs : ∀ (l : List (Str × FE)) {σ : L2.St} {H : Hp} {R : List (V × V) → Hp → Prop}, liftD Z (pairsF l) σ H (fun vs H' => R ((l.map fun p => V.str p.1).zip vs) H') → tPairs (tPD Z l) σ H R
  | [], σ, H, R, h => by
    have := l_dispNil h
    exact this
  | p :: r, σ, H, R, h => by
    have h2 := l_dispCons (fe := p.2) (fd := pairsF r) h
    exact liftE_mono (fun v H1 q => l_pairs r (R := fun ps H3 => R ((.str p.1, v) :: ps) H3) q) h2
@[simp] noncomputable def dispNF (l : List (Str × FE)) : FE := fun δ => (pairsF l δ).bind fun p => if p.1.length = l.length then some (.tmp (.oK (l.map fun q => .inr q.1) p.1), p.2) else none
theorem merge_new : ∀ (more acc : List (Key × V)), ((acc ++ more).map (·.1)).Nodup → mergeK acc more = acc ++ more
  | [], acc, _ => by show acc = acc ++ []; rw [List.append_nil]
  | p :: r, acc, h => by
    have e : putK acc p.1 p.2 = acc ++ [p] := by
      unfold putK
      rw [if_neg]
      intro z
      obtain ⟨q, hq, z⟩ := List.any_eq_true.mp z
      rw [List.map_append, List.nodup_append] at h
      exact h.2.2 p.1 (List.mem_map.mpr ⟨q, hq, of_decide_eq_true z⟩) p.1 (by simp) rfl
    show mergeK (putK acc p.1 p.2) r = _
    rw [e, merge_new r (acc ++ [p]) (by simpa using h)]
    simp
theorem keys_nodup {l : List (Str × FE)} (h : (l.map (·.1)).Nodup) : (l.map fun q => (Sum.inr q.1 : Key)).Nodup := by
  have : (l.map fun q => (Sum.inr q.1 : Key)) = (l.map (·.1)).map Sum.inr := by rw [List.map_map]; rfl
  rw [this]
  exact List.Pairwise.map _ (fun a b hab z => hab (Sum.inr.inj z)) h
theorem zip_kv : ∀ (l : List (Str × FE)) (vs : List V), (l.map fun p => V.str p.1).zip vs = ((l.map fun q => (Sum.inr q.1 : Key)).zip vs).map fun kv => (kV kv.1, kv.2)
  | [], _ => rfl
  | _ :: _, [] => rfl
  | p :: r, v :: vs => by
    rw [List.map_cons, List.map_cons, List.zip_cons_cons, List.zip_cons_cons, List.map_cons, zip_kv r vs]
    rfl
theorem l_dispN {l : List (Str × FE)} (hnd : (l.map (·.1)).Nodup) (h15 : l.length ≤ 15) (h : liftE Z (dispNF l) σ H Q) : tDispN (tPD Z l) σ H Q := by
  obtain ⟨F, δ, own, rv, δ', s, e, k⟩ := h
  obtain ⟨⟨ds, δ1⟩, e1, e2⟩ := Option.bind_eq_some_iff.mp e
  by_cases hlen : ds.length = l.length
  · rw [if_pos hlen] at e2
    cases e2
    refine l_pairs l ⟨F, δ, own, ds, δ1, s, e1, fun vs H1 F1 own1 sH sF s1 r1 => ?_⟩
    have hv : vs.length = l.length := by rw [← r1.length]; exact hlen
    have hk : (((l.map fun q => (Sum.inr q.1 : Key)).zip vs).map (·.1)) = l.map fun q => (Sum.inr q.1 : Key) := List.map_fst_zip (by rw [List.length_map, hv]; exact Nat.le_refl _)
    have hs : (((l.map fun q => (Sum.inr q.1 : Key)).zip vs).map (·.2)) = vs := List.map_snd_zip (by rw [List.length_map, hv]; exact Nat.le_refl _)
    refine ⟨(l.map fun q => (Sum.inr q.1 : Key)).zip vs, ?_, ?_, fun p hp => ?_⟩
    · exact zip_kv l vs
    · rw [List.length_zip, List.length_map, hv, Nat.min_self]; exact h15
    · rw [merge_new _ [] (by rw [List.nil_append, hk]; exact keys_nodup hnd), List.nil_append]
      exact Fin.one (fun w H' F' ns a b c t => k w H' F' own1 (sH.trans a) (sF.trans b) c ⟨ns, t⟩) s1 (.oK hk (by rw [hs]; exact r1)) hp
  · rw [if_neg hlen] at e2; cases e2
@[simp] noncomputable def minD : List D → Option SV
  | [.int i, .int j] => some (.fz (.int (if j < i then j else i)))
  | _ => none
end
section
variable {X : Cx} {Z : Ent X.K} {a b c : Expr} {fa fb fc : FE} {pos : Pos}
theorem pp_nil : PPs X pos [] [] (tPD Z []) := pps_nil
theorem pp_cons {k : Str} {j : Nat} {p : Pos} {ks : List (Option Expr)} {vs : List Expr} {l : List (Str × FE)} (hv : PE X a (liftE Z fa)) (hr : PPs X pos ks vs (tPD Z l)) : PPs X pos (some (.Constant (.str k) j p) :: ks) (a :: vs) (tPD Z ((k, fa) :: l)) := pps_cons pe_str hv hr
theorem e_dispN {keys : List (Option Expr)} {values : List Expr} {l : List (Str × FE)} {ks : List Str} (h : PPs X pos keys values (tPD Z l)) (hnd : ks.Nodup) (hks : l.map (·.1) = ks := by rfl) (h15 : l.length ≤ 15 := by decide) (hall : keys.all (·.isSome) = true := by rfl) (hl : keys.length = values.length := by rfl) (h0 : keys ≠ [] := by exact List.cons_ne_nil _ _)
    (hk : keys.length = l.length := by rfl) : PE X (.Dict keys values pos) (liftE Z (dispNF l)) := (pe_dispN h hall hl h0 (by rw [hk]; exact h15)).imp fun _ _ _ q => l_dispN (by rw [hks]; exact hnd) h15 q
theorem p_min : PrimN Z (fun xs H Q => ∃ i j, xs = [.int i, .int j] ∧ Q (.int (if j < i then j else i)) H) minD := by
  intro F H σ δ own vs ds sv Q s rs e f
  unfold minD at e
  split at e
  · cases e
    cases rs with
    | cons h1 t1 =>
      cases t1 with
      | cons h2 t2 =>
        cases t2
        rw [h1.int, h2.int]
        exact ⟨_, _, rfl, f.fz s (.int _)⟩
  · cases e
theorem e_min {p : Pos} (hm : X.mg "min" = none) (hc : X.calm = true) (ha : PE X a (liftE Z fa)) (hb : PE X b (liftE Z fb)) (hg : Gl X "min" := by rfl) (he : starEach [a, b] X.env = (false, eval a X.env) :: starEach [b] X.env := by rfl) (he2 : starEach [b] X.env = (false, eval b X.env) :: starEach [] X.env := by rfl) (hpl : (backTo pos (starEach [b] X.env)).any (·.1) = false := by rfl) :
    PE X (.Call (.Name "min" p) [a, b] [] pos) (liftE Z (primF minD (argCons fa (argCons fb argNil)))) := e_callB (call_min2 hc) p_min hm boot_min (a_cons ha (a_cons hb a_nil he2) he) hg (by decide) (by decide) he hpl
end
end DL

/-! MANY TEXTS in a display -/
namespace DL
open PySem PySem.Spec PyProof.Rows L2
@[simp] noncomputable def textsF (ss : List Str) (fd : FD) : FD := fun δ => (fd δ).bind fun p => some (ss.map D.str ++ p.1, p.2)
theorem l_texts {K : PySem.W.Frag} {Z : Ent K} {σ : L2.St} {H : Hp} {fd : FD} : ∀ (ss : List Str) {R : List V → Hp → Prop}, liftD Z (textsF ss fd) σ H R → liftD Z fd σ H fun vs H' => R (ss.map V.str ++ vs) H'
  | ss, R, h => by
    obtain ⟨F, δ, own, ds, δ', s, e, k⟩ := h
    obtain ⟨⟨ds1, δ1⟩, e1, e2⟩ := Option.bind_eq_some_iff.mp e
    cases e2
    refine ⟨F, δ, own, ds1, δ1, s, e1, fun vs H' F' own' a b c r => k _ H' F' own' a b c ?_⟩
    exact Reps.append (strs_rep ss) r
where strs_rep {F : Hp} : ∀ ss : List Str, Reps K F (ss.map D.str) (ss.map V.str)
  | [] => .nil
  | x :: r => .cons (.str x) (strs_rep r)
section
variable {X : Cx} {Z : Ent X.K} {pos : Pos}
noncomputable abbrev cst (x : Str × Nat × Pos) : Expr := .Constant (.str x.1) x.2.1 x.2.2
theorem pa_texts {es : List Expr} {t : TA} (h : PA X es t) : ∀ l : List (Str × Nat × Pos), PA X (l.map cst ++ es) fun σ H R => t σ H fun vs H' => R ((l.map fun x => V.str x.1) ++ vs) H'
  | [] => h
  | x :: r => (pa_cons (e := cst x) (es := r.map cst ++ es) pe_str (pa_texts h r) rfl).imp fun σ H R q => q
theorem d_texts {es : List Expr} {fd : FD} (l : List (Str × Nat × Pos)) (h : PA X es (liftD Z fd)) : PA X (l.map cst ++ es) (liftD Z (textsF (l.map (·.1)) fd)) :=
  (pa_texts h l).imp fun σ H R q => by
    have := l_texts (l.map (·.1)) q
    rw [List.map_map] at this
    exact this
end
end DL

/-! A COMPREHENSION whose items may raise -/
namespace DL
open PySem PySem.Spec PyProof.Rows L2
section
variable {K : PySem.W.Frag}
inductive RC where
  | v (δ : DSt) | x (e : Exn)
noncomputable def xX (K : PySem.W.Frag) (f : FX) (EX : EXT) : TE := fun σ H Q => ∃ Z : Ent K, Z.x = EX ∧ liftX Z f σ H Q
@[simp] noncomputable def compXD (src : List BSrc) (k : Nat) (g : FG) (tt : FT) (te : FX) : List D → DSt → Option RC
  | [], δ => some (.v δ)
  | d :: ds, δ => (g.run d δ).bind fun δ1 => (tt δ1).bind fun p => if p.1 = true then (te p.2).bind (fun
    | .x e _ => some (.x e)
    | .v rv δ2 => (frz rv δ2).bind fun r => match r.2[k]? with
      | some (some (.ol zs)) => if zs.length < PySem.sizeLine then compXD src k g tt te ds (reset src (r.2.set k (some (.ol (zs ++ [r.1]))))) else none
      | _ => none)
    else compXD src k g tt te ds (reset src p.2)
@[simp] noncomputable def compX (src : List BSrc) (k : Nat) (fi : FD) (g : FG) (tt : FT) (te : FX) : FX := fun δ => (fi δ).bind fun p => (frzAll (caps src) p.2).bind fun c => (compXD src k g tt te p.1 (bD src c.2)).bind fun
  | .x e => some (.x e c.2)
  | .v δb => match δb[k]? with
    | some (some (.ol ys)) => some (.v (.tmp (.ol ys)) c.2)
    | _ => none
end
section
variable {X : Cx} {Z : Ent X.K} {pos : Pos}
theorem s_try1n {body : List Stmt} {fb f : FS} {x : Str} {np hp : Pos} {b0 : Stmt} {suite : List Stmt} {B : Addr} {yes no : List Str} (hb : ∀ pn xe EX, ThrowsT (X.inTry pn xe) EX → PSs (X.inTry pn xe) body (liftS (Z.wish EX) fb)) (mg : X.mg x = some (.ref B))
    (ck : PySem.W.typeIn X.K (.ref B) = some (.type "type") ∧ PySem.W.isClsIn X.K B = true ∧ PySem.W.mroIn X.K B (.type "BaseException") = some true) (su : ∀ a, PSs (X.inSuite a) (b0 :: suite) (liftS Z f))
    (hy : ∀ c ∈ yes, ∀ C, ClsIs X.K c C → PySem.W.mroIn X.K C (.ref B) = some true) (hn : ∀ c ∈ no, ∀ C, ClsIs X.K c C → PySem.W.mroIn X.K C (.ref B) = some false)
    (gl : Gl X x := by rfl) (db : (x == ("__debug__" : Str)) = false := by decide) (hex : X.ex = [] := by rfl) (hst : X.stack = X.env :: X.outer := by rfl) (hfr : X.env.frame = some X.env.locals := by rfl) :
    PS X (.Try body [.ExceptHandler (some (.Name x np)) none (b0 :: suite) hp] [] [] pos) (liftS Z (tryF fb [⟨none, yes, no, f⟩])) :=
  s_try (h0 := ⟨x, np, none, b0, suite, hp, B, yes, no, f⟩) (hs := []) hb (all_one ⟨gl, mg, ck.1, ck.2.1, ck.2.2, db, nm_none, su⟩) (all_one ⟨hy, hn⟩) hex hst hfr
theorem s_try1s {body : List Stmt} {fb f : FS} {x n : Str} {i : Nat} {np hp : Pos} {b0 : Stmt} {suite : List Stmt} {B : Addr} {yes no : List Str} (hb : ∀ pn xe EX, ThrowsT (X.inTry pn xe) EX → PSs (X.inTry pn xe) body (liftS (Z.wish EX) fb)) (mg : X.mg x = some (.ref B))
    (ck : PySem.W.typeIn X.K (.ref B) = some (.type "type") ∧ PySem.W.isClsIn X.K B = true ∧ PySem.W.mroIn X.K B (.type "BaseException") = some true) (nd : X.N.Nodup) (su : ∀ a, PSs (X.inSuite a) (b0 :: suite) (liftS Z f))
    (hy : ∀ c ∈ yes, ∀ C, ClsIs X.K c C → PySem.W.mroIn X.K C (.ref B) = some true) (hn : ∀ c ∈ no, ∀ C, ClsIs X.K c C → PySem.W.mroIn X.K C (.ref B) = some false)
    (ni : X.N[i]? = some n := by rfl) (lc : X.env.scope.names.lookup n = some .local := by rfl) (gl : Gl X x := by rfl) (db : (x == ("__debug__" : Str)) = false := by decide) (hex : X.ex = [] := by rfl) (hst : X.stack = X.env :: X.outer := by rfl) (hfr : X.env.frame = some X.env.locals := by rfl) :
    PS X (.Try body [.ExceptHandler (some (.Name x np)) (some n) (b0 :: suite) hp] [] [] pos) (liftS Z (tryF fb [⟨some i, yes, no, f⟩])) :=
  s_try (h0 := ⟨x, np, some (n, i), b0, suite, hp, B, yes, no, f⟩) (hs := []) hb (all_one ⟨gl, mg, ck.1, ck.2.1, ck.2.2, db, nm_some ⟨nd, ni, .inl lc, lc, lc⟩, su⟩) (all_one ⟨hy, hn⟩) hex hst hfr
end
end DL

/-! slices with a step -/
namespace L2
open PySem PySem.Spec PyProof.Rows
noncomputable def pickL {α : Type} (xs : List α) (lo hi st : Option Int) : List α :=
  (sliceRange (sliceBounds lo hi st xs.length).1 (sliceBounds lo hi st xs.length).2.1 (sliceBounds lo hi st xs.length).2.2).filterMap (xs[·]?)
theorem Vals.pickI {xs : List V} {us : List Value} (r : Vals xs us) : ∀ is : List Nat, Vals (is.filterMap (xs[·]?)) (is.filterMap (us[·]?))
  | [] => .nil
  | i :: is => by
    cases h : xs[i]? with
    | none => rw [List.filterMap_cons_none h, List.filterMap_cons_none (r.none_of h)]; exact Vals.pickI r is
    | some x =>
      obtain ⟨u, hu, hr⟩ := r.get h
      rw [List.filterMap_cons_some h, List.filterMap_cons_some hu]
      exact .cons hr (Vals.pickI r is)
theorem pick_arr (us : List Value) (lo hi st : Option Int) : slicePick us.toArray lo hi st = (pickL us lo hi st).toArray := by
  unfold slicePick pickL
  simp
section
variable {X : Cx} {e st : Expr} {te : TE} {lo hi : Option Expr} {tl th ts : TO} {pos p2 : Pos}
noncomputable def SlR3 (X : Cx) (r : V → Option Int → Option Int → Option Int → Hp → VK → Prop) : Prop :=
  ∀ (pins : List (Addr × Obj)) (s : Shared) (σ : St) (H : Hp) (x : V) (v vl vu vs : Value) (lo hi st : Option Int) (sl : Addr) (Q : VK), Inv X pins σ H s → RelV x v → s.heap.IsSliceOf sl vl vu vs → IsPart vl lo → IsPart vu hi → IsPart vs st → r x lo hi st H Q →
    ∃ T id, typeLookup (.type T) "__getitem__" = pure (some (.builtin id)) ∧ s.TypeIs v T ∧ wpAny (model X.prog X.w) X.A (getItem v (.ref sl)) (EP X pins σ Q) X.xe s
noncomputable def tSl3 (r : V → Option Int → Option Int → Option Int → Hp → VK → Prop) (te : TE) (tl th ts : TO) : TE := fun σ H Q => te σ H fun x H1 => tl σ H1 fun l H2 => th σ H2 fun u H3 => ts σ H3 fun w H4 => r x l u w H4 Q
theorem pe_slice3 {r : V → Option Int → Option Int → Option Int → Hp → VK → Prop} (hr : SlR3 X r) (he : PE X e te) (hl : PO X lo tl) (hu : PO X hi th) (ht : PO X (some st) ts) : PE X (.Subscript e (.Slice lo hi (some st) p2) pos) (tSl3 r te tl th ts) := by
  intro pins s σ H Q I h
  refine Subscript_ (thn (he pins s σ H _ I h) fun v s1 ⟨x, H1, I1, r1, q1⟩ => ?_)
  refine wpAny_Slice (thn (hl pins s1 σ H1 _ I1 q1) fun vl s2 ⟨l, H2, I2, pl, q2⟩ => thn (hu pins s2 σ H2 _ I2 q2) fun vu s3 ⟨u, H3, I3, pu, q3⟩ => thn (ht pins s3 σ H3 _ I3 q3) fun vs s4 ⟨w, H4, I4, pw, q4⟩ => ?_)
  have I5 : Inv X pins σ H4 { s4 with heap := s4.heap.push { cls := .type "slice", data := .fields #[vl, vu, vs] } } := I4.kept (t' := s4.toks) fun b ob q => Heap.get?_push_of_some _ q
  obtain ⟨T, id, hT, ht, hg⟩ := hr pins { s4 with heap := s4.heap.push { cls := .type "slice", data := .fields #[vl, vu, vs] } } σ H4 x v vl vu vs l u w s4.heap.objs.size Q I5 r1 (Heap.IsSliceOf.new ..) pl pu pw q4
  show wpAny (model X.prog X.w) X.A (subscriptTail e (.Slice lo hi (some st) p2) v (.ref s4.heap.objs.size)) (EP X pins σ Q) X.xe { s4 with heap := s4.heap.push { cls := .type "slice", data := .fields #[vl, vu, vs] } }
  exact tail_any (ops := [v, .ref s4.heap.objs.size]) ht hT hg (by with_unfolding_all rfl)
noncomputable def rSl3 (K : PySem.W.Frag) : V → Option Int → Option Int → Option Int → Hp → VK → Prop := fun x lo hi st H Q => ∃ a xs, x = .ref a ∧ SqL K H a xs ∧ st ≠ some 0 ∧ ∀ p, H p = none → Q (.ref p) (upd H p (.lst (pickL xs lo hi st)))
theorem sl3_list : SlR3 X (rSl3 X.K) := by
  intro pins s σ H x v vl vu vs lo hi st sl Q I rx hs pl pu pw h
  obtain ⟨a, xs, rfl, hx, h0, q⟩ := h
  cases rx
  obtain ⟨its, r, ht, hz⟩ := I.list hx
  have hlen := r.length
  refine ⟨"list", _, slot_list_getitem.lookup, ht.isList.typeIs, ?_⟩
  refine wpAny_getItem_list_slice ht.isList hs pl pu pw h0 ?_ (by rw [List.size_toArray] <;> omega)
  have hsz := slicePick_size_le its.toArray lo hi st
  rw [pick_arr] at hsz ⊢
  have rr : Vals (pickL xs lo hi st) (pickL its lo hi st) := by
    unfold pickL
    rw [hlen]
    exact r.pickI _
  have hl2 := rr.length
  simp only [List.size_toArray] at hsz
  refine ⟨.ref s.heap.objs.size, _, I.laid (t' := s.toks) (o := .lst (pickL xs lo hi st)) (fun b ob q => Heap.get?_push_of_some _ q) (Nat.le_refl _) ?_, rfl, q _ (I.hok.fresh (Nat.le_refl _))⟩
  exact ⟨by omega, _, 0, rr, Heap.get?_push_size _ rfl⟩
end
end L2
namespace DL
open PySem PySem.Spec PyProof.Rows L2
theorem Reps.pickI {K : PySem.W.Frag} {F : Hp} {xs : List D} {us : List V} (r : Reps K F xs us) : ∀ is : List Nat, Reps K F (is.filterMap (xs[·]?)) (is.filterMap (us[·]?))
  | [] => .nil
  | i :: is => by
    cases h : xs[i]? with
    | none =>
      have h2 : us[i]? = none := by
        rw [List.getElem?_eq_none_iff] at h ⊢
        rw [← r.length]; exact h
      rw [List.filterMap_cons_none h, List.filterMap_cons_none h2]; exact Reps.pickI r is
    | some x =>
      obtain ⟨u, hu, hr⟩ := r.get h
      rw [List.filterMap_cons_some h, List.filterMap_cons_some hu]
      exact .cons hr (Reps.pickI r is)
theorem Reps.pick {K : PySem.W.Frag} {F : Hp} {xs : List D} {us : List V} (r : Reps K F xs us) (lo hi st : Option Int) : Reps K F (pickL xs lo hi st) (pickL us lo hi st) := by
  unfold pickL
  rw [r.length]
  exact r.pickI _
@[simp] noncomputable def slF3 (g : D → Option Int → Option Int → Option Int → Option SV) (fe : FE) (fl fh fs : FO) : FE := fun δ => (fe δ).bind fun p => (fl p.2).bind fun l => (fh l.2).bind fun h => (fs h.2).bind fun w => (rdv p.1 w.2).bind fun d => (g d l.1 h.1 w.1).bind fun sv => some (.tmp sv, w.2)
section
variable {K : PySem.W.Frag} {Z : Ent K} {H : Hp} {σ : L2.St} {Q : VK}
noncomputable def PrimS3 (Z : Ent K) (r : V → Option Int → Option Int → Option Int → Hp → VK → Prop) (g : D → Option Int → Option Int → Option Int → Option SV) : Prop :=
  ∀ (F H : Hp) (σ : L2.St) (δ : DSt) (own : Nat → Nodes) (x : V) (d : D) (lo hi st : Option Int) (sv : SV) (Q : VK), SR Z F H σ δ own → RepN K F H d x → g d lo hi st = some sv → Fin Z F H σ δ own sv Q → r x lo hi st H Q
theorem l_sl3 {r : V → Option Int → Option Int → Option Int → Hp → VK → Prop} {g : D → Option Int → Option Int → Option Int → Option SV} {fe : FE} {fl fh fs : FO} (hg : PrimS3 Z r g) (h : liftE Z (slF3 g fe fl fh fs) σ H Q) : tSl3 r (liftE Z fe) (liftO Z fl) (liftO Z fh) (liftO Z fs) σ H Q := by
  obtain ⟨F, δ, own, rv, δ', s, e, k⟩ := h
  obtain ⟨⟨rv1, δ1⟩, e1, e⟩ := Option.bind_eq_some_iff.mp e
  obtain ⟨⟨lo, δ2⟩, e2, e⟩ := Option.bind_eq_some_iff.mp e
  obtain ⟨⟨hi, δ3⟩, e3, e⟩ := Option.bind_eq_some_iff.mp e
  obtain ⟨⟨st, δ4⟩, e3', e⟩ := Option.bind_eq_some_iff.mp e
  obtain ⟨d, e4, e⟩ := Option.bind_eq_some_iff.mp e
  obtain ⟨sv, e5, e⟩ := Option.bind_eq_some_iff.mp e
  cases e
  refine ⟨F, δ, own, rv1, δ1, s, e1, fun v H1 F1 own1 sH1 sF1 s1 r1 => ?_⟩
  obtain ⟨F1', sF1', s1', r1'⟩ := s1.settleR r1
  refine ⟨F1', δ1, own1, lo, δ2, s1', e2, fun H2 F2 own2 sH2 sF2 s2 => ⟨F2, δ2, own2, hi, δ3, s2, e3, fun H3 F3 own3 sH3 sF3 s3 => ⟨F3, δ3, own3, st, δ4, s3, e3', fun H5 F5 own5 sH5 sF5 s5 => ?_⟩⟩⟩
  exact hg F5 H5 σ δ4 own5 v d lo hi st sv Q s5 (s5.rd (r1'.mono (sF2.trans (sF3.trans sF5))) e4) e5 fun q H4 F4 ns sH4 sF4 s4 t4 =>
    k q H4 F4 own5 (sH1.trans (sH2.trans (sH3.trans (sH5.trans sH4)))) (sF1.trans (sF1'.trans (sF2.trans (sF3.trans (sF5.trans sF4))))) s4 ⟨ns, t4⟩
@[simp] noncomputable def slD3 : D → Option Int → Option Int → Option Int → Option SV
  | .lst xs, lo, hi, st => if st ≠ some 0 then some (.ol (pickL xs lo hi st)) else none
  | _, _, _, _ => none
theorem p_sl3 : PrimS3 Z (rSl3 K) slD3 := by
  intro F H σ δ own x d lo hi st sv Q s r1 e k
  unfold slD3 at e
  split at e
  · split at e
    · rename_i h0
      cases e
      obtain ⟨a, vs, ex, ha, ra⟩ := r1.lst s.le
      exact ⟨a, vs, ex, ha, h0, fun p hp => k.lst s (ra.pick _ _ _) hp⟩
    · cases e
  · cases e
end
theorem e_sl3 {X : Cx} {Z : Ent X.K} {a : Expr} {fa : FE} {pos : Pos} {st : Expr} {lo hi : Option Expr} {fl fh fs : FO} {p2 : Pos} (ha : PE X a (liftE Z fa)) (hl : PO X lo (liftO Z fl)) (hh : PO X hi (liftO Z fh)) (hs : PO X (some st) (liftO Z fs)) : PE X (.Subscript a (.Slice lo hi (some st) p2) pos) (liftE Z (slF3 slD3 fa fl fh fs)) :=
  (pe_slice3 sl3_list ha hl hh hs).imp fun _ _ _ h => l_sl3 p_sl3 h
end DL

/-! lists of a known length, without a match of their own -/
namespace DL
section
variable {α : Type} {P : List α → Prop}
@[elab_as_elim] theorem of0 (h : P []) (us : List α) (hl : us.length = 0) : P us := by
  have : us = [] := List.eq_nil_of_length_eq_zero hl
  rw [this]; exact h
@[elab_as_elim] theorem of1 (h : ∀ a, P [a]) (us : List α) (hl : us.length = 1) : P us := by
  obtain ⟨a, e⟩ := List.length_eq_one_iff.mp hl
  rw [e]; exact h a
theorem ofC {n : Nat} (h : ∀ a (us : List α), us.length = n → P (a :: us)) (us : List α) (hl : us.length = n + 1) : P us := by
  cases us with
  | nil => exact absurd hl (by simp)
  | cons a r => exact h a r (by simpa using hl)
@[elab_as_elim] theorem of2 (h : ∀ a b, P [a, b]) (us : List α) (hl : us.length = 2) : P us := ofC (fun a => of1 (P := fun us => P (a :: us)) (h a)) us hl
@[elab_as_elim] theorem of3 (h : ∀ a b c, P [a, b, c]) (us : List α) (hl : us.length = 3) : P us := ofC (fun a => of2 (P := fun us => P (a :: us)) (h a)) us hl
@[elab_as_elim] theorem of4 (h : ∀ a b c d, P [a, b, c, d]) (us : List α) (hl : us.length = 4) : P us := ofC (fun a => of3 (P := fun us => P (a :: us)) (h a)) us hl
@[elab_as_elim] theorem of5 (h : ∀ a b c d e, P [a, b, c, d, e]) (us : List α) (hl : us.length = 5) : P us := ofC (fun a => of4 (P := fun us => P (a :: us)) (h a)) us hl
@[elab_as_elim] theorem of6 (h : ∀ a b c d e f, P [a, b, c, d, e, f]) (us : List α) (hl : us.length = 6) : P us := ofC (fun a => of5 (P := fun us => P (a :: us)) (h a)) us hl
end
end DL

/-! MATHEMATICS OF TEXTS AND LISTS, of no law alone -/
namespace My
open DL PySem
theorem line_of {n : Nat} (h : n ≤ 16777216) : n ≤ PySem.sizeLine := h
theorem line_lt {n : Nat} (h : n < 16777216) : n < PySem.sizeLine := h
noncomputable abbrev LET : Str := "ABCDEFGHIJKLMNOPQRSTUVWXYZabcdefghijklmnopqrstuvwxyz"
theorem app_len (a b : Str) : (a ++ b).length = a.length + b.length := by
  show (a.cps ++ b.cps).size = a.cps.size + b.cps.size
  simp
theorem one_len (c : Nat) : (⟨#[c]⟩ : Str).length = 1 := rfl
theorem strs_map : ∀ xs : List Str, strs? (xs.map D.str) = some xs
  | [] => rfl
  | x :: r => by simp [strs_map r]
/-! texts one behind another -/
noncomputable def cat : List Str → Str
  | [] => ""
  | x :: r => x ++ cat r
theorem join_cat : ∀ xs : List Str, Str.join (Str.ofString "") xs = cat xs
  | [] => rfl
  | [x] => by show x = x ++ Str.empty; rw [Str.append_empty]
  | x :: y :: r => by
    show x ++ Str.empty ++ Str.join (Str.ofString "") (y :: r) = x ++ cat (y :: r)
    rw [Str.append_empty, join_cat (y :: r)]
theorem tjoin0 (xs : List Str) : Txt.join (Str.ofString "") xs = cat xs := (StrLaws.glued_eq_join _ xs).trans (join_cat xs)
theorem joinOk {sep : Str} {xs : List Str} {B : Nat} (h : ∀ x ∈ xs, x.length ≤ B) (hz : xs.length * B + xs.length * sep.length ≤ 16777216) : JoinOk sep xs = true := by
  unfold JoinOk
  rw [StrLaws.joinFits h hz]; rfl
/-! comprehensions that only look at their items -/
theorem comp_cap {te : FE} {f : D → D} {c : Option SV} {j : Nat} : ∀ (xs ys : List D), (∀ x ∈ xs, ∀ zs, te [some (.fz x), c, some (.ol zs)] = some (.tmp (.fz (f x)), [some (.fz x), c, some (.ol zs)])) → ys.length + xs.length ≤ 16777216 →
    compD [.own, .cap j, .acc] 2 (gNameF 0) trueT te xs [none, c, some (.ol ys)] = some [none, c, some (.ol (ys ++ xs.map f))]
  | [], ys, _, _ => by simp
  | x :: xs, ys, h, hl => by
    rw [List.length_cons] at hl
    have ih := comp_cap (te := te) (f := f) (c := c) (j := j) xs (ys ++ [f x]) (fun y hy => h y (List.mem_cons_of_mem _ hy)) (by rw [List.length_append]; simp; omega)
    have e1 := h x List.mem_cons_self ys
    have h4 : ys.length < PySem.sizeLine := line_lt (by omega)
    simp [e1, h4]
    simpa using ih
/-! deep == of one and the same -/
theorem eqAll_refl {f : D → D → Option Bool} : ∀ xs : List D, (∀ x ∈ xs, f x x = some true) → eqAll f xs xs = some true
  | [], _ => rfl
  | x :: r, h => by simp [h x List.mem_cons_self, eqAll_refl r fun y hy => h y (List.mem_cons_of_mem _ hy)]
end My

/-! A TEXT THAT WAS JOINED, CUT AGAIN -/
namespace My
open DL PySem StrLaws Builtin.Str
noncomputable def gap (n : Nat) : Nat → List Nat → Prop
  | _, [] => True
  | a, p :: r => a ≤ p ∧ gap n (p + n) r
theorem gap_le {n : Nat} : ∀ {a : Nat} {P : List Nat}, gap n a P → ∀ i ∈ P, a ≤ i
  | _, [], _, i, h => nomatch h
  | a, p :: r, g, i, h => by
    rcases List.mem_cons.mp h with e | e
    · rw [e]; exact g.1
    · have := gap_le g.2 i e
      have := g.1
      omega
theorem occ_go (s sub : Str) (hi limit : Nat) (hn : 1 ≤ sub.length) : ∀ (m a : Nat) (found : Array Nat) (free : Nat) (P : List Nat), gap sub.length free P → (∀ i ∈ P, a ≤ i ∧ i < a + m) →
    (∀ i, a ≤ i → ((free ≤ i ∧ At s sub hi i) ↔ i ∈ P)) →
    (forIn (List.range' a m) (found, free) (occBody s sub hi limit)).run.fst.toList = found.toList ++ P.take (limit - found.size)
  | 0, a, found, free, P, g, hb, hm => by
    have : P = [] := by
      cases P with
      | nil => rfl
      | cons p r => have := hb p List.mem_cons_self; omega
    subst this
    simp
  | m + 1, a, found, free, P, g, hb, hm => by
    rw [List.range'_succ, List.forIn_cons]
    unfold occBody
    by_cases hl : found.size < limit
    · by_cases ha : a ∈ P
      · obtain ⟨h1, h2, h3⟩ := (hm a (Nat.le_refl _)).mpr ha
        rw [if_pos ⟨⟨⟨hl, h1⟩, h2⟩, h3⟩]
        obtain ⟨P', rfl⟩ : ∃ P', P = a :: P' := by
          cases P with
          | nil => cases ha
          | cons p r =>
            rcases List.mem_cons.mp ha with e | e
            · exact ⟨r, by rw [e]⟩
            · have := gap_le g.2 a e
              have := (hb p List.mem_cons_self).1
              omega
        have ih := occ_go s sub hi limit hn m (a + 1) (found.push a) (a + sub.length) P' g.2 (fun i hi' => by
            have z1 := gap_le g.2 i hi'
            have z2 := (hb i (List.mem_cons_of_mem _ hi')).2
            omega) (fun i hi' => by
            constructor
            · rintro ⟨z1, z2⟩
              have := (hm i (by omega)).mp ⟨by omega, z2⟩
              rcases List.mem_cons.mp this with e | e
              · omega
              · exact e
            · intro z
              have z1 := gap_le g.2 i z
              exact ⟨z1, ((hm i (by omega)).mpr (List.mem_cons_of_mem _ z)).2⟩)
        refine Eq.trans ih ?_
        rw [Array.toList_push, Array.size_push, show limit - found.size = (limit - (found.size + 1)) + 1 by omega, List.take_succ_cons, List.append_assoc]
        rfl
      · rw [if_neg fun z => ha ((hm a (Nat.le_refl _)).mp ⟨z.1.1.2, z.1.2, z.2⟩)]
        refine occ_go s sub hi limit hn m (a + 1) found free P g (fun i hi' => ?_) (fun i hi' => hm i (by omega))
        have z := hb i hi'
        have : i ≠ a := fun e => ha (by rw [← e]; exact hi')
        omega
    · rw [if_neg fun z => hl z.1.1.1]
      have e0 : limit - found.size = 0 := by omega
      have ih : ∀ (l : List Nat) (st : Array Nat × Nat), ¬ st.fst.size < limit → (forIn l st (occBody s sub hi limit)).run.fst = st.fst := by
        intro l
        induction l with
        | nil => intro st _; rfl
        | cons x l ih =>
          intro st hst
          rw [List.forIn_cons]
          unfold occBody
          rw [if_neg fun z => hst z.1.1.1]
          exact ih _ hst
      have := ih (List.range' (a + 1) m) (found, free) hl
      refine Eq.trans (congrArg Array.toList this) ?_
      rw [e0]; simp
theorem occ_is (x y : Str) (limit : Nat) (P : List Nat) (hn : 1 ≤ y.length) (g : gap y.length 0 P) (hm : ∀ i, At x y x.length i ↔ i ∈ P) : occurrences x y 0 x.length limit = P.take limit := by
  rw [occ_eq]
  have := occ_go x y x.length limit hn (x.length + 1 - 0) 0 #[] 0 P g (fun i hi => by
    have := ((hm i).mpr hi).1
    omega) (fun i _ => by rw [← hm i]; simp)
  simpa using this
/-! the places where a joined text was joined -/
noncomputable def jl (y : List Nat) : List (List Nat) → List Nat
  | [] => []
  | [p] => p
  | p :: q :: r => p ++ y ++ jl y (q :: r)
noncomputable def pos (n : Nat) : Nat → List (List Nat) → List Nat
  | _, [] => []
  | _, [_] => []
  | a, p :: q :: r => (a + p.length) :: pos n (a + p.length + n) (q :: r)
theorem pos_gap (n : Nat) : ∀ (a : Nat) (ps : List (List Nat)), gap n a (pos n a ps)
  | _, [] => True.intro
  | _, [_] => True.intro
  | a, p :: q :: r => ⟨Nat.le_add_right _ _, pos_gap n _ (q :: r)⟩
theorem c_at {y : List Nat} {c o : Nat} (ho : ∀ j, y[j]? = some c → j = o) : ∀ (ps : List (List Nat)) (a j : Nat), (∀ p ∈ ps, c ∉ p) → (jl y ps)[j]? = some c → ∃ i ∈ pos y.length a ps, a + j = i + o
  | [], a, j, _, e => by simp [jl] at e
  | [p], a, j, hp, e => absurd (List.mem_of_getElem? e) (hp p List.mem_cons_self)
  | p :: q :: r, a, j, hp, e => by
    have e : (p ++ y ++ jl y (q :: r))[j]? = some c := e
    by_cases h1 : j < p.length
    · rw [List.append_assoc, List.getElem?_append_left h1] at e
      exact absurd (List.mem_of_getElem? e) (hp p List.mem_cons_self)
    · by_cases h2 : j < p.length + y.length
      · rw [List.append_assoc, List.getElem?_append_right (by omega), List.getElem?_append_left (by omega)] at e
        have := ho _ e
        exact ⟨a + p.length, List.mem_cons_self, by omega⟩
      · rw [List.getElem?_append_right (by rw [List.length_append]; omega), List.length_append] at e
        obtain ⟨i, hi, ei⟩ := c_at ho (q :: r) (a + p.length + y.length) _ (fun z hz => hp z (List.mem_cons_of_mem _ hz)) e
        exact ⟨i, List.mem_cons_of_mem _ hi, by omega⟩
theorem at_pos {y : List Nat} : ∀ (ps : List (List Nat)) (a i : Nat), i ∈ pos y.length a ps → a ≤ i ∧ i - a + y.length ≤ (jl y ps).length ∧ ((jl y ps).drop (i - a)).take y.length = y
  | [], _, _, h => nomatch h
  | [_], _, _, h => nomatch h
  | p :: q :: r, a, i, h => by
    show a ≤ i ∧ i - a + y.length ≤ (p ++ y ++ jl y (q :: r)).length ∧ ((p ++ y ++ jl y (q :: r)).drop (i - a)).take y.length = y
    rcases List.mem_cons.mp h with e | e
    · subst e
      rw [List.length_append, List.length_append, show a + p.length - a = p.length by omega]
      refine ⟨by omega, by omega, ?_⟩
      rw [List.append_assoc, List.drop_left, List.take_left]
    · obtain ⟨z1, z2, z3⟩ := at_pos (q :: r) (a + p.length + y.length) i e
      rw [List.length_append, List.length_append]
      refine ⟨by omega, by omega, ?_⟩
      rw [show i - a = (p ++ y).length + (i - (a + p.length + y.length)) by rw [List.length_append]; omega, ← List.drop_drop, List.drop_left]
      exact z3
theorem join_list (y : Str) : ∀ ps : List Str, (Str.join y ps).cps.toList = jl y.cps.toList (ps.map fun p => p.cps.toList)
  | [] => rfl
  | [p] => rfl
  | p :: q :: r => by
    show (p ++ y ++ Str.join y (q :: r)).cps.toList = p.cps.toList ++ y.cps.toList ++ jl y.cps.toList ((q :: r).map fun p => p.cps.toList)
    rw [← join_list y (q :: r)]
    simp [Str.cps_append]
theorem len_list (x : Str) : x.cps.toList.length = x.length := by simp [Str.length]
structure Sep (y : Str) (c o : Nat) : Prop where
  at' : y.cps.toList[o]? = some c
  one : ∀ j, y.cps.toList[j]? = some c → j = o
theorem Sep.pos {y : Str} {c o : Nat} (S : Sep y c o) : 1 ≤ y.length := by
  have := (List.getElem?_eq_some_iff.mp S.at').1
  rw [len_list] at this; omega
theorem at_iff {y : Str} {c o : Nat} (S : Sep y c o) (ps : List Str) (hp : ∀ p ∈ ps, c ∉ p.cps.toList) (i : Nat) : At (Str.join y ps) y (Str.join y ps).length i ↔ i ∈ pos y.length 0 (ps.map fun p => p.cps.toList) := by
  have hL := join_list y ps
  have hy := len_list y
  constructor
  · rintro ⟨h1, h2⟩
    rw [subAt_eq] at h2
    have h2 := eq_of_beq h2
    have hc : (jl y.cps.toList (ps.map fun p => p.cps.toList))[i + o]? = some c := by
      have z := S.at'
      rw [← h2, List.getElem?_take] at z
      split at z
      · rw [List.getElem?_drop] at z
        rw [← hL]; exact z
      · cases z
    obtain ⟨j, hj, e⟩ := c_at S.one (ps.map fun p => p.cps.toList) 0 (i + o) (fun q hq => by
      obtain ⟨p, h, rfl⟩ := List.mem_map.mp hq
      exact hp p h) hc
    have : i = j := by omega
    rw [this, ← hy]; exact hj
  · intro h
    rw [← hy] at h
    obtain ⟨z1, z2, z3⟩ := at_pos _ 0 i h
    rw [← hL] at z2 z3
    have hz := len_list (Str.join y ps)
    refine ⟨by omega, ?_⟩
    rw [subAt_eq, ← hy]
    simpa using z3
theorem occ_join {y : Str} {c o : Nat} (S : Sep y c o) (ps : List Str) (hp : ∀ p ∈ ps, c ∉ p.cps.toList) (limit : Nat) :
    occurrences (Str.join y ps) y 0 (Str.join y ps).length limit = (pos y.length 0 (ps.map fun p => p.cps.toList)).take limit :=
  occ_is _ _ _ _ S.pos (pos_gap _ _ _) (at_iff S ps hp)
theorem sub_list (x : Str) (l : List Nat) (i j : Nat) (h : (x.cps.toList.drop i).take (j - i) = l) : strSub x i j = ⟨l.toArray⟩ := by
  apply Str.ext'
  apply Array.toList_inj.mp
  rw [strSub_toList, h]
theorem parts_of {y : List Nat} (x : Str) : ∀ (ps : List (List Nat)) (a : Nat), ps ≠ [] → x.cps.toList.drop a = jl y ps → a ≤ x.length → partsFrom x y.length a (pos y.length a ps) = ps.map fun p => ⟨p.toArray⟩
  | [], _, h, _, _ => absurd rfl h
  | [p], a, _, e, ha => by
    show [strSub x a x.length] = [⟨p.toArray⟩]
    rw [sub_list x p a x.length (by
      rw [e]
      show p.take _ = p
      have := congrArg List.length e
      rw [List.length_drop, len_list] at this
      have e2 : (jl y [p]).length = p.length := rfl
      rw [e2] at this
      rw [this]; exact List.take_length)]
  | p :: q :: r, a, _, e, ha => by
    have e : x.cps.toList.drop a = p ++ y ++ jl y (q :: r) := e
    show strSub x a (a + p.length) :: partsFrom x y.length (a + p.length + y.length) (pos y.length (a + p.length + y.length) (q :: r)) = ⟨p.toArray⟩ :: ((q :: r).map fun p => ⟨p.toArray⟩)
    have l1 := congrArg List.length e
    rw [List.length_drop, len_list, List.length_append, List.length_append] at l1
    rw [sub_list x p a (a + p.length) (by rw [e, show a + p.length - a = p.length by omega, List.append_assoc, List.take_left])]
    rw [parts_of x (q :: r) (a + p.length + y.length) (by simp) (by
      rw [show a + p.length + y.length = a + (p ++ y).length by rw [List.length_append]; omega, ← List.drop_drop, e, List.drop_left]) (by omega)]
theorem back (ps : List Str) : (ps.map fun p => p.cps.toList).map (fun p => (⟨p.toArray⟩ : Str)) = ps := by
  rw [List.map_map]
  have : ∀ p : Str, ((fun p => (⟨p.toArray⟩ : Str)) ∘ fun p : Str => p.cps.toList) p = p := fun p => rfl
  rw [List.map_congr_left (fun p _ => this p), List.map_id']
theorem kind_pos (x : Str) : 1 ≤ Builtin.Str.strKind x := by unfold Builtin.Str.strKind; split <;> (try split) <;> decide
theorem pos_nil {n a : Nat} : ∀ {ps : List (List Nat)}, pos n a ps = [] → ps = [] ∨ ∃ p, ps = [p]
  | [], _ => .inl rfl
  | [p], _ => .inr ⟨p, rfl⟩
theorem split_join {y : Str} {c o : Nat} (S : Sep y c o) (hk : Builtin.Str.strKind y = 1) (ps : List Str) (h0 : ps ≠ []) (hp : ∀ p ∈ ps, c ∉ p.cps.toList) : Txt.split (Str.join y ps) y = ps := by
  have hP : occurrences (Str.join y ps) y 0 (Str.join y ps).length ((Str.join y ps).length + 1) = pos y.length 0 (ps.map fun p => p.cps.toList) := by
    have h1 := occ_join S ps hp ((Str.join y ps).length + 1)
    have h2 := occ_join S ps hp (((Str.join y ps).length + 1) + (pos y.length 0 (ps.map fun p => p.cps.toList)).length)
    rw [List.take_of_length_le (Nat.le_add_left _ _)] at h2
    have h3 := occ_length_le_len (Str.join y ps) y 0 (Str.join y ps).length (((Str.join y ps).length + 1) + (pos y.length 0 (ps.map fun p => p.cps.toList)).length)
    rw [h2] at h3
    rw [h1, List.take_of_length_le (by omega)]
  have one : pos y.length 0 (ps.map fun p => p.cps.toList) = [] → Str.join y ps = ps.headD Str.empty ∧ [ps.headD Str.empty] = ps := fun e => by
    rcases pos_nil e with z | ⟨p, z⟩
    · exact absurd (List.map_eq_nil_iff.mp z) h0
    · match ps, z with
      | [q], _ => exact ⟨rfl, rfl⟩
  unfold Txt.split
  by_cases hs : (decide ((Str.join y ps).length < y.length) || decide (Builtin.Str.strKind (Str.join y ps) < Builtin.Str.strKind y)) = true
  · rw [if_pos hs]
    have hlt : (Str.join y ps).length < y.length := by
      rw [hk] at hs
      have := kind_pos (Str.join y ps)
      rcases Bool.or_eq_true_iff.mp hs with z | z
      · exact of_decide_eq_true z
      · have := of_decide_eq_true z; omega
    have e : pos y.length 0 (ps.map fun p => p.cps.toList) = [] := by
      cases hq : pos y.length 0 (ps.map fun p => p.cps.toList) with
      | nil => rfl
      | cons i r =>
        have := ((at_iff S ps hp i).mpr (by rw [hq]; exact List.mem_cons_self)).1
        omega
    rw [(one e).1]; exact (one e).2
  · rw [if_neg hs, hP]
    by_cases he : (pos y.length 0 (ps.map fun p => p.cps.toList)).isEmpty = true
    · rw [if_pos he]
      have e := List.isEmpty_iff.mp he
      rw [(one e).1]; exact (one e).2
    · rw [if_neg he, partsBetween_eq]
      have z := parts_of (y := y.cps.toList) (Str.join y ps) (ps.map fun p => p.cps.toList) 0 (by simpa using h0) (by rw [List.drop_zero]; exact join_list y ps) (Nat.zero_le _)
      rw [len_list, back] at z
      exact z
theorem part_one {y : Str} {c o : Nat} (S : Sep y c o) (p : Str) (hp : c ∉ p.cps.toList) : Txt.partition p y = (p, Str.empty, Str.empty) := by
  have h1 := occ_join S [p] (fun q hq => by rw [List.mem_singleton.mp hq]; exact hp) 1
  unfold Txt.partition
  rw [show Str.join y [p] = p from rfl] at h1
  rw [h1]; rfl
end My

/-! LOOPS; TEXTS AS LISTS OF SIGNS -/
namespace My
open DL PySem
theorem forD_nx {tg : FG} {body : FS} {d : D} {ds : List D} {δ δ1 δ2 : DSt} (h1 : tg.run d δ = some δ1) (h2 : body δ1 = some (.nx δ2)) : forD tg body (d :: ds) δ = forD tg body ds δ2 := by
  show (tg.run d δ).bind _ = _
  rw [h1, Option.bind_some, h2, Option.bind_some]
theorem forD_rt {tg : FG} {body : FS} {d : D} {ds : List D} {δ δ1 : DSt} {sv : SV} (h1 : tg.run d δ = some δ1) (h2 : body δ1 = some (.rt sv)) : forD tg body (d :: ds) δ = some (.rt sv) := by
  show (tg.run d δ).bind _ = _
  rw [h1, Option.bind_some, h2, Option.bind_some]
/-! texts as lists -/
noncomputable abbrev S (l : List Nat) : Str := ⟨l.toArray⟩
theorem S_len (l : List Nat) : (S l).length = l.length := by show l.toArray.size = _; simp
theorem S_app (a b : List Nat) : S a ++ S b = S (a ++ b) := by
  show (⟨a.toArray ++ b.toArray⟩ : Str) = ⟨(a ++ b).toArray⟩
  simp
theorem S_inj {a b : List Nat} (h : S a = S b) : a = b := by
  have : a.toArray = b.toArray := congrArg Str.cps h
  simpa using this
theorem S_of (x : Str) : x = S x.cps.toList := by cases x; simp
theorem S_list (l : List Nat) : (S l).cps.toList = l := by simp
theorem at_nat {α : Type} (p : List α) (i : Nat) (c : α) (h : p[i]? = some c) : L2.atI p (i : Int) = some c := by
  have hl := (List.getElem?_eq_some_iff.mp h).1
  unfold L2.atI L2.ixN
  rw [if_pos (by omega), if_pos (by omega)]
  simpa using h
/-! dicts -/
section
variable {κ : Type} [DecidableEq κ]
end
end My

/-! RANGES, LISTS OF TEXTS -/
namespace My
open DL PySem
noncomputable abbrev nats (s n : Nat) : List D := (List.range' s n).map fun i : Nat => D.int (i : Int)
theorem ints_nats (n : Nat) : intsD 0 n = nats 0 n := by
  unfold intsD
  rw [List.range_eq_range']
  refine List.map_congr_left fun i _ => ?_
  simp
noncomputable def enumF (i : Nat) : List D → List D
  | [] => []
  | x :: r => .tup [.int (i : Int), x] :: enumF (i + 1) r
theorem enum_F (xs : List D) : ∀ i : Nat, ((xs.zipIdx i).map fun p : D × Nat => D.tup [.int (p.2 : Nat), p.1]) = enumF i xs := by
  induction xs with
  | nil => intro i; rfl
  | cons x r ih => intro i; rw [List.zipIdx_cons, List.map_cons, ih]; rfl
theorem enumL_F (xs : List D) : enumL xs = enumF 0 xs := enum_F xs 0
theorem eqM_lst (n : Nat) (xs : List D) (h : ∀ x ∈ xs, eqM n x x = some true) : eqM (n + 1) (.lst xs) (.lst xs) = some true := by
  simp [eqAll_refl xs h]
theorem eqM_str (n : Nat) (x : Str) : eqM (n + 1) (.str x) (.str x) = some true := by simp
theorem eqM_strs (n : Nat) (r : List Str) : eqM (n + 2) (.lst (r.map D.str)) (.lst (r.map D.str)) = some true := eqM_lst _ _ fun x hx => by
  obtain ⟨t, _, rfl⟩ := List.mem_map.mp hx
  exact eqM_str n t
theorem cut_to (xs : List D) (m : Nat) (h : m ≤ xs.length) : cutD xs none (some (m : Int)) = xs.take m := by
  unfold cutD HT.sIx
  dsimp only
  rw [if_neg (by omega), List.drop_zero]
  congr 1
  omega
theorem cut_from (xs : List D) (m : Nat) (h : m ≤ xs.length) : cutD xs (some (m : Int)) none = xs.drop m := by
  unfold cutD HT.sIx
  dsimp only
  rw [if_neg (by omega), show min ((m : Int)).toNat xs.length = m by omega]
  rw [List.take_of_length_le (by rw [List.length_drop]; omega)]
theorem at_mod {α : Type} (l : List α) (x n : Int) (hl : (l.length : Int) = n) (hn : 0 < n) : ∃ c, c ∈ l ∧ L2.atI l (x % n) = some c := by
  have h0 : 0 ≤ x % n := Int.emod_nonneg _ (by omega)
  have h1 : x % n < n := Int.emod_lt_of_pos _ hn
  obtain ⟨j, hj⟩ := Int.eq_ofNat_of_zero_le h0
  have hjl : j < l.length := by omega
  rw [hj]
  exact ⟨l[j], List.getElem_mem hjl, at_nat _ _ _ (List.getElem?_eq_getElem hjl)⟩
end My

/-! CUT AT THE FIRST PLACE; JOINED TEXTS -/
namespace My
open DL PySem StrLaws Builtin.Str
theorem exists_join (c : Nat) : ∀ l : List Nat, ∃ qs : List Str, qs ≠ [] ∧ (∀ p ∈ qs, c ∉ p.cps.toList) ∧ S l = Str.join (S [c]) qs
  | [] => ⟨[S []], by simp, by simp, rfl⟩
  | d :: l => by
    obtain ⟨qs, h1, h2, h3⟩ := exists_join c l
    have e : S (d :: l) = S [d] ++ S l := (S_app [d] l).symm
    cases qs with
    | nil => exact absurd rfl h1
    | cons q r =>
      by_cases hd : d = c
      · subst hd
        refine ⟨S [] :: q :: r, by simp, fun p hp => ?_, ?_⟩
        · rcases List.mem_cons.mp hp with hp | hp
          · rw [hp]; simp
          · exact h2 p hp
        · show S (d :: l) = S [] ++ S [d] ++ Str.join (S [d]) (q :: r)
          rw [← h3, e, S_app [] [d]]
          rfl
      · refine ⟨(S [d] ++ q) :: r, by simp, fun p hp => ?_, ?_⟩
        · rcases List.mem_cons.mp hp with hp | hp
          · rw [hp]
            have : (S [d] ++ q).cps.toList = d :: q.cps.toList := by simp [Str.cps_append]
            rw [this, List.mem_cons]
            exact fun z => z.elim (fun z => hd z.symm) (h2 q List.mem_cons_self)
          · exact h2 p (List.mem_cons_of_mem _ hp)
        · rw [e, h3]
          cases r with
          | nil => rfl
          | cons q2 r =>
            show S [d] ++ (q ++ S [c] ++ Str.join (S [c]) (q2 :: r)) = (S [d] ++ q) ++ S [c] ++ Str.join (S [c]) (q2 :: r)
            simp only [Str.append_assoc]
theorem sep_one (c : Nat) : Sep (S [c]) c 0 := ⟨by simp, fun j h => by
  cases j with
  | zero => rfl
  | succ j => simp at h⟩
theorem part_first (c : Nat) (p q : Str) (hp : c ∉ p.cps.toList) : Txt.partition (p ++ S [c] ++ q) (S [c]) = (p, S [c], q) := by
  have SS := sep_one c
  obtain ⟨qs, hq1, hq2, hq3⟩ := exists_join c q.cps.toList
  rw [← S_of q] at hq3
  have h1 := occ_join SS (p :: qs) (fun z hz => by
    rcases List.mem_cons.mp hz with e | e
    · rw [e]; exact hp
    · exact hq2 z e) 1
  obtain ⟨q1, r, hqr⟩ : ∃ q1 r, qs = q1 :: r := by
    cases qs with
    | nil => exact absurd rfl hq1
    | cons q1 r => exact ⟨q1, r, rfl⟩
  have ej : Str.join (S [c]) (p :: qs) = p ++ S [c] ++ q := by
    rw [hq3, hqr]; rfl
  rw [ej] at h1
  have e : (pos (S [c]).length 0 ((p :: qs).map fun p => p.cps.toList)).take 1 = [p.length] := by
    rw [hqr]
    show [0 + p.cps.toList.length] = [p.length]
    rw [len_list, Nat.zero_add]
  rw [e] at h1
  have eL : (p ++ S [c] ++ q).cps.toList = p.cps.toList ++ (S [c]).cps.toList ++ q.cps.toList := by simp [Str.cps_append]
  have hl : (p ++ S [c] ++ q).length = p.length + (S [c]).length + q.length := by rw [app_len, app_len]
  unfold Txt.partition
  rw [h1]
  have a1 := sub_list (p ++ S [c] ++ q) p.cps.toList 0 p.length (by rw [List.drop_zero, Nat.sub_zero, eL, List.append_assoc, ← len_list p, List.take_left])
  have a2 := sub_list (p ++ S [c] ++ q) q.cps.toList (p.length + (S [c]).length) (p ++ S [c] ++ q).length (by
    rw [eL, hl, show p.length + (S [c]).length = (p.cps.toList ++ (S [c]).cps.toList).length by rw [List.length_append, len_list, len_list], List.drop_left]
    exact List.take_of_length_le (by rw [len_list]; omega))
  show (strSub (p ++ S [c] ++ q) 0 p.length, S [c], strSub (p ++ S [c] ++ q) (p.length + (S [c]).length) (p ++ S [c] ++ q).length) = (p, S [c], q)
  rw [a1, a2]
theorem join_cons (y x : Str) : ∀ xs : List Str, Str.join y (x :: xs) = x ++ cat (xs.map fun z => y ++ z)
  | [] => by show x = x ++ Str.empty; rw [Str.append_empty]
  | z :: r => by
    show x ++ y ++ Str.join y (z :: r) = x ++ (y ++ z ++ cat (r.map fun z => y ++ z))
    rw [join_cons y z r]
    simp only [Str.append_assoc]
theorem cat_app : ∀ a b : List Str, cat (a ++ b) = cat a ++ cat b
  | [], b => by show cat b = Str.empty ++ cat b; rw [Str.empty_append]
  | x :: a, b => by show x ++ cat (a ++ b) = (x ++ cat a) ++ cat b; rw [cat_app a b, Str.append_assoc]
end My

/-! DICTS WITH TEXTS AS KEYS -/
namespace My
open DL PySem
noncomputable abbrev inrs (xs : List Str) : List L2.Key := xs.map Sum.inr
structure Dic (xs : List Str) (vs : List D) : Prop where
  nd : xs.Nodup
  len : xs.length = vs.length
end My

/-! each second thing of a list -/
namespace My
open DL PySem PySem.Spec PyProof.Rows L2
noncomputable def ev {α : Type} : List α → List α
  | [] => []
  | [a] => [a]
  | a :: _ :: r => a :: ev r
theorem pick_ev {α : Type} : ∀ (m : Nat) (xs : List α), xs.length ≤ 2 * m → ((List.range m).map fun k => 2 * k).filterMap (xs[·]?) = ev xs
  | 0, xs, h => by
    have : xs = [] := List.eq_nil_of_length_eq_zero (by omega)
    subst this; rfl
  | m + 1, xs, h => by
    rw [List.range_succ_eq_map, List.map_cons, List.map_map]
    match xs, h with
    | [], _ => simp [ev]
    | [a], _ =>
      show a :: List.filterMap (fun x => [a][x]?) (List.map ((fun k => 2 * k) ∘ Nat.succ) (List.range m)) = _
      have : List.filterMap (fun x => [a][x]?) (List.map ((fun k => 2 * k) ∘ Nat.succ) (List.range m)) = [] := by
        rw [List.filterMap_eq_nil_iff]
        intro x hx
        obtain ⟨k, _, rfl⟩ := List.mem_map.mp hx
        show [a][2 * (k + 1)]? = none
        rw [List.getElem?_eq_none_iff]; simp; omega
      rw [this]; rfl
    | a :: b :: r, h =>
      show a :: List.filterMap (fun x => (a :: b :: r)[x]?) (List.map ((fun k => 2 * k) ∘ Nat.succ) (List.range m)) = _
      have ih := pick_ev m r (by simp at h; omega)
      have : List.filterMap (fun x => (a :: b :: r)[x]?) (List.map ((fun k => 2 * k) ∘ Nat.succ) (List.range m)) = ev r := by
        rw [← ih, List.filterMap_map, List.filterMap_map]
        congr 1
      rw [this]; rfl
theorem pickL_ev {α : Type} (xs : List α) : pickL xs none none (some 2) = ev xs := by
  unfold pickL
  have e1 : (sliceBounds none none (some 2) xs.length) = (0, (xs.length : Int), 2) := rfl
  rw [e1]
  dsimp only
  have e2 : sliceRange 0 (xs.length : Int) 2 = (List.range ((xs.length + 1) / 2)).map fun k => 2 * k := by
    unfold sliceRange
    rw [if_pos (by decide)]
    by_cases h : xs.length = 0
    · rw [h]; rfl
    · rw [if_pos (by omega)]
      dsimp only
      rw [show (((xs.length : Int) - 0 + 2 - 1) / 2).toNat = (xs.length + 1) / 2 by omega]
      refine List.map_congr_left fun k _ => ?_
      omega
  rw [e2]
  exact pick_ev _ xs (by omega)
theorem ev_cons {α β : Type} (f g : α → β) (b : β) : ∀ xs : List α, ev (b :: xs.flatMap fun x => [f x, g x]) = b :: xs.map g
  | [] => rfl
  | x :: xs => by
    show b :: ev (g x :: xs.flatMap fun x => [f x, g x]) = _
    rw [ev_cons f g (g x) xs]; rfl
end My

noncomputable section
namespace Gen
open PySem PySem.Spec PyProof.Rows L2 DL
/-! the text by places -/
noncomputable def top (i : Nat) : Stmt := PySem.Challenge.pw_citeward_k28_what_is_no_text.main.body.getD i (.Pass ⟨0, 0, 0, 0⟩)
noncomputable abbrev FUEL : Nat := 1000
noncomputable abbrev st_law_parts : Stmt := top 30
noncomputable abbrev st_law_spoiled : Stmt := top 32
noncomputable abbrev st_is_all_of : Stmt := top 16
noncomputable abbrev st_angled : Stmt := top 20
noncomputable abbrev st_is_text_of : Stmt := top 17
noncomputable abbrev st_is_name : Stmt := top 18
noncomputable abbrev st_is_plain : Stmt := top 19
noncomputable abbrev st_read_point : Stmt := top 23
noncomputable abbrev st_read_text : Stmt := top 22
noncomputable abbrev st_law_refused : Stmt := top 33
noncomputable abbrev st_law_cell_at : Stmt := top 29
noncomputable abbrev st_point_keys : Stmt := top 26
noncomputable abbrev st_note_keys : Stmt := top 27
noncomputable abbrev st_show_point : Stmt := top 25
noncomputable abbrev st_show_text : Stmt := top 24
noncomputable abbrev st_law_keys : Stmt := top 31
noncomputable abbrev st_law : Stmt := top 34
/-! what each def tells -/
noncomputable def f_law_parts : FS :=
  seqF (setF 1 (lstF (textsF ["", "so; ", "<ab>", "<ab 12>", "it: <c> and <ab>", "<ab><ab>", "\n<zzzzzzzz p. 3>", "(x)"] (dispNil)))) (retF (lstF (dispCons (binF ixX (nameF 1) (binF modD (nameF 0) (constF (.int 8)))) (dispCons (binF ixX (nameF 1) (binF modD (binF fdivD (nameF 0) (constF (.int 8))) (constF (.int 8)))) (dispCons (binF ixX (nameF 1) (binF modD (binF fdivD (nameF 0) (constF (.int 64))) (constF (.int 8)))) (dispNil))))))
noncomputable def g_law_parts : List D → Option SV := outOf f_law_parts 2
noncomputable def f_law_spoiled : FS :=
  seqF (setF 2 (binF fdivD (nameF 1) (constF (.int 3)))) (seqF (ifS (testF (binF eqY (binF modD (nameF 1) (constF (.int 3))) (constF (.int 0)))) (seqF (setF 3 (binF modD (binF fdivD (nameF 2) (constF (.int 12))) (constF (.int 4)))) (seqF (setF 4 (binF ixX (constF (.str ">^@#~_\"$\\\t{[")) (binF modD (nameF 2) (constF (.int 12))))) (retF (binF addD (binF addD (bmF "str" joinXD (constF (.str "")) (argCons (slF slD (nameF 0) (noPart) (partF (nameF 3))) argNil)) (nameF 4)) (bmF "str" joinXD (constF (.str "")) (argCons (slF slD (nameF 0) (partF (nameF 3)) (noPart)) argNil)))))) (nextF)) (seqF (setF 5 (lstF (textsF ["<", "<>", "< >", "<A>", "<ab", "<ab 12", "<ab >", "< ab>", "<abcdefghi>", "<a1>", "<ab 1\n>", "<ab 1^>"] (dispNil)))) (seqF (setF 5 (binF addD (nameF 5) (lstF (textsF ["<ab <c>>", "<ab:>"] (dispCons (binF addD (binF addD (constF (.str "<ab ")) (binF mulZ (constF (.str "x")) (constF (.int 81)))) (constF (.str ">"))) (textsF ["<ab;c>", "<a b <", "<-> x", "<ab|c>"] (dispNil))))))) (seqF (ifS (testF (binF eqY (binF modD (nameF 1) (constF (.int 3))) (constF (.int 1)))) (retF (binF addD (bmF "str" joinXD (constF (.str "")) (argCons (nameF 0) argNil)) (binF ixX (nameF 5) (binF modD (nameF 2) (constF (.int 19)))))) (nextF)) (retF (binF addD (binF addD (binF addD (binF ixX (nameF 5) (binF modD (nameF 2) (constF (.int 19)))) (constF (.str "("))) (bmF "str" joinXD (constF (.str "")) (argCons (nameF 0) argNil))) (constF (.str ")"))))))))
noncomputable def g_law_spoiled : List D → Option SV := outOf f_law_spoiled 6
noncomputable def e_is_all_of_1 : FE :=
  binF inZ (nameF 0) (nameF 1)
noncomputable def f_is_all_of : FS :=
  retF (primF allD (argCons (compF [.own, .cap 1, .acc] 2 (anyI (nameF 0)) (gNameF 0) (trueT) e_is_all_of_1) argNil))
noncomputable def g_is_all_of : List D → Option SV := outOf f_is_all_of 2
noncomputable def b_angled_1 : FS :=
  seqF (setF 5 (bmF "str" partitionD (nameF 4) (argCons (constF (.str ">")) argNil))) (seqF (ifS (testF (binF eqY (binF ixX (nameF 5) (constF (.int 1))) (constF (.str "")))) (retF (constF .non)) (nextF)) (extF 3 (lstF (dispCons (binF ixX (nameF 5) (constF (.int 0))) (dispCons (binF ixX (nameF 5) (constF (.int 2))) (dispNil))))))
noncomputable def f_angled : FS :=
  seqF (setF 2 (bmF "str" splitD (nameF 0) (argCons (constF (.str "<")) argNil))) (seqF (setF 3 (lstF (dispCons (binF ixX (nameF 2) (constF (.int 0))) (dispNil)))) (seqF (forF (anyI (slF slD (nameF 2) (partF (constF (.int 1))) (noPart))) (gNameF 4) b_angled_1) (retF (ifF (testF (callF 2 g_is_all_of (argCons (bmF "str" joinXD (constF (.str "")) (argCons (slF3 slD3 (nameF 3) (noPart) (noPart) (partF (constF (.int 2)))) argNil)) (argCons (nameF 1) (argNil))))) (nameF 3) (constF .non)))))
noncomputable def g_angled : List D → Option SV := outOf f_angled 6
noncomputable def f_is_text_of : FS :=
  seqF (ifS (notF (testF (unF (isiD "str") (nameF 0)))) (retF (constF (.bl false))) (nextF)) (retF (andV (chainF leD leD (constF (.int 1)) (primF lenD (argCons (nameF 0) argNil)) (nameF 2)) (callF 2 g_is_all_of (argCons (nameF 0) (argCons (nameF 1) (argNil))))))
noncomputable def g_is_text_of : List D → Option SV := outOf f_is_text_of 3
noncomputable def f_is_name : FS :=
  retF (callF 3 g_is_text_of (argCons (nameF 0) (argCons (constF (.str "abcdefghijklmnopqrstuvwxyz")) (argCons (constF (.int 8)) (argNil)))))
noncomputable def g_is_name : List D → Option SV := outOf f_is_name 1
noncomputable def f_is_plain : FS :=
  retF (callF 3 g_is_text_of (argCons (nameF 0) (argCons (constF (.str "ABCDEFGHIJKLMNOPQRSTUVWXYZabcdefghijklmnopqrstuvwxyz0123456789 .,!?'-/()&+*=")) (argCons (constF (.int 80)) (argNil)))))
noncomputable def g_is_plain : List D → Option SV := outOf f_is_plain 1
noncomputable def f_read_point : FS :=
  seqF (setF 1 (bmF "str" partitionD (nameF 0) (argCons (constF (.str " ")) argNil))) (seqF (ifS (notF (testF (callF 1 g_is_name (argCons (binF ixX (nameF 1) (constF (.int 0))) (argNil))))) (raiseF "NoText") (nextF)) (seqF (ifS (testF (binF eqY (binF ixX (nameF 1) (constF (.int 1))) (constF (.str "")))) (retF (tupF (dispCons (constF (.str "point")) (dispCons (binF ixX (nameF 1) (constF (.int 0))) (dispCons (constF .non) (dispNil)))))) (nextF)) (seqF (ifS (notF (testF (callF 1 g_is_plain (argCons (binF ixX (nameF 1) (constF (.int 2))) (argNil))))) (raiseF "NoText") (nextF)) (retF (tupF (dispCons (constF (.str "point")) (dispCons (binF ixX (nameF 1) (constF (.int 0))) (dispCons (binF ixX (nameF 1) (constF (.int 2))) (dispNil)))))))))
noncomputable def h_read_point : List D → Option XO := outX f_read_point 2
noncomputable def g_read_point : List D → Option SV := valG h_read_point
noncomputable def b_read_text_1 : FS :=
  ifS (testF (binF eqY (binF modD (nameF 3) (constF (.int 2))) (constF (.int 1)))) (appX 2 (callX 1 h_read_point (argConsX (pureX (nameF 4)) (argNilX)))) (ifS (testF (binF neY (nameF 4) (constF (.str "")))) (appF 2 (nameF 4)) (nextF))
noncomputable def f_read_text : FS :=
  seqF (ifS (notF (testF (unF (isiD "str") (nameF 0)))) (raiseF "NoText") (nextF)) (seqF (setF 1 (callF 2 g_angled (argCons (nameF 0) (argCons (binF addD (constF (.str "ABCDEFGHIJKLMNOPQRSTUVWXYZabcdefghijklmnopqrstuvwxyz0123456789 .,!?'-/()&+*=:;")) (constF (.str "\n"))) (argNil))))) (seqF (ifS (testF (binF isND (nameF 1) (constF .non))) (raiseF "NoText") (nextF)) (seqF (setF 2 (lstF (dispNil))) (seqF (forF (enumXI (dispCons (nameF 1) dispNil)) (gTupF 2 (gConsF (gNameF 3) (gConsF (gNameF 4) (gNilF)))) b_read_text_1) (retF (nameF 2))))))
noncomputable def h_read_text : List D → Option XO := outX f_read_text 5
noncomputable def g_read_text : List D → Option SV := valG h_read_text
noncomputable def s_law_refused_1 : FS :=
  seqF (setF 1 (andV (unF (isxD ["NoText"] []) (nameF 2)) (unF (isxD ["NoText"] []) (nameF 2)))) (setF 1 (andV (nameF 1) (notV (unF (isxD [] ["NoText"]) (nameF 2)))))
noncomputable def f_law_refused : FS :=
  seqF (setF 1 (constF (.bl false))) (seqF (tryF (dropX (callX 1 h_read_text (argConsX (pureX (nameF 0)) (argNilX)))) [⟨some 2, ["NoText"], [], s_law_refused_1⟩]) (retF (nameF 1)))
noncomputable def g_law_refused : List D → Option SV := outOf f_law_refused 3
noncomputable def f_law_cell_at : FS :=
  seqF (ifS (testF (binF ltD (nameF 1) (primF lenD (argCons (nameF 0) argNil)))) (retF (binF ixX (nameF 0) (nameF 1))) (nextF)) (retF (constF (.int 0)))
noncomputable def g_law_cell_at : List D → Option SV := outOf f_law_cell_at 2
noncomputable def t_point_keys_1 : FT :=
  notF (testF (unF (isiD "str") (nameF 0)))
noncomputable def e_point_keys_2 : FE :=
  binF ixX (nameF 0) (constF (.int 1))
noncomputable def f_point_keys : FS :=
  retF (compF [.own, .acc] 1 (anyI (nameF 0)) (gNameF 0) (t_point_keys_1) e_point_keys_2)
noncomputable def g_point_keys : List D → Option SV := outOf f_point_keys 1
noncomputable def s_note_keys_1 : FS :=
  retF (lstF (dispNil))
noncomputable def f_note_keys : FS :=
  seqF (tryF (setX 1 (callX 1 h_read_text (argConsX (pureX (bmDF "dict" dgetMD (binF ixX (nameF 0) (constF (.int 1))) (dispCons (constF (.str "note")) (dispNil)))) (argNilX)))) [⟨none, ["NoText"], [], s_note_keys_1⟩]) (retF (callF 1 g_point_keys (argCons (nameF 1) (argNil))))
noncomputable def g_note_keys : List D → Option SV := outOf f_note_keys 2
noncomputable def f_show_point : FS :=
  seqF (ifS (testF (binF isND (binF ixX (nameF 0) (constF (.int 2))) (constF .non))) (retF (binF addD (binF addD (constF (.str "<")) (binF ixX (nameF 0) (constF (.int 1)))) (constF (.str ">")))) (nextF)) (retF (binF addD (binF addD (binF addD (binF addD (constF (.str "<")) (binF ixX (nameF 0) (constF (.int 1)))) (constF (.str " "))) (binF ixX (nameF 0) (constF (.int 2)))) (constF (.str ">"))))
noncomputable def g_show_point : List D → Option SV := outOf f_show_point 1
noncomputable def e_show_text_1 : FE :=
  ifF (testF (unF (isiD "str") (nameF 0))) (nameF 0) (callF 1 g_show_point (argCons (nameF 0) (argNil)))
noncomputable def f_show_text : FS :=
  retF (bmF "str" joinXD (constF (.str "")) (argCons (compF [.own, .acc] 1 (anyI (nameF 0)) (gNameF 0) (trueT) e_show_text_1) argNil))
noncomputable def g_show_text : List D → Option SV := outOf f_show_text 1
noncomputable def b_law_keys_1 : FS :=
  seqF (setF 2 (binF addD (nameF 2) (bmDF "dict" dgetMD (nameF 1) (dispCons (nameF 3) (dispCons (lstF (dispNil)) (dispNil)))))) (ifS (testF (binF eqY (nameF 3) (constF (.str "\n<zzzzzzzz p. 3>")))) (appF 2 (constF (.str "zzzzzzzz"))) (nextF))
noncomputable def f_law_keys : FS :=
  seqF (setF 1 (dispNF [("<ab>", lstF (dispCons (constF (.str "ab")) (dispNil))), ("<ab 12>", lstF (dispCons (constF (.str "ab")) (dispNil))), ("it: <c> and <ab>", lstF (textsF ["c", "ab"] (dispNil))), ("<ab><ab>", lstF (textsF ["ab", "ab"] (dispNil)))])) (seqF (setF 2 (lstF (dispNil))) (seqF (forF (anyI (nameF 0)) (gNameF 3) b_law_keys_1) (retF (nameF 2))))
noncomputable def g_law_keys : List D → Option SV := outOf f_law_keys 4
noncomputable def b_law_1 : FS :=
  seqF (setF 2 (callF 1 g_law_parts (argCons (binF ixX (nameF 0) (nameF 1)) (argNil)))) (seqF (setF 3 (bmF "str" joinXD (constF (.str "")) (argCons (nameF 2) argNil))) (seqF (setF 4 (callF 2 g_law_spoiled (argCons (nameF 2) (argCons (binF addD (binF fdivD (binF ixX (nameF 0) (nameF 1)) (constF (.int 512))) (nameF 1)) (argNil))))) (seqF (ifS (orF (notF (testF (callF 1 g_law_refused (argCons (nameF 4) (argNil))))) (testF (binF neY (callF 1 g_show_text (argCons (callF 1 g_read_text (argCons (nameF 3) (argNil))) (argNil))) (nameF 3)))) (retF (constF (.bl false))) (nextF)) (seqF (setF 5 (tupF (dispCons (constF (.str "book")) (dispCons (dispNF [("title", constF (.str "So")), ("note", nameF 3)]) (dispNil))))) (ifS (orF (testF (binF neY (callF 1 g_note_keys (argCons (nameF 5) (argNil))) (callF 1 g_law_keys (argCons (nameF 2) (argNil))))) (testF (binF neY (callF 1 g_note_keys (argCons (tupF (dispCons (constF (.str "book")) (dispCons (dispNF [("note", nameF 4), ("in", constF (.str "ab"))]) (dispNil)))) (argNil))) (lstF (dispNil))))) (retF (constF (.bl false))) (nextF))))))
noncomputable def f_law : FS :=
  seqF (forF (rngI (argCons (primF minD (argCons (primF lenD (argCons (nameF 0) argNil)) (argCons (constF (.int 40)) argNil))) argNil)) (gNameF 1) b_law_1) (seqF (setF 6 (binF ixX (lstF (dispCons (constF .non) (dispCons (constF (.int 5)) (dispCons (lstF (dispCons (constF (.str "a")) (dispNil))) (dispCons (tupF (textsF ["point", "ab"] (dispCons (constF .non) (dispNil)))) (dispNil)))))) (binF modD (callF 2 g_law_cell_at (argCons (nameF 0) (argCons (constF (.int 0)) (argNil)))) (constF (.int 4))))) (retF (andV (callF 1 g_law_refused (argCons (nameF 6) (argNil))) (binF eqY (callF 1 g_note_keys (argCons (tupF (dispCons (constF (.str "book")) (dispCons (dispNF [("title", constF (.str "x"))]) (dispNil)))) (argNil))) (lstF (dispNil))))))
noncomputable def g_law : List D → Option SV := outOf f_law 7
end Gen

namespace Gen
open PySem PySem.Spec PyProof.Rows L2 DL
structure Txt (K : PySem.W.Frag) (mg : Str → Option Value) (tNAME_LENGTH : Tok) (tPLAIN_LENGTH : Tok) (tPLAIN_SIGNS : Tok) (tSMALL_LETTERS : Tok) (tSTYLE_SIGNS : Tok) (flaw_parts flaw_spoiled fis_all_of fangled fis_text_of fis_name fis_plain fread_point fread_text flaw_refused flaw_cell_at fpoint_keys fnote_keys fshow_point fshow_text flaw_keys flaw aCiteError aNoHands aNoList aNoName aNoPlain aNoRow aNoStyle aNoText aNoWork : Addr) : Prop where
  x_CiteError : mg "CiteError" = some (.ref aCiteError)
  x_NoHands : mg "NoHands" = some (.ref aNoHands)
  x_NoList : mg "NoList" = some (.ref aNoList)
  x_NoName : mg "NoName" = some (.ref aNoName)
  x_NoPlain : mg "NoPlain" = some (.ref aNoPlain)
  x_NoRow : mg "NoRow" = some (.ref aNoRow)
  x_NoStyle : mg "NoStyle" = some (.ref aNoStyle)
  x_NoText : mg "NoText" = some (.ref aNoText)
  x_NoWork : mg "NoWork" = some (.ref aNoWork)
  n_NoText : ClsIs K "NoText" aNoText
  ek_NoText : ExcKit K aNoText
  ty_NoText : PySem.W.typeIn K (.ref aNoText) = some (.type "type")
  ic_NoText : PySem.W.isClsIn K aNoText = true
  be_NoText : PySem.W.mroIn K aNoText (.type "BaseException") = some true
  h_NoText_NoText : PySem.W.mroIn K aNoText (.ref aNoText) = some true
  q0_NoText : PySem.W.kitOne K (.ref aNoText) (.ref aCiteError) = some true
  q1_NoText : PySem.W.kitOne K (.ref aNoText) (.type "ValueError") = some true
  q2_NoText : PySem.W.kitAny K (.ref aNoText) [Value.ref aNoHands, Value.ref aNoList, Value.ref aNoName, Value.ref aNoPlain, Value.ref aNoRow, Value.ref aNoStyle, Value.ref aNoWork] = some false
  z_ValueError : mg "ValueError" = none
  z_all : mg "all" = none
  z_enumerate : mg "enumerate" = none
  z_isinstance : mg "isinstance" = none
  z_len : mg "len" = none
  z_min : mg "min" = none
  z_range : mg "range" = none
  z_str : mg "str" = none
  c_NAME_LENGTH : mg "NAME_LENGTH" = some (.int 8 tNAME_LENGTH)
  c_PLAIN_LENGTH : mg "PLAIN_LENGTH" = some (.int 80 tPLAIN_LENGTH)
  c_PLAIN_SIGNS : mg "PLAIN_SIGNS" = some (.str "ABCDEFGHIJKLMNOPQRSTUVWXYZabcdefghijklmnopqrstuvwxyz0123456789 .,!?'-/()&+*=" tPLAIN_SIGNS)
  c_SMALL_LETTERS : mg "SMALL_LETTERS" = some (.str "abcdefghijklmnopqrstuvwxyz" tSMALL_LETTERS)
  c_STYLE_SIGNS : mg "STYLE_SIGNS" = some (.str "ABCDEFGHIJKLMNOPQRSTUVWXYZabcdefghijklmnopqrstuvwxyz0123456789 .,!?'-/()&+*=:;" tSTYLE_SIGNS)
  m_law_parts : mg "_law_parts" = some (.ref flaw_parts)
  k_law_parts : PySem.W.keepIn K (.ref flaw_parts) = true
  m_law_spoiled : mg "_law_spoiled" = some (.ref flaw_spoiled)
  k_law_spoiled : PySem.W.keepIn K (.ref flaw_spoiled) = true
  m_is_all_of : mg "is_all_of" = some (.ref fis_all_of)
  k_is_all_of : PySem.W.keepIn K (.ref fis_all_of) = true
  m_angled : mg "angled" = some (.ref fangled)
  k_angled : PySem.W.keepIn K (.ref fangled) = true
  m_is_text_of : mg "is_text_of" = some (.ref fis_text_of)
  k_is_text_of : PySem.W.keepIn K (.ref fis_text_of) = true
  m_is_name : mg "is_name" = some (.ref fis_name)
  k_is_name : PySem.W.keepIn K (.ref fis_name) = true
  m_is_plain : mg "is_plain" = some (.ref fis_plain)
  k_is_plain : PySem.W.keepIn K (.ref fis_plain) = true
  m_read_point : mg "read_point" = some (.ref fread_point)
  k_read_point : PySem.W.keepIn K (.ref fread_point) = true
  m_read_text : mg "read_text" = some (.ref fread_text)
  k_read_text : PySem.W.keepIn K (.ref fread_text) = true
  m_law_refused : mg "_law_refused" = some (.ref flaw_refused)
  k_law_refused : PySem.W.keepIn K (.ref flaw_refused) = true
  m_law_cell_at : mg "_law_cell_at" = some (.ref flaw_cell_at)
  k_law_cell_at : PySem.W.keepIn K (.ref flaw_cell_at) = true
  m_point_keys : mg "point_keys" = some (.ref fpoint_keys)
  k_point_keys : PySem.W.keepIn K (.ref fpoint_keys) = true
  m_note_keys : mg "note_keys" = some (.ref fnote_keys)
  k_note_keys : PySem.W.keepIn K (.ref fnote_keys) = true
  m_show_point : mg "show_point" = some (.ref fshow_point)
  k_show_point : PySem.W.keepIn K (.ref fshow_point) = true
  m_show_text : mg "show_text" = some (.ref fshow_text)
  k_show_text : PySem.W.keepIn K (.ref fshow_text) = true
  m_law_keys : mg "_law_keys" = some (.ref flaw_keys)
  k_law_keys : PySem.W.keepIn K (.ref flaw_keys) = true
  m_law : mg "law" = some (.ref flaw)
  k_law : PySem.W.keepIn K (.ref flaw) = true
section
variable {P : Program} {w : World} {K : PySem.W.Frag} {mg : Str → Option Value} {base : Heap} {tNAME_LENGTH : Tok} {tPLAIN_LENGTH : Tok} {tPLAIN_SIGNS : Tok} {tSMALL_LETTERS : Tok} {tSTYLE_SIGNS : Tok} {flaw_parts flaw_spoiled fis_all_of fangled fis_text_of fis_name fis_plain fread_point fread_text flaw_refused flaw_cell_at fpoint_keys fnote_keys fshow_point fshow_text flaw_keys flaw aCiteError aNoHands aNoList aNoName aNoPlain aNoRow aNoStyle aNoText aNoWork : Addr}
theorem sc_law_parts : FnScope ["_law_cell", "_law_some"] ["_law_cell"] (defScope st_law_parts) := ⟨rfl, rfl, rfl, by decide +kernel, rfl, by decide +kernel, by decide +kernel⟩
theorem ok_law_parts {fd : FuncData} (F : Fun K "_law_parts" "_law_parts" st_law_parts flaw_parts fd) (T : Txt K mg tNAME_LENGTH tPLAIN_LENGTH tPLAIN_SIGNS tSMALL_LETTERS tSTYLE_SIGNS flaw_parts flaw_spoiled fis_all_of fangled fis_text_of fis_name fis_plain fread_point fread_text flaw_refused flaw_cell_at fpoint_keys fnote_keys fshow_point fshow_text flaw_keys flaw aCiteError aNoHands aNoList aNoName aNoPlain aNoRow aNoStyle aNoText aNoWork) :
    FnOk P w K mg base CX0 1 flaw_parts fd ["_law_cell"] (spOf K 1 g_law_parts) := by
  refine F.ok sc_law_parts (fun vs H Q E h => spOf_len h) (fun cdv A outer s H vs Q E hr h => ?_)
  obtain ⟨F0, h⟩ := body_out (N := ["_law_cell", "_law_some"]) (f := f_law_parts) h
  have hu := hu_of hr
  have hv := hr.units
  refine ⟨liftS (ent H F0 : Ent K) f_law_parts, ?_, h⟩
  exact (@ss_cons _ _ _ _ _ _ (@s_set _ _ _ _ _ 1 _ _ sc_law_parts.nd (@e_lst _ _ _ _ _ (@d_texts _ _ _ _ [("", _, _), ("so; ", _, _), ("<ab>", _, _), ("<ab 12>", _, _), ("it: <c> and <ab>", _, _), ("<ab><ab>", _, _), ("\n<zzzzzzzz p. 3>", _, _), ("(x)", _, _)] d_nil)) (by rfl) (by first | exact Or.inl rfl | exact Or.inr rfl) (by rfl) (by first | exact .inl rfl | exact .inr rfl)) (@ss_one _ _ _ _ (@s_ret _ _ _ _ _ (@e_lst _ _ _ _ _ (@d_cons _ _ _ _ _ _ (@e_ixX _ _ _ _ _ _ _ hu (@e_var _ _ 1 _ _ (by rfl) (by first | exact Or.inl rfl | exact Or.inr (Or.inl rfl) | exact Or.inr (Or.inr rfl)) (by decide) (by decide)) (@e_mod _ _ _ _ _ _ _ (@e_var _ _ 0 _ _ (by rfl) (by first | exact Or.inl rfl | exact Or.inr (Or.inl rfl) | exact Or.inr (Or.inr rfl)) (by decide) (by decide)) e_int) (by intro _ _; rfl)) (@d_cons _ _ _ _ _ _ (@e_ixX _ _ _ _ _ _ _ hu (@e_var _ _ 1 _ _ (by rfl) (by first | exact Or.inl rfl | exact Or.inr (Or.inl rfl) | exact Or.inr (Or.inr rfl)) (by decide) (by decide)) (@e_mod _ _ _ _ _ _ _ (@e_fdiv _ _ _ _ _ _ _ (@e_var _ _ 0 _ _ (by rfl) (by first | exact Or.inl rfl | exact Or.inr (Or.inl rfl) | exact Or.inr (Or.inr rfl)) (by decide) (by decide)) e_int) e_int) (by intro _ _; rfl)) (@d_cons _ _ _ _ _ _ (@e_ixX _ _ _ _ _ _ _ hu (@e_var _ _ 1 _ _ (by rfl) (by first | exact Or.inl rfl | exact Or.inr (Or.inl rfl) | exact Or.inr (Or.inr rfl)) (by decide) (by decide)) (@e_mod _ _ _ _ _ _ _ (@e_fdiv _ _ _ _ _ _ _ (@e_var _ _ 0 _ _ (by rfl) (by first | exact Or.inl rfl | exact Or.inr (Or.inl rfl) | exact Or.inr (Or.inr rfl)) (by decide) (by decide)) e_int) e_int) (by intro _ _; rfl)) d_nil (by rfl)) (by rfl)) (by rfl))))))
theorem sc_law_spoiled : FnScope ["_law_parts_here", "_law_cell", "_law_rest", "_law_at", "_law_sign", "_law_some"] ["_law_parts_here", "_law_cell"] (defScope st_law_spoiled) := ⟨rfl, rfl, rfl, by decide +kernel, rfl, by decide +kernel, by decide +kernel⟩
theorem ok_law_spoiled {fd : FuncData} (F : Fun K "_law_spoiled" "_law_spoiled" st_law_spoiled flaw_spoiled fd) (T : Txt K mg tNAME_LENGTH tPLAIN_LENGTH tPLAIN_SIGNS tSMALL_LETTERS tSTYLE_SIGNS flaw_parts flaw_spoiled fis_all_of fangled fis_text_of fis_name fis_plain fread_point fread_text flaw_refused flaw_cell_at fpoint_keys fnote_keys fshow_point fshow_text flaw_keys flaw aCiteError aNoHands aNoList aNoName aNoPlain aNoRow aNoStyle aNoText aNoWork) :
    FnOk P w K mg base CX0 1 flaw_spoiled fd ["_law_parts_here", "_law_cell"] (spOf K 2 g_law_spoiled) := by
  refine F.ok sc_law_spoiled (fun vs H Q E h => spOf_len h) (fun cdv A outer s H vs Q E hr h => ?_)
  obtain ⟨F0, h⟩ := body_out (N := ["_law_parts_here", "_law_cell", "_law_rest", "_law_at", "_law_sign", "_law_some"]) (f := f_law_spoiled) h
  have hu := hu_of hr
  have hv := hr.units
  refine ⟨liftS (ent H F0 : Ent K) f_law_spoiled, ?_, h⟩
  exact (@ss_cons _ _ _ _ _ _ (@s_set _ _ _ _ _ 2 _ _ sc_law_spoiled.nd (@e_fdiv _ _ _ _ _ _ _ (@e_var _ _ 1 _ _ (by rfl) (by first | exact Or.inl rfl | exact Or.inr (Or.inl rfl) | exact Or.inr (Or.inr rfl)) (by decide) (by decide)) e_int) (by rfl) (by first | exact Or.inl rfl | exact Or.inr rfl) (by rfl) (by first | exact .inl rfl | exact .inr rfl)) (@ss_cons _ _ _ _ _ _ (@s_if _ _ _ _ _ _ _ _ _ (@t_eqY _ _ _ _ _ _ _ hv (@e_mod _ _ _ _ _ _ _ (@e_var _ _ 1 _ _ (by rfl) (by first | exact Or.inl rfl | exact Or.inr (Or.inl rfl) | exact Or.inr (Or.inr rfl)) (by decide) (by decide)) e_int) e_int) (@ss_cons _ _ _ _ _ _ (@s_set _ _ _ _ _ 3 _ _ sc_law_spoiled.nd (@e_mod _ _ _ _ _ _ _ (@e_fdiv _ _ _ _ _ _ _ (@e_var _ _ 2 _ _ (by rfl) (by first | exact Or.inl rfl | exact Or.inr (Or.inl rfl) | exact Or.inr (Or.inr rfl)) (by decide) (by decide)) e_int) e_int) (by rfl) (by first | exact Or.inl rfl | exact Or.inr rfl) (by rfl) (by first | exact .inl rfl | exact .inr rfl)) (@ss_cons _ _ _ _ _ _ (@s_set _ _ _ _ _ 4 _ _ sc_law_spoiled.nd (@e_ixX _ _ _ _ _ _ _ hu e_str (@e_mod _ _ _ _ _ _ _ (@e_var _ _ 2 _ _ (by rfl) (by first | exact Or.inl rfl | exact Or.inr (Or.inl rfl) | exact Or.inr (Or.inr rfl)) (by decide) (by decide)) e_int) (by intro _ _; rfl)) (by rfl) (by first | exact Or.inl rfl | exact Or.inr rfl) (by rfl) (by first | exact .inl rfl | exact .inr rfl)) (@ss_one _ _ _ _ (@s_ret _ _ _ _ _ (@e_add _ _ _ _ _ _ _ (@e_add _ _ _ _ _ _ _ (@e_joinX _ _ _ _ _ _ _ _ e_str (@e_sl _ _ _ _ _ _ _ _ _ _ (@e_var _ _ 0 _ _ (by rfl) (by first | exact Or.inl rfl | exact Or.inr (Or.inl rfl) | exact Or.inr (Or.inr rfl)) (by decide) (by decide)) o_none (@o_some _ _ _ _ (@e_var _ _ 3 _ _ (by rfl) (by first | exact Or.inl rfl | exact Or.inr (Or.inl rfl) | exact Or.inr (Or.inr rfl)) (by decide) (by decide)))) (by rfl) (by rfl) (by rfl) (by rfl) (by rfl)) (@e_var _ _ 4 _ _ (by rfl) (by first | exact Or.inl rfl | exact Or.inr (Or.inl rfl) | exact Or.inr (Or.inr rfl)) (by decide) (by decide))) (@e_joinX _ _ _ _ _ _ _ _ e_str (@e_sl _ _ _ _ _ _ _ _ _ _ (@e_var _ _ 0 _ _ (by rfl) (by first | exact Or.inl rfl | exact Or.inr (Or.inl rfl) | exact Or.inr (Or.inr rfl)) (by decide) (by decide)) (@o_some _ _ _ _ (@e_var _ _ 3 _ _ (by rfl) (by first | exact Or.inl rfl | exact Or.inr (Or.inl rfl) | exact Or.inr (Or.inr rfl)) (by decide) (by decide))) o_none) (by rfl) (by rfl) (by rfl) (by rfl) (by rfl))))))) ss_nil) (@ss_cons _ _ _ _ _ _ (@s_set _ _ _ _ _ 5 _ _ sc_law_spoiled.nd (@e_lst _ _ _ _ _ (@d_texts _ _ _ _ [("<", _, _), ("<>", _, _), ("< >", _, _), ("<A>", _, _), ("<ab", _, _), ("<ab 12", _, _), ("<ab >", _, _), ("< ab>", _, _), ("<abcdefghi>", _, _), ("<a1>", _, _), ("<ab 1\n>", _, _), ("<ab 1^>", _, _)] d_nil)) (by rfl) (by first | exact Or.inl rfl | exact Or.inr rfl) (by rfl) (by first | exact .inl rfl | exact .inr rfl)) (@ss_cons _ _ _ _ _ _ (@s_set _ _ _ _ _ 5 _ _ sc_law_spoiled.nd (@e_add _ _ _ _ _ _ _ (@e_var _ _ 5 _ _ (by rfl) (by first | exact Or.inl rfl | exact Or.inr (Or.inl rfl) | exact Or.inr (Or.inr rfl)) (by decide) (by decide)) (@e_lst _ _ _ _ _ (@d_texts _ _ _ _ [("<ab <c>>", _, _), ("<ab:>", _, _)] (@d_cons _ _ _ _ _ _ (@e_add _ _ _ _ _ _ _ (@e_add _ _ _ _ _ _ _ e_str (@e_mulZ _ _ _ _ _ _ _ e_str e_int)) e_str) (@d_texts _ _ _ _ [("<ab;c>", _, _), ("<a b <", _, _), ("<-> x", _, _), ("<ab|c>", _, _)] d_nil) (by rfl))))) (by rfl) (by first | exact Or.inl rfl | exact Or.inr rfl) (by rfl) (by first | exact .inl rfl | exact .inr rfl)) (@ss_cons _ _ _ _ _ _ (@s_if _ _ _ _ _ _ _ _ _ (@t_eqY _ _ _ _ _ _ _ hv (@e_mod _ _ _ _ _ _ _ (@e_var _ _ 1 _ _ (by rfl) (by first | exact Or.inl rfl | exact Or.inr (Or.inl rfl) | exact Or.inr (Or.inr rfl)) (by decide) (by decide)) e_int) e_int) (@ss_one _ _ _ _ (@s_ret _ _ _ _ _ (@e_add _ _ _ _ _ _ _ (@e_joinX _ _ _ _ _ _ _ _ e_str (@e_var _ _ 0 _ _ (by rfl) (by first | exact Or.inl rfl | exact Or.inr (Or.inl rfl) | exact Or.inr (Or.inr rfl)) (by decide) (by decide)) (by rfl) (by rfl) (by rfl) (by rfl) (by rfl)) (@e_ixX _ _ _ _ _ _ _ hu (@e_var _ _ 5 _ _ (by rfl) (by first | exact Or.inl rfl | exact Or.inr (Or.inl rfl) | exact Or.inr (Or.inr rfl)) (by decide) (by decide)) (@e_mod _ _ _ _ _ _ _ (@e_var _ _ 2 _ _ (by rfl) (by first | exact Or.inl rfl | exact Or.inr (Or.inl rfl) | exact Or.inr (Or.inr rfl)) (by decide) (by decide)) e_int) (by intro _ _; rfl))))) ss_nil) (@ss_one _ _ _ _ (@s_ret _ _ _ _ _ (@e_add _ _ _ _ _ _ _ (@e_add _ _ _ _ _ _ _ (@e_add _ _ _ _ _ _ _ (@e_ixX _ _ _ _ _ _ _ hu (@e_var _ _ 5 _ _ (by rfl) (by first | exact Or.inl rfl | exact Or.inr (Or.inl rfl) | exact Or.inr (Or.inr rfl)) (by decide) (by decide)) (@e_mod _ _ _ _ _ _ _ (@e_var _ _ 2 _ _ (by rfl) (by first | exact Or.inl rfl | exact Or.inr (Or.inl rfl) | exact Or.inr (Or.inr rfl)) (by decide) (by decide)) e_int) (by intro _ _; rfl)) e_str) (@e_joinX _ _ _ _ _ _ _ _ e_str (@e_var _ _ 0 _ _ (by rfl) (by first | exact Or.inl rfl | exact Or.inr (Or.inl rfl) | exact Or.inr (Or.inr rfl)) (by decide) (by decide)) (by rfl) (by rfl) (by rfl) (by rfl) (by rfl))) e_str))))))))
theorem sc_is_all_of : FnScope ["text", "signs"] ["text", "signs"] (defScope st_is_all_of) := ⟨rfl, rfl, rfl, by decide +kernel, rfl, by decide +kernel, by decide +kernel⟩
theorem ok_is_all_of {fd : FuncData} (F : Fun K "is_all_of" "is_all_of" st_is_all_of fis_all_of fd) (T : Txt K mg tNAME_LENGTH tPLAIN_LENGTH tPLAIN_SIGNS tSMALL_LETTERS tSTYLE_SIGNS flaw_parts flaw_spoiled fis_all_of fangled fis_text_of fis_name fis_plain fread_point fread_text flaw_refused flaw_cell_at fpoint_keys fnote_keys fshow_point fshow_text flaw_keys flaw aCiteError aNoHands aNoList aNoName aNoPlain aNoRow aNoStyle aNoText aNoWork) :
    FnOk P w K mg base CX0 1 fis_all_of fd ["text", "signs"] (spOf K 2 g_is_all_of) := by
  refine F.ok sc_is_all_of (fun vs H Q E h => spOf_len h) (fun cdv A outer s H vs Q E hr h => ?_)
  obtain ⟨F0, h⟩ := body_out (N := ["text", "signs"]) (f := f_is_all_of) h
  have hu := hu_of hr
  have hv := hr.units
  refine ⟨liftS (ent H F0 : Ent K) f_is_all_of, ?_, h⟩
  exact (@ss_one _ _ _ _ (@s_ret _ _ _ _ _ (@e_all _ _ _ _ _ _ T.z_all (@e_comp _ _ _ _ _ _ _ _ _ _ _ _ _ _ _ rfl (compScope (N' := ["sign", "signs", ".acc"]) (src := [.own, .cap 1, .acc]) (by rfl) (by rfl) (by rfl) (by rfl) (by rfl) (by rfl)) (srcOk 2 (by rfl) (by rfl)) (by decide) (@i_any _ _ _ _ _ (@e_var _ _ 0 _ _ (by rfl) (by first | exact Or.inl rfl | exact Or.inr (Or.inl rfl) | exact Or.inr (Or.inr rfl)) (by decide) (by decide))) (fun _ _ _ _ => @xg _ _ _ (fun _ => (@g_name _ _ _ 0 _ (show (["sign", "signs", ".acc"] : List Str).Nodup by decide +kernel) (by rfl) (by first | exact Or.inl rfl | exact Or.inr rfl) (by first | exact .inl rfl | exact .inr rfl)))) (fun _ _ _ _ => xt0) (fun _ _ _ _ => @xe _ _ _ (fun _ => (@e_inZ _ _ _ _ _ _ _ hu (@e_var _ _ 0 _ _ (by rfl) (by first | exact Or.inl rfl | exact Or.inr (Or.inl rfl) | exact Or.inr (Or.inr rfl)) (by decide) (by decide)) (@e_var _ _ 1 _ _ (by rfl) (by first | exact Or.inl rfl | exact Or.inr (Or.inl rfl) | exact Or.inr (Or.inr rfl)) (by decide) (by decide)) (by rfl)))) (by intro _; rfl)) (by rfl) (by rfl) (by rfl) (by rfl))))
theorem sc_angled : FnScope ["text", "signs", "runs", "cuts", "run", "halves"] ["text", "signs"] (defScope st_angled) := ⟨rfl, rfl, rfl, by decide +kernel, rfl, by decide +kernel, by decide +kernel⟩
theorem ok_angled {fd : FuncData} (F : Fun K "angled" "angled" st_angled fangled fd) (T : Txt K mg tNAME_LENGTH tPLAIN_LENGTH tPLAIN_SIGNS tSMALL_LETTERS tSTYLE_SIGNS flaw_parts flaw_spoiled fis_all_of fangled fis_text_of fis_name fis_plain fread_point fread_text flaw_refused flaw_cell_at fpoint_keys fnote_keys fshow_point fshow_text flaw_keys flaw aCiteError aNoHands aNoList aNoName aNoPlain aNoRow aNoStyle aNoText aNoWork) {fd_is_all_of : FuncData} (G_is_all_of : FnOk P w K mg base CX0 1 fis_all_of fd_is_all_of ["text", "signs"] (spOf K 2 g_is_all_of)) (B_is_all_of : Binds K fd_is_all_of ["text", "signs"] []) :
    FnOk P w K mg base CX0 2 fangled fd ["text", "signs"] (spOf K 2 g_angled) := by
  refine F.ok sc_angled (fun vs H Q E h => spOf_len h) (fun cdv A outer s H vs Q E hr h => ?_)
  obtain ⟨F0, h⟩ := body_out (N := ["text", "signs", "runs", "cuts", "run", "halves"]) (f := f_angled) h
  have hu := hu_of hr
  have hv := hr.units
  refine ⟨liftS (ent H F0 : Ent K) f_angled, ?_, h⟩
  exact (@ss_cons _ _ _ _ _ _ (@s_set _ _ _ _ _ 2 _ _ sc_angled.nd (@e_split _ _ _ _ _ _ _ _ (@e_var _ _ 0 _ _ (by rfl) (by first | exact Or.inl rfl | exact Or.inr (Or.inl rfl) | exact Or.inr (Or.inr rfl)) (by decide) (by decide)) e_str (by rfl) (by rfl) (by rfl) (by rfl) (by rfl)) (by rfl) (by first | exact Or.inl rfl | exact Or.inr rfl) (by rfl) (by first | exact .inl rfl | exact .inr rfl)) (@ss_cons _ _ _ _ _ _ (@s_set _ _ _ _ _ 3 _ _ sc_angled.nd (@e_lst _ _ _ _ _ (@d_cons _ _ _ _ _ _ (@e_ixX _ _ _ _ _ _ _ hu (@e_var _ _ 2 _ _ (by rfl) (by first | exact Or.inl rfl | exact Or.inr (Or.inl rfl) | exact Or.inr (Or.inr rfl)) (by decide) (by decide)) e_int (by intro _ _; rfl)) d_nil (by rfl))) (by rfl) (by first | exact Or.inl rfl | exact Or.inr rfl) (by rfl) (by first | exact .inl rfl | exact .inr rfl)) (@ss_cons _ _ _ _ _ _ (@s_for _ _ _ _ _ _ _ _ _ PassesOwn.never rfl (@i_any _ _ _ _ _ (@e_sl _ _ _ _ _ _ _ _ _ _ (@e_var _ _ 2 _ _ (by rfl) (by first | exact Or.inl rfl | exact Or.inr (Or.inl rfl) | exact Or.inr (Or.inr rfl)) (by decide) (by decide)) (@o_some _ _ _ _ e_int) o_none)) (@g_name _ _ _ 4 _ sc_angled.nd (by rfl) (by first | exact Or.inl rfl | exact Or.inr rfl) (by first | exact .inl rfl | exact .inr rfl)) (@ss_cons _ _ _ _ _ _ (@s_set _ _ _ _ _ 5 _ _ sc_angled.nd (@e_partition _ _ _ _ _ _ _ _ (@e_var _ _ 4 _ _ (by rfl) (by first | exact Or.inl rfl | exact Or.inr (Or.inl rfl) | exact Or.inr (Or.inr rfl)) (by decide) (by decide)) e_str (by rfl) (by rfl) (by rfl) (by rfl) (by rfl)) (by rfl) (by first | exact Or.inl rfl | exact Or.inr rfl) (by rfl) (by first | exact .inl rfl | exact .inr rfl)) (@ss_cons _ _ _ _ _ _ (@s_if _ _ _ _ _ _ _ _ _ (@t_eqY _ _ _ _ _ _ _ hv (@e_ixX _ _ _ _ _ _ _ hu (@e_var _ _ 5 _ _ (by rfl) (by first | exact Or.inl rfl | exact Or.inr (Or.inl rfl) | exact Or.inr (Or.inr rfl)) (by decide) (by decide)) e_int (by intro _ _; rfl)) e_str) (@ss_one _ _ _ _ (@s_ret _ _ _ _ _ e_non)) ss_nil) (@ss_one _ _ _ _ (@s_ext _ _ _ _ _ 3 _ _ _ _ (@e_lst _ _ _ _ _ (@d_cons _ _ _ _ _ _ (@e_ixX _ _ _ _ _ _ _ hu (@e_var _ _ 5 _ _ (by rfl) (by first | exact Or.inl rfl | exact Or.inr (Or.inl rfl) | exact Or.inr (Or.inr rfl)) (by decide) (by decide)) e_int (by intro _ _; rfl)) (@d_cons _ _ _ _ _ _ (@e_ixX _ _ _ _ _ _ _ hu (@e_var _ _ 5 _ _ (by rfl) (by first | exact Or.inl rfl | exact Or.inr (Or.inl rfl) | exact Or.inr (Or.inr rfl)) (by decide) (by decide)) e_int (by intro _ _; rfl)) d_nil (by rfl)) (by rfl))) (by rfl) (by first | exact Or.inl rfl | exact Or.inr (Or.inl rfl) | exact Or.inr (Or.inr rfl)) (by decide) (by decide) (by rfl) (by rfl) (by rfl) (by rfl) (by rfl) (by rfl))))) (by intro _; rfl)) (@ss_one _ _ _ _ (@s_ret _ _ _ _ _ (@e_if _ _ _ _ _ _ _ _ _ (@t_val _ _ _ _ (@e_call _ _ _ _ _ _ _ _ _ _ _ _ _ _ G_is_all_of (hr.mono (by decide)) T.m_is_all_of T.k_is_all_of B_is_all_of (@a_cons _ _ _ _ _ _ (@e_joinX _ _ _ _ _ _ _ _ e_str (@e_sl3 _ _ _ _ _ _ _ _ _ _ _ _ (@e_var _ _ 3 _ _ (by rfl) (by first | exact Or.inl rfl | exact Or.inr (Or.inl rfl) | exact Or.inr (Or.inr rfl)) (by decide) (by decide)) o_none o_none (@o_some _ _ _ _ e_int)) (by rfl) (by rfl) (by rfl) (by rfl) (by rfl)) (@a_cons _ _ _ _ _ _ (@e_var _ _ 1 _ _ (by rfl) (by first | exact Or.inl rfl | exact Or.inr (Or.inl rfl) | exact Or.inr (Or.inr rfl)) (by decide) (by decide)) a_nil (by rfl)) (by rfl)) (by rfl) (by decide) (by rfl) (by rfl)) (by intro _; rfl)) (@e_var _ _ 3 _ _ (by rfl) (by first | exact Or.inl rfl | exact Or.inr (Or.inl rfl) | exact Or.inr (Or.inr rfl)) (by decide) (by decide)) e_non))))))
theorem sc_is_text_of : FnScope ["value", "signs", "most"] ["value", "signs", "most"] (defScope st_is_text_of) := ⟨rfl, rfl, rfl, by decide +kernel, rfl, by decide +kernel, by decide +kernel⟩
theorem ok_is_text_of {fd : FuncData} (F : Fun K "is_text_of" "is_text_of" st_is_text_of fis_text_of fd) (T : Txt K mg tNAME_LENGTH tPLAIN_LENGTH tPLAIN_SIGNS tSMALL_LETTERS tSTYLE_SIGNS flaw_parts flaw_spoiled fis_all_of fangled fis_text_of fis_name fis_plain fread_point fread_text flaw_refused flaw_cell_at fpoint_keys fnote_keys fshow_point fshow_text flaw_keys flaw aCiteError aNoHands aNoList aNoName aNoPlain aNoRow aNoStyle aNoText aNoWork) {fd_is_all_of : FuncData} (G_is_all_of : FnOk P w K mg base CX0 1 fis_all_of fd_is_all_of ["text", "signs"] (spOf K 2 g_is_all_of)) (B_is_all_of : Binds K fd_is_all_of ["text", "signs"] []) :
    FnOk P w K mg base CX0 2 fis_text_of fd ["value", "signs", "most"] (spOf K 3 g_is_text_of) := by
  refine F.ok sc_is_text_of (fun vs H Q E h => spOf_len h) (fun cdv A outer s H vs Q E hr h => ?_)
  obtain ⟨F0, h⟩ := body_out (N := ["value", "signs", "most"]) (f := f_is_text_of) h
  have hu := hu_of hr
  have hv := hr.units
  refine ⟨liftS (ent H F0 : Ent K) f_is_text_of, ?_, h⟩
  exact (@ss_cons _ _ _ _ _ _ (@s_if _ _ _ _ _ _ _ _ _ (@t_not _ _ _ _ _ (@t_val _ _ _ _ (@e_isi _ _ _ _ _ _ _ _ _ T.z_isinstance T.z_str boot_str (kit_str _) (@e_var _ _ 0 _ _ (by rfl) (by first | exact Or.inl rfl | exact Or.inr (Or.inl rfl) | exact Or.inr (Or.inr rfl)) (by decide) (by decide)) (by rfl) (by rfl) (by decide) (by decide) (by rfl) (by rfl) (by rfl)) (by intro _; rfl))) (@ss_one _ _ _ _ (@s_ret _ _ _ _ _ e_bl)) ss_nil) (@ss_one _ _ _ _ (@s_ret _ _ _ _ _ (@e_and _ _ _ _ _ _ _ _ (@e_chain _ _ _ _ _ _ _ _ _ _ _ _ _ _ _ op_le p_le op_le p_le e_int (@e_len _ _ _ _ _ _ T.z_len (@e_var _ _ 0 _ _ (by rfl) (by first | exact Or.inl rfl | exact Or.inr (Or.inl rfl) | exact Or.inr (Or.inr rfl)) (by decide) (by decide)) (by rfl) (by rfl) (by rfl)) (@e_var _ _ 2 _ _ (by rfl) (by first | exact Or.inl rfl | exact Or.inr (Or.inl rfl) | exact Or.inr (Or.inr rfl)) (by decide) (by decide)) (by with_unfolding_all rfl)) (@e_one _ _ _ _ _ _ (@e_call _ _ _ _ _ _ _ _ _ _ _ _ _ _ G_is_all_of (hr.mono (by decide)) T.m_is_all_of T.k_is_all_of B_is_all_of (@a_cons _ _ _ _ _ _ (@e_var _ _ 0 _ _ (by rfl) (by first | exact Or.inl rfl | exact Or.inr (Or.inl rfl) | exact Or.inr (Or.inr rfl)) (by decide) (by decide)) (@a_cons _ _ _ _ _ _ (@e_var _ _ 1 _ _ (by rfl) (by first | exact Or.inl rfl | exact Or.inr (Or.inl rfl) | exact Or.inr (Or.inr rfl)) (by decide) (by decide)) a_nil (by rfl)) (by rfl)) (by rfl) (by decide) (by rfl) (by rfl)))))))
theorem sc_is_name : FnScope ["value"] ["value"] (defScope st_is_name) := ⟨rfl, rfl, rfl, by decide +kernel, rfl, by decide +kernel, by decide +kernel⟩
theorem ok_is_name {fd : FuncData} (F : Fun K "is_name" "is_name" st_is_name fis_name fd) (T : Txt K mg tNAME_LENGTH tPLAIN_LENGTH tPLAIN_SIGNS tSMALL_LETTERS tSTYLE_SIGNS flaw_parts flaw_spoiled fis_all_of fangled fis_text_of fis_name fis_plain fread_point fread_text flaw_refused flaw_cell_at fpoint_keys fnote_keys fshow_point fshow_text flaw_keys flaw aCiteError aNoHands aNoList aNoName aNoPlain aNoRow aNoStyle aNoText aNoWork) {fd_is_text_of : FuncData} (G_is_text_of : FnOk P w K mg base CX0 2 fis_text_of fd_is_text_of ["value", "signs", "most"] (spOf K 3 g_is_text_of)) (B_is_text_of : Binds K fd_is_text_of ["value", "signs", "most"] []) :
    FnOk P w K mg base CX0 3 fis_name fd ["value"] (spOf K 1 g_is_name) := by
  refine F.ok sc_is_name (fun vs H Q E h => spOf_len h) (fun cdv A outer s H vs Q E hr h => ?_)
  obtain ⟨F0, h⟩ := body_out (N := ["value"]) (f := f_is_name) h
  have hu := hu_of hr
  have hv := hr.units
  refine ⟨liftS (ent H F0 : Ent K) f_is_name, ?_, h⟩
  exact (@ss_one _ _ _ _ (@s_ret _ _ _ _ _ (@e_call _ _ _ _ _ _ _ _ _ _ _ _ _ _ G_is_text_of (hr.mono (by decide)) T.m_is_text_of T.k_is_text_of B_is_text_of (@a_cons _ _ _ _ _ _ (@e_var _ _ 0 _ _ (by rfl) (by first | exact Or.inl rfl | exact Or.inr (Or.inl rfl) | exact Or.inr (Or.inr rfl)) (by decide) (by decide)) (@a_cons _ _ _ _ _ _ (@e_globS _ _ _ _ _ _ T.c_SMALL_LETTERS (by rfl) (by decide)) (@a_cons _ _ _ _ _ _ (@e_globI _ _ _ _ _ _ T.c_NAME_LENGTH (by rfl) (by decide)) a_nil (by rfl)) (by rfl)) (by rfl)) (by rfl) (by decide) (by rfl) (by rfl))))
theorem sc_is_plain : FnScope ["value"] ["value"] (defScope st_is_plain) := ⟨rfl, rfl, rfl, by decide +kernel, rfl, by decide +kernel, by decide +kernel⟩
theorem ok_is_plain {fd : FuncData} (F : Fun K "is_plain" "is_plain" st_is_plain fis_plain fd) (T : Txt K mg tNAME_LENGTH tPLAIN_LENGTH tPLAIN_SIGNS tSMALL_LETTERS tSTYLE_SIGNS flaw_parts flaw_spoiled fis_all_of fangled fis_text_of fis_name fis_plain fread_point fread_text flaw_refused flaw_cell_at fpoint_keys fnote_keys fshow_point fshow_text flaw_keys flaw aCiteError aNoHands aNoList aNoName aNoPlain aNoRow aNoStyle aNoText aNoWork) {fd_is_text_of : FuncData} (G_is_text_of : FnOk P w K mg base CX0 2 fis_text_of fd_is_text_of ["value", "signs", "most"] (spOf K 3 g_is_text_of)) (B_is_text_of : Binds K fd_is_text_of ["value", "signs", "most"] []) :
    FnOk P w K mg base CX0 3 fis_plain fd ["value"] (spOf K 1 g_is_plain) := by
  refine F.ok sc_is_plain (fun vs H Q E h => spOf_len h) (fun cdv A outer s H vs Q E hr h => ?_)
  obtain ⟨F0, h⟩ := body_out (N := ["value"]) (f := f_is_plain) h
  have hu := hu_of hr
  have hv := hr.units
  refine ⟨liftS (ent H F0 : Ent K) f_is_plain, ?_, h⟩
  exact (@ss_one _ _ _ _ (@s_ret _ _ _ _ _ (@e_call _ _ _ _ _ _ _ _ _ _ _ _ _ _ G_is_text_of (hr.mono (by decide)) T.m_is_text_of T.k_is_text_of B_is_text_of (@a_cons _ _ _ _ _ _ (@e_var _ _ 0 _ _ (by rfl) (by first | exact Or.inl rfl | exact Or.inr (Or.inl rfl) | exact Or.inr (Or.inr rfl)) (by decide) (by decide)) (@a_cons _ _ _ _ _ _ (@e_globS _ _ _ _ _ _ T.c_PLAIN_SIGNS (by rfl) (by decide)) (@a_cons _ _ _ _ _ _ (@e_globI _ _ _ _ _ _ T.c_PLAIN_LENGTH (by rfl) (by decide)) a_nil (by rfl)) (by rfl)) (by rfl)) (by rfl) (by decide) (by rfl) (by rfl))))
theorem sc_read_point : FnScope ["text", "halves"] ["text"] (defScope st_read_point) := ⟨rfl, rfl, rfl, by decide +kernel, rfl, by decide +kernel, by decide +kernel⟩
theorem ok_read_point {fd : FuncData} (F : Fun K "read_point" "read_point" st_read_point fread_point fd) (T : Txt K mg tNAME_LENGTH tPLAIN_LENGTH tPLAIN_SIGNS tSMALL_LETTERS tSTYLE_SIGNS flaw_parts flaw_spoiled fis_all_of fangled fis_text_of fis_name fis_plain fread_point fread_text flaw_refused flaw_cell_at fpoint_keys fnote_keys fshow_point fshow_text flaw_keys flaw aCiteError aNoHands aNoList aNoName aNoPlain aNoRow aNoStyle aNoText aNoWork) (O_NoText : OwnCls "NoText" aNoText VEB "ValueError.__new__" mg base) {fd_is_name : FuncData} (G_is_name : FnOk P w K mg base CX0 3 fis_name fd_is_name ["value"] (spOf K 1 g_is_name)) (B_is_name : Binds K fd_is_name ["value"] []) {fd_is_plain : FuncData} (G_is_plain : FnOk P w K mg base CX0 3 fis_plain fd_is_plain ["value"] (spOf K 1 g_is_plain)) (B_is_plain : Binds K fd_is_plain ["value"] []) :
    FnOk P w K mg base (CX1 P w) 4 fread_point fd ["text"] (spX K 1 h_read_point) := by
  refine Fun.okX F sc_read_point (fun vs H Q E h => spX_len h) (fun cdv A outer s H vs Q E hr h => ?_)
  obtain ⟨F0, h⟩ := body_outX (N := ["text", "halves"]) (f := f_read_point) h
  have hu := hu_of hr
  have hv := hr.units
  refine ⟨liftS (entX H F0 E : Ent K) f_read_point, ?_, h⟩
  exact (@ss_cons _ _ _ _ _ _ (@s_set _ _ _ _ _ 1 _ _ sc_read_point.nd (@e_partition _ _ _ _ _ _ _ _ (@e_var _ _ 0 _ _ (by rfl) (by first | exact Or.inl rfl | exact Or.inr (Or.inl rfl) | exact Or.inr (Or.inr rfl)) (by decide) (by decide)) e_str (by rfl) (by rfl) (by rfl) (by rfl) (by rfl)) (by rfl) (by first | exact Or.inl rfl | exact Or.inr rfl) (by rfl) (by first | exact .inl rfl | exact .inr rfl)) (@ss_cons _ _ _ _ _ _ (@s_if _ _ _ _ _ _ _ _ _ (@t_not _ _ _ _ _ (@t_val _ _ _ _ (@e_call _ _ _ _ _ _ _ _ _ _ _ _ _ _ G_is_name (hr.mono (by decide)) T.m_is_name T.k_is_name B_is_name (@a_cons _ _ _ _ _ _ (@e_ixX _ _ _ _ _ _ _ hu (@e_var _ _ 1 _ _ (by rfl) (by first | exact Or.inl rfl | exact Or.inr (Or.inl rfl) | exact Or.inr (Or.inr rfl)) (by decide) (by decide)) e_int (by intro _ _; rfl)) a_nil (by rfl)) (by rfl) (by decide) (by rfl) (by rfl)) (by intro _; rfl))) (@ss_one _ _ _ _ (@s_raise _ _ _ _ _ _ _ _ _ _ throws_fn rfl O_NoText T.n_NoText (by exact fun _ _ _ _ h => h) (by rfl) (by rfl) (by rfl) (by rfl) (by exact ⟨_, _, rfl⟩) (by decide))) ss_nil) (@ss_cons _ _ _ _ _ _ (@s_if _ _ _ _ _ _ _ _ _ (@t_eqY _ _ _ _ _ _ _ hv (@e_ixX _ _ _ _ _ _ _ hu (@e_var _ _ 1 _ _ (by rfl) (by first | exact Or.inl rfl | exact Or.inr (Or.inl rfl) | exact Or.inr (Or.inr rfl)) (by decide) (by decide)) e_int (by intro _ _; rfl)) e_str) (@ss_one _ _ _ _ (@s_ret _ _ _ _ _ (@e_tup _ _ _ _ _ _ (@d_cons _ _ _ _ _ _ e_str (@d_cons _ _ _ _ _ _ (@e_ixX _ _ _ _ _ _ _ hu (@e_var _ _ 1 _ _ (by rfl) (by first | exact Or.inl rfl | exact Or.inr (Or.inl rfl) | exact Or.inr (Or.inr rfl)) (by decide) (by decide)) e_int (by intro _ _; rfl)) (@d_cons _ _ _ _ _ _ e_non d_nil (by rfl)) (by rfl)) (by rfl))))) ss_nil) (@ss_cons _ _ _ _ _ _ (@s_if _ _ _ _ _ _ _ _ _ (@t_not _ _ _ _ _ (@t_val _ _ _ _ (@e_call _ _ _ _ _ _ _ _ _ _ _ _ _ _ G_is_plain (hr.mono (by decide)) T.m_is_plain T.k_is_plain B_is_plain (@a_cons _ _ _ _ _ _ (@e_ixX _ _ _ _ _ _ _ hu (@e_var _ _ 1 _ _ (by rfl) (by first | exact Or.inl rfl | exact Or.inr (Or.inl rfl) | exact Or.inr (Or.inr rfl)) (by decide) (by decide)) e_int (by intro _ _; rfl)) a_nil (by rfl)) (by rfl) (by decide) (by rfl) (by rfl)) (by intro _; rfl))) (@ss_one _ _ _ _ (@s_raise _ _ _ _ _ _ _ _ _ _ throws_fn rfl O_NoText T.n_NoText (by exact fun _ _ _ _ h => h) (by rfl) (by rfl) (by rfl) (by rfl) (by exact ⟨_, _, rfl⟩) (by decide))) ss_nil) (@ss_one _ _ _ _ (@s_ret _ _ _ _ _ (@e_tup _ _ _ _ _ _ (@d_cons _ _ _ _ _ _ e_str (@d_cons _ _ _ _ _ _ (@e_ixX _ _ _ _ _ _ _ hu (@e_var _ _ 1 _ _ (by rfl) (by first | exact Or.inl rfl | exact Or.inr (Or.inl rfl) | exact Or.inr (Or.inr rfl)) (by decide) (by decide)) e_int (by intro _ _; rfl)) (@d_cons _ _ _ _ _ _ (@e_ixX _ _ _ _ _ _ _ hu (@e_var _ _ 1 _ _ (by rfl) (by first | exact Or.inl rfl | exact Or.inr (Or.inl rfl) | exact Or.inr (Or.inr rfl)) (by decide) (by decide)) e_int (by intro _ _; rfl)) d_nil (by rfl)) (by rfl)) (by rfl)))))))))
theorem sc_read_text : FnScope ["text", "cuts", "parts", "place", "cut"] ["text"] (defScope st_read_text) := ⟨rfl, rfl, rfl, by decide +kernel, rfl, by decide +kernel, by decide +kernel⟩
theorem ok_read_text {fd : FuncData} (F : Fun K "read_text" "read_text" st_read_text fread_text fd) (T : Txt K mg tNAME_LENGTH tPLAIN_LENGTH tPLAIN_SIGNS tSMALL_LETTERS tSTYLE_SIGNS flaw_parts flaw_spoiled fis_all_of fangled fis_text_of fis_name fis_plain fread_point fread_text flaw_refused flaw_cell_at fpoint_keys fnote_keys fshow_point fshow_text flaw_keys flaw aCiteError aNoHands aNoList aNoName aNoPlain aNoRow aNoStyle aNoText aNoWork) (O_NoText : OwnCls "NoText" aNoText VEB "ValueError.__new__" mg base) {fd_angled : FuncData} (G_angled : FnOk P w K mg base CX0 2 fangled fd_angled ["text", "signs"] (spOf K 2 g_angled)) (B_angled : Binds K fd_angled ["text", "signs"] []) {fd_read_point : FuncData} (G_read_point : FnOk P w K mg base (CX1 P w) 4 fread_point fd_read_point ["text"] (spX K 1 h_read_point)) (B_read_point : Binds K fd_read_point ["text"] []) :
    FnOk P w K mg base (CX1 P w) 5 fread_text fd ["text"] (spX K 1 h_read_text) := by
  refine Fun.okX F sc_read_text (fun vs H Q E h => spX_len h) (fun cdv A outer s H vs Q E hr h => ?_)
  obtain ⟨F0, h⟩ := body_outX (N := ["text", "cuts", "parts", "place", "cut"]) (f := f_read_text) h
  have hu := hu_of hr
  have hv := hr.units
  refine ⟨liftS (entX H F0 E : Ent K) f_read_text, ?_, h⟩
  exact (@ss_cons _ _ _ _ _ _ (@s_if _ _ _ _ _ _ _ _ _ (@t_not _ _ _ _ _ (@t_val _ _ _ _ (@e_isi _ _ _ _ _ _ _ _ _ T.z_isinstance T.z_str boot_str (kit_str _) (@e_var _ _ 0 _ _ (by rfl) (by first | exact Or.inl rfl | exact Or.inr (Or.inl rfl) | exact Or.inr (Or.inr rfl)) (by decide) (by decide)) (by rfl) (by rfl) (by decide) (by decide) (by rfl) (by rfl) (by rfl)) (by intro _; rfl))) (@ss_one _ _ _ _ (@s_raise _ _ _ _ _ _ _ _ _ _ throws_fn rfl O_NoText T.n_NoText (by exact fun _ _ _ _ h => h) (by rfl) (by rfl) (by rfl) (by rfl) (by exact ⟨_, _, rfl⟩) (by decide))) ss_nil) (@ss_cons _ _ _ _ _ _ (@s_set _ _ _ _ _ 1 _ _ sc_read_text.nd (@e_call _ _ _ _ _ _ _ _ _ _ _ _ _ _ G_angled (hr.mono (by decide)) T.m_angled T.k_angled B_angled (@a_cons _ _ _ _ _ _ (@e_var _ _ 0 _ _ (by rfl) (by first | exact Or.inl rfl | exact Or.inr (Or.inl rfl) | exact Or.inr (Or.inr rfl)) (by decide) (by decide)) (@a_cons _ _ _ _ _ _ (@e_add _ _ _ _ _ _ _ (@e_globS _ _ _ _ _ _ T.c_STYLE_SIGNS (by rfl) (by decide)) e_str) a_nil (by rfl)) (by rfl)) (by rfl) (by decide) (by rfl) (by rfl)) (by rfl) (by first | exact Or.inl rfl | exact Or.inr rfl) (by rfl) (by first | exact .inl rfl | exact .inr rfl)) (@ss_cons _ _ _ _ _ _ (@s_if _ _ _ _ _ _ _ _ _ (@t_isN _ _ _ _ _ _ _ (@e_var _ _ 1 _ _ (by rfl) (by first | exact Or.inl rfl | exact Or.inr (Or.inl rfl) | exact Or.inr (Or.inr rfl)) (by decide) (by decide)) e_non) (@ss_one _ _ _ _ (@s_raise _ _ _ _ _ _ _ _ _ _ throws_fn rfl O_NoText T.n_NoText (by exact fun _ _ _ _ h => h) (by rfl) (by rfl) (by rfl) (by rfl) (by exact ⟨_, _, rfl⟩) (by decide))) ss_nil) (@ss_cons _ _ _ _ _ _ (@s_set _ _ _ _ _ 2 _ _ sc_read_text.nd (@e_lst _ _ _ _ _ d_nil) (by rfl) (by first | exact Or.inl rfl | exact Or.inr rfl) (by rfl) (by first | exact .inl rfl | exact .inr rfl)) (@ss_cons _ _ _ _ _ _ (@s_for _ _ _ _ _ _ _ _ _ PassesOwn.leaving rfl (@i_enumX _ _ _ _ _ _ _ _ _ T.z_enumerate (@d_cons _ _ _ _ _ _ (@e_var _ _ 1 _ _ (by rfl) (by first | exact Or.inl rfl | exact Or.inr (Or.inl rfl) | exact Or.inr (Or.inr rfl)) (by decide) (by decide)) d_nil (by rfl)) (by rfl) (by rfl)) (@g_tup _ _ _ _ _ _ _ rfl (@gs_cons _ _ _ _ _ _ (@g_name _ _ _ 3 _ sc_read_text.nd (by rfl) (by first | exact Or.inl rfl | exact Or.inr rfl) (by first | exact .inl rfl | exact .inr rfl)) (@gs_cons _ _ _ _ _ _ (@g_name _ _ _ 4 _ sc_read_text.nd (by rfl) (by first | exact Or.inl rfl | exact Or.inr rfl) (by first | exact .inl rfl | exact .inr rfl)) gs_nil (by rfl)) (by rfl)) (by rfl) (by rfl)) (@ss_one _ _ _ _ (@s_if _ _ _ _ _ _ _ _ _ (@t_eqY _ _ _ _ _ _ _ hv (@e_mod _ _ _ _ _ _ _ (@e_var _ _ 3 _ _ (by rfl) (by first | exact Or.inl rfl | exact Or.inr (Or.inl rfl) | exact Or.inr (Or.inr rfl)) (by decide) (by decide)) e_int) e_int) (@ss_one _ _ _ _ (@s_appX _ _ _ _ _ 2 _ _ _ _ (@x_call _ _ _ _ _ _ _ _ _ _ _ _ _ _ G_read_point (hr.mono (by decide)) T.m_read_point T.k_read_point B_read_point passX_fn (@ax_cons _ _ _ _ _ _ (@x_pure _ _ _ _ (@e_var _ _ 4 _ _ (by rfl) (by first | exact Or.inl rfl | exact Or.inr (Or.inl rfl) | exact Or.inr (Or.inr rfl)) (by decide) (by decide))) ax_nil (by rfl)) (by rfl) (by decide) (by rfl) (by rfl)) (by rfl) (by first | exact Or.inl rfl | exact Or.inr (Or.inl rfl) | exact Or.inr (Or.inr rfl)) (by decide) (by decide) (by rfl) (by rfl) (by rfl) (by rfl) (by rfl) (by rfl))) (@ss_one _ _ _ _ (@s_if _ _ _ _ _ _ _ _ _ (@t_neY _ _ _ _ _ _ _ hv (@e_var _ _ 4 _ _ (by rfl) (by first | exact Or.inl rfl | exact Or.inr (Or.inl rfl) | exact Or.inr (Or.inr rfl)) (by decide) (by decide)) e_str) (@ss_one _ _ _ _ (@s_app _ _ _ _ _ 2 _ _ _ _ (@e_var _ _ 4 _ _ (by rfl) (by first | exact Or.inl rfl | exact Or.inr (Or.inl rfl) | exact Or.inr (Or.inr rfl)) (by decide) (by decide)) (by rfl) (by first | exact Or.inl rfl | exact Or.inr (Or.inl rfl) | exact Or.inr (Or.inr rfl)) (by decide) (by decide) (by rfl) (by rfl) (by rfl) (by rfl) (by rfl) (by rfl))) ss_nil)))) (by intro _; rfl)) (@ss_one _ _ _ _ (@s_ret _ _ _ _ _ (@e_var _ _ 2 _ _ (by rfl) (by first | exact Or.inl rfl | exact Or.inr (Or.inl rfl) | exact Or.inr (Or.inr rfl)) (by decide) (by decide)))))))))
theorem sc_law_refused : FnScope ["_law_thing", "_law_met", "e"] ["_law_thing"] (defScope st_law_refused) := ⟨rfl, rfl, rfl, by decide +kernel, rfl, by decide +kernel, by decide +kernel⟩
theorem ok_law_refused {fd : FuncData} (F : Fun K "_law_refused" "_law_refused" st_law_refused flaw_refused fd) (T : Txt K mg tNAME_LENGTH tPLAIN_LENGTH tPLAIN_SIGNS tSMALL_LETTERS tSTYLE_SIGNS flaw_parts flaw_spoiled fis_all_of fangled fis_text_of fis_name fis_plain fread_point fread_text flaw_refused flaw_cell_at fpoint_keys fnote_keys fshow_point fshow_text flaw_keys flaw aCiteError aNoHands aNoList aNoName aNoPlain aNoRow aNoStyle aNoText aNoWork) {fd_read_text : FuncData} (G_read_text : FnOk P w K mg base (CX1 P w) 5 fread_text fd_read_text ["text"] (spX K 1 h_read_text)) (B_read_text : Binds K fd_read_text ["text"] []) :
    FnOk P w K mg base CX0 6 flaw_refused fd ["_law_thing"] (spOf K 1 g_law_refused) := by
  refine F.ok sc_law_refused (fun vs H Q E h => spOf_len h) (fun cdv A outer s H vs Q E hr h => ?_)
  obtain ⟨F0, h⟩ := body_out (N := ["_law_thing", "_law_met", "e"]) (f := f_law_refused) h
  have hu := hu_of hr
  have hv := hr.units
  refine ⟨liftS (ent H F0 : Ent K) f_law_refused, ?_, h⟩
  exact (@ss_cons _ _ _ _ _ _ (@s_set _ _ _ _ _ 1 _ _ sc_law_refused.nd e_bl (by rfl) (by first | exact Or.inl rfl | exact Or.inr rfl) (by rfl) (by first | exact .inl rfl | exact .inr rfl)) (@ss_cons _ _ _ _ _ _ (@s_try1s _ _ _ _ _ _ _ _ _ _ _ _ _ _ _ _ (fun _ _ _ tq => (@ss_one _ _ _ _ (@s_exprX _ _ _ _ _ (@x_call _ _ _ _ _ _ _ _ _ _ _ _ _ _ G_read_text (hr.mono (by decide)) T.m_read_text T.k_read_text B_read_text (tq.pass rfl) (@ax_cons _ _ _ _ _ _ (@x_pure _ _ _ _ (@e_var _ _ 0 _ _ (by rfl) (by first | exact Or.inl rfl | exact Or.inr (Or.inl rfl) | exact Or.inr (Or.inr rfl)) (by decide) (by decide))) ax_nil (by rfl)) (by rfl) (by decide) (by rfl) (by rfl)) (by rfl)))) T.x_NoText ⟨T.ty_NoText, T.ic_NoText, T.be_NoText⟩ sc_law_refused.nd (fun _ => (@ss_cons _ _ _ _ _ _ (@s_set _ _ _ _ _ 1 _ _ sc_law_refused.nd (@e_and _ _ _ _ _ _ _ _ (@e_isX _ _ _ _ _ _ _ _ _ _ _ T.z_isinstance T.x_CiteError ⟨(sub_cons T.n_NoText ⟨T.ek_NoText, T.q0_NoText⟩ sub_nil), sub_nil⟩ (@e_var _ _ 2 _ _ (by rfl) (by first | exact Or.inl rfl | exact Or.inr (Or.inl rfl) | exact Or.inr (Or.inr rfl)) (by decide) (by decide)) (by rfl) (by rfl) (by decide) (by rfl) (by rfl) (by rfl)) (@e_one _ _ _ _ _ _ (@e_isXB _ _ _ _ _ _ _ _ _ _ _ T.z_isinstance T.z_ValueError boot_VE ⟨(sub_cons T.n_NoText ⟨T.ek_NoText, T.q1_NoText⟩ sub_nil), sub_nil⟩ (@e_var _ _ 2 _ _ (by rfl) (by first | exact Or.inl rfl | exact Or.inr (Or.inl rfl) | exact Or.inr (Or.inr rfl)) (by decide) (by decide)) (by rfl) (by rfl) (by decide) (by decide) (by rfl) (by rfl) (by rfl)))) (by rfl) (by first | exact Or.inl rfl | exact Or.inr rfl) (by rfl) (by first | exact .inl rfl | exact .inr rfl)) (@ss_one _ _ _ _ (@s_set _ _ _ _ _ 1 _ _ sc_law_refused.nd (@e_and _ _ _ _ _ _ _ _ (@e_var _ _ 1 _ _ (by rfl) (by first | exact Or.inl rfl | exact Or.inr (Or.inl rfl) | exact Or.inr (Or.inr rfl)) (by decide) (by decide)) (@e_one _ _ _ _ _ _ (@e_not _ _ _ _ _ (@e_isXT _ _ _ _ _ _ _ _ _ _ _ _ T.z_isinstance (@nt_cons _ _ _ _ _ _ T.x_NoHands (@nt_cons _ _ _ _ _ _ T.x_NoList (@nt_cons _ _ _ _ _ _ T.x_NoName (@nt_cons _ _ _ _ _ _ T.x_NoPlain (@nt_cons _ _ _ _ _ _ T.x_NoRow (@nt_cons _ _ _ _ _ _ T.x_NoStyle (@nt_cons _ _ _ _ _ _ T.x_NoWork nt_nil (by rfl) (by decide) (by rfl)) (by rfl) (by decide) (by rfl)) (by rfl) (by decide) (by rfl)) (by rfl) (by decide) (by rfl)) (by rfl) (by decide) (by rfl)) (by rfl) (by decide) (by rfl)) (by rfl) (by decide) (by rfl)) ⟨sub_nil, (sub_cons T.n_NoText ⟨T.ek_NoText, T.q2_NoText⟩ sub_nil)⟩ (@e_var _ _ 2 _ _ (by rfl) (by first | exact Or.inl rfl | exact Or.inr (Or.inl rfl) | exact Or.inr (Or.inr rfl)) (by decide) (by decide)) (by exact Nat.le_of_ble_eq_true rfl) (by rfl) (by rfl) (by rfl) (by rfl))))) (by rfl) (by first | exact Or.inl rfl | exact Or.inr rfl) (by rfl) (by first | exact .inl rfl | exact .inr rfl))))) (sub_cons T.n_NoText T.h_NoText_NoText sub_nil) sub_nil (by rfl) (by rfl) (by rfl) (by decide) (by rfl) (by rfl) (by rfl)) (@ss_one _ _ _ _ (@s_ret _ _ _ _ _ (@e_var _ _ 1 _ _ (by rfl) (by first | exact Or.inl rfl | exact Or.inr (Or.inl rfl) | exact Or.inr (Or.inr rfl)) (by decide) (by decide))))))
theorem sc_law_cell_at : FnScope ["_law_script", "_law_k"] ["_law_script", "_law_k"] (defScope st_law_cell_at) := ⟨rfl, rfl, rfl, by decide +kernel, rfl, by decide +kernel, by decide +kernel⟩
theorem ok_law_cell_at {fd : FuncData} (F : Fun K "_law_cell_at" "_law_cell_at" st_law_cell_at flaw_cell_at fd) (T : Txt K mg tNAME_LENGTH tPLAIN_LENGTH tPLAIN_SIGNS tSMALL_LETTERS tSTYLE_SIGNS flaw_parts flaw_spoiled fis_all_of fangled fis_text_of fis_name fis_plain fread_point fread_text flaw_refused flaw_cell_at fpoint_keys fnote_keys fshow_point fshow_text flaw_keys flaw aCiteError aNoHands aNoList aNoName aNoPlain aNoRow aNoStyle aNoText aNoWork) :
    FnOk P w K mg base CX0 1 flaw_cell_at fd ["_law_script", "_law_k"] (spOf K 2 g_law_cell_at) := by
  refine F.ok sc_law_cell_at (fun vs H Q E h => spOf_len h) (fun cdv A outer s H vs Q E hr h => ?_)
  obtain ⟨F0, h⟩ := body_out (N := ["_law_script", "_law_k"]) (f := f_law_cell_at) h
  have hu := hu_of hr
  have hv := hr.units
  refine ⟨liftS (ent H F0 : Ent K) f_law_cell_at, ?_, h⟩
  exact (@ss_cons _ _ _ _ _ _ (@s_if _ _ _ _ _ _ _ _ _ (@t_lt _ _ _ _ _ _ _ (@e_var _ _ 1 _ _ (by rfl) (by first | exact Or.inl rfl | exact Or.inr (Or.inl rfl) | exact Or.inr (Or.inr rfl)) (by decide) (by decide)) (@e_len _ _ _ _ _ _ T.z_len (@e_var _ _ 0 _ _ (by rfl) (by first | exact Or.inl rfl | exact Or.inr (Or.inl rfl) | exact Or.inr (Or.inr rfl)) (by decide) (by decide)) (by rfl) (by rfl) (by rfl))) (@ss_one _ _ _ _ (@s_ret _ _ _ _ _ (@e_ixX _ _ _ _ _ _ _ hu (@e_var _ _ 0 _ _ (by rfl) (by first | exact Or.inl rfl | exact Or.inr (Or.inl rfl) | exact Or.inr (Or.inr rfl)) (by decide) (by decide)) (@e_var _ _ 1 _ _ (by rfl) (by first | exact Or.inl rfl | exact Or.inr (Or.inl rfl) | exact Or.inr (Or.inr rfl)) (by decide) (by decide)) (by intro _ _; rfl)))) ss_nil) (@ss_one _ _ _ _ (@s_ret _ _ _ _ _ e_int)))
theorem sc_point_keys : FnScope ["parts"] ["parts"] (defScope st_point_keys) := ⟨rfl, rfl, rfl, by decide +kernel, rfl, by decide +kernel, by decide +kernel⟩
theorem ok_point_keys {fd : FuncData} (F : Fun K "point_keys" "point_keys" st_point_keys fpoint_keys fd) (T : Txt K mg tNAME_LENGTH tPLAIN_LENGTH tPLAIN_SIGNS tSMALL_LETTERS tSTYLE_SIGNS flaw_parts flaw_spoiled fis_all_of fangled fis_text_of fis_name fis_plain fread_point fread_text flaw_refused flaw_cell_at fpoint_keys fnote_keys fshow_point fshow_text flaw_keys flaw aCiteError aNoHands aNoList aNoName aNoPlain aNoRow aNoStyle aNoText aNoWork) :
    FnOk P w K mg base CX0 1 fpoint_keys fd ["parts"] (spOf K 1 g_point_keys) := by
  refine F.ok sc_point_keys (fun vs H Q E h => spOf_len h) (fun cdv A outer s H vs Q E hr h => ?_)
  obtain ⟨F0, h⟩ := body_out (N := ["parts"]) (f := f_point_keys) h
  have hu := hu_of hr
  have hv := hr.units
  refine ⟨liftS (ent H F0 : Ent K) f_point_keys, ?_, h⟩
  exact (@ss_one _ _ _ _ (@s_ret _ _ _ _ _ (@e_comp _ _ _ _ _ _ _ _ _ _ _ _ _ _ _ rfl (compScope (N' := ["part", ".acc"]) (src := [.own, .acc]) (by rfl) (by rfl) (by rfl) (by rfl) (by rfl) (by rfl)) (srcOk 1 (by rfl) (by rfl)) (by decide) (@i_any _ _ _ _ _ (@e_var _ _ 0 _ _ (by rfl) (by first | exact Or.inl rfl | exact Or.inr (Or.inl rfl) | exact Or.inr (Or.inr rfl)) (by decide) (by decide))) (fun _ _ _ _ => @xg _ _ _ (fun _ => (@g_name _ _ _ 0 _ (show (["part", ".acc"] : List Str).Nodup by decide +kernel) (by rfl) (by first | exact Or.inl rfl | exact Or.inr rfl) (by first | exact .inl rfl | exact .inr rfl)))) (fun _ _ _ _ => @xt _ _ _ (fun _ => (@t_not _ _ _ _ _ (@t_val _ _ _ _ (@e_isi _ _ _ _ _ _ _ _ _ T.z_isinstance T.z_str boot_str (kit_str _) (@e_var _ _ 0 _ _ (by rfl) (by first | exact Or.inl rfl | exact Or.inr (Or.inl rfl) | exact Or.inr (Or.inr rfl)) (by decide) (by decide)) (by rfl) (by rfl) (by decide) (by decide) (by rfl) (by rfl) (by rfl)) (by intro _; rfl))))) (fun _ _ _ _ => @xe _ _ _ (fun _ => (@e_ixX _ _ _ _ _ _ _ hu (@e_var _ _ 0 _ _ (by rfl) (by first | exact Or.inl rfl | exact Or.inr (Or.inl rfl) | exact Or.inr (Or.inr rfl)) (by decide) (by decide)) e_int (by intro _ _; rfl)))) (by intro _; rfl))))
theorem sc_note_keys : FnScope ["work", "parts"] ["work"] (defScope st_note_keys) := ⟨rfl, rfl, rfl, by decide +kernel, rfl, by decide +kernel, by decide +kernel⟩
theorem ok_note_keys {fd : FuncData} (F : Fun K "note_keys" "note_keys" st_note_keys fnote_keys fd) (T : Txt K mg tNAME_LENGTH tPLAIN_LENGTH tPLAIN_SIGNS tSMALL_LETTERS tSTYLE_SIGNS flaw_parts flaw_spoiled fis_all_of fangled fis_text_of fis_name fis_plain fread_point fread_text flaw_refused flaw_cell_at fpoint_keys fnote_keys fshow_point fshow_text flaw_keys flaw aCiteError aNoHands aNoList aNoName aNoPlain aNoRow aNoStyle aNoText aNoWork) {fd_read_text : FuncData} (G_read_text : FnOk P w K mg base (CX1 P w) 5 fread_text fd_read_text ["text"] (spX K 1 h_read_text)) (B_read_text : Binds K fd_read_text ["text"] []) {fd_point_keys : FuncData} (G_point_keys : FnOk P w K mg base CX0 1 fpoint_keys fd_point_keys ["parts"] (spOf K 1 g_point_keys)) (B_point_keys : Binds K fd_point_keys ["parts"] []) :
    FnOk P w K mg base CX0 6 fnote_keys fd ["work"] (spOf K 1 g_note_keys) := by
  refine F.ok sc_note_keys (fun vs H Q E h => spOf_len h) (fun cdv A outer s H vs Q E hr h => ?_)
  obtain ⟨F0, h⟩ := body_out (N := ["work", "parts"]) (f := f_note_keys) h
  have hu := hu_of hr
  have hv := hr.units
  refine ⟨liftS (ent H F0 : Ent K) f_note_keys, ?_, h⟩
  exact (@ss_cons _ _ _ _ _ _ (@s_try1n _ _ _ _ _ _ _ _ _ _ _ _ _ _ (fun _ _ _ tq => (@ss_one _ _ _ _ (@s_setX _ _ _ _ _ 1 _ _ sc_note_keys.nd (@x_call _ _ _ _ _ _ _ _ _ _ _ _ _ _ G_read_text (hr.mono (by decide)) T.m_read_text T.k_read_text B_read_text (tq.pass rfl) (@ax_cons _ _ _ _ _ _ (@x_pure _ _ _ _ (@e_dget _ _ _ _ _ _ _ _ _ hu (@e_ixX _ _ _ _ _ _ _ hu (@e_var _ _ 0 _ _ (by rfl) (by first | exact Or.inl rfl | exact Or.inr (Or.inl rfl) | exact Or.inr (Or.inr rfl)) (by decide) (by decide)) e_int (by intro _ _; rfl)) (@d_cons _ _ _ _ _ _ e_str d_nil (by rfl)) (by rfl) (by rfl) (by rfl) (by rfl) (by rfl))) ax_nil (by rfl)) (by rfl) (by decide) (by rfl) (by rfl)) (by rfl) (by first | exact Or.inl rfl | exact Or.inr rfl) (by rfl) (by first | exact .inl rfl | exact .inr rfl)))) T.x_NoText ⟨T.ty_NoText, T.ic_NoText, T.be_NoText⟩ (fun _ => (@ss_one _ _ _ _ (@s_ret _ _ _ _ _ (@e_lst _ _ _ _ _ d_nil)))) (sub_cons T.n_NoText T.h_NoText_NoText sub_nil) sub_nil (by rfl) (by decide) (by rfl) (by rfl) (by rfl)) (@ss_one _ _ _ _ (@s_ret _ _ _ _ _ (@e_call _ _ _ _ _ _ _ _ _ _ _ _ _ _ G_point_keys (hr.mono (by decide)) T.m_point_keys T.k_point_keys B_point_keys (@a_cons _ _ _ _ _ _ (@e_var _ _ 1 _ _ (by rfl) (by first | exact Or.inl rfl | exact Or.inr (Or.inl rfl) | exact Or.inr (Or.inr rfl)) (by decide) (by decide)) a_nil (by rfl)) (by rfl) (by decide) (by rfl) (by rfl)))))
theorem sc_show_point : FnScope ["point"] ["point"] (defScope st_show_point) := ⟨rfl, rfl, rfl, by decide +kernel, rfl, by decide +kernel, by decide +kernel⟩
theorem ok_show_point {fd : FuncData} (F : Fun K "show_point" "show_point" st_show_point fshow_point fd) (T : Txt K mg tNAME_LENGTH tPLAIN_LENGTH tPLAIN_SIGNS tSMALL_LETTERS tSTYLE_SIGNS flaw_parts flaw_spoiled fis_all_of fangled fis_text_of fis_name fis_plain fread_point fread_text flaw_refused flaw_cell_at fpoint_keys fnote_keys fshow_point fshow_text flaw_keys flaw aCiteError aNoHands aNoList aNoName aNoPlain aNoRow aNoStyle aNoText aNoWork) :
    FnOk P w K mg base CX0 1 fshow_point fd ["point"] (spOf K 1 g_show_point) := by
  refine F.ok sc_show_point (fun vs H Q E h => spOf_len h) (fun cdv A outer s H vs Q E hr h => ?_)
  obtain ⟨F0, h⟩ := body_out (N := ["point"]) (f := f_show_point) h
  have hu := hu_of hr
  have hv := hr.units
  refine ⟨liftS (ent H F0 : Ent K) f_show_point, ?_, h⟩
  exact (@ss_cons _ _ _ _ _ _ (@s_if _ _ _ _ _ _ _ _ _ (@t_isN _ _ _ _ _ _ _ (@e_ixX _ _ _ _ _ _ _ hu (@e_var _ _ 0 _ _ (by rfl) (by first | exact Or.inl rfl | exact Or.inr (Or.inl rfl) | exact Or.inr (Or.inr rfl)) (by decide) (by decide)) e_int (by intro _ _; rfl)) e_non) (@ss_one _ _ _ _ (@s_ret _ _ _ _ _ (@e_add _ _ _ _ _ _ _ (@e_add _ _ _ _ _ _ _ e_str (@e_ixX _ _ _ _ _ _ _ hu (@e_var _ _ 0 _ _ (by rfl) (by first | exact Or.inl rfl | exact Or.inr (Or.inl rfl) | exact Or.inr (Or.inr rfl)) (by decide) (by decide)) e_int (by intro _ _; rfl))) e_str))) ss_nil) (@ss_one _ _ _ _ (@s_ret _ _ _ _ _ (@e_add _ _ _ _ _ _ _ (@e_add _ _ _ _ _ _ _ (@e_add _ _ _ _ _ _ _ (@e_add _ _ _ _ _ _ _ e_str (@e_ixX _ _ _ _ _ _ _ hu (@e_var _ _ 0 _ _ (by rfl) (by first | exact Or.inl rfl | exact Or.inr (Or.inl rfl) | exact Or.inr (Or.inr rfl)) (by decide) (by decide)) e_int (by intro _ _; rfl))) e_str) (@e_ixX _ _ _ _ _ _ _ hu (@e_var _ _ 0 _ _ (by rfl) (by first | exact Or.inl rfl | exact Or.inr (Or.inl rfl) | exact Or.inr (Or.inr rfl)) (by decide) (by decide)) e_int (by intro _ _; rfl))) e_str))))
theorem sc_show_text : FnScope ["parts"] ["parts"] (defScope st_show_text) := ⟨rfl, rfl, rfl, by decide +kernel, rfl, by decide +kernel, by decide +kernel⟩
theorem ok_show_text {fd : FuncData} (F : Fun K "show_text" "show_text" st_show_text fshow_text fd) (T : Txt K mg tNAME_LENGTH tPLAIN_LENGTH tPLAIN_SIGNS tSMALL_LETTERS tSTYLE_SIGNS flaw_parts flaw_spoiled fis_all_of fangled fis_text_of fis_name fis_plain fread_point fread_text flaw_refused flaw_cell_at fpoint_keys fnote_keys fshow_point fshow_text flaw_keys flaw aCiteError aNoHands aNoList aNoName aNoPlain aNoRow aNoStyle aNoText aNoWork) {fd_show_point : FuncData} (G_show_point : FnOk P w K mg base CX0 1 fshow_point fd_show_point ["point"] (spOf K 1 g_show_point)) (B_show_point : Binds K fd_show_point ["point"] []) :
    FnOk P w K mg base CX0 2 fshow_text fd ["parts"] (spOf K 1 g_show_text) := by
  refine F.ok sc_show_text (fun vs H Q E h => spOf_len h) (fun cdv A outer s H vs Q E hr h => ?_)
  obtain ⟨F0, h⟩ := body_out (N := ["parts"]) (f := f_show_text) h
  have hu := hu_of hr
  have hv := hr.units
  refine ⟨liftS (ent H F0 : Ent K) f_show_text, ?_, h⟩
  exact (@ss_one _ _ _ _ (@s_ret _ _ _ _ _ (@e_joinX _ _ _ _ _ _ _ _ e_str (@e_comp _ _ _ _ _ _ _ _ _ _ _ _ _ _ _ rfl (compScope (N' := ["part", ".acc"]) (src := [.own, .acc]) (by rfl) (by rfl) (by rfl) (by rfl) (by rfl) (by rfl)) (srcOk 1 (by rfl) (by rfl)) (by decide) (@i_any _ _ _ _ _ (@e_var _ _ 0 _ _ (by rfl) (by first | exact Or.inl rfl | exact Or.inr (Or.inl rfl) | exact Or.inr (Or.inr rfl)) (by decide) (by decide))) (fun _ _ _ _ => @xg _ _ _ (fun _ => (@g_name _ _ _ 0 _ (show (["part", ".acc"] : List Str).Nodup by decide +kernel) (by rfl) (by first | exact Or.inl rfl | exact Or.inr rfl) (by first | exact .inl rfl | exact .inr rfl)))) (fun _ _ _ _ => xt0) (fun _ _ _ _ => @xe _ _ _ (fun _ => (@e_if _ _ _ _ _ _ _ _ _ (@t_val _ _ _ _ (@e_isi _ _ _ _ _ _ _ _ _ T.z_isinstance T.z_str boot_str (kit_str _) (@e_var _ _ 0 _ _ (by rfl) (by first | exact Or.inl rfl | exact Or.inr (Or.inl rfl) | exact Or.inr (Or.inr rfl)) (by decide) (by decide)) (by rfl) (by rfl) (by decide) (by decide) (by rfl) (by rfl) (by rfl)) (by intro _; rfl)) (@e_var _ _ 0 _ _ (by rfl) (by first | exact Or.inl rfl | exact Or.inr (Or.inl rfl) | exact Or.inr (Or.inr rfl)) (by decide) (by decide)) (@e_call _ _ _ _ _ _ _ _ _ _ _ _ _ _ G_show_point (hr.mono (by decide)) T.m_show_point T.k_show_point B_show_point (@a_cons _ _ _ _ _ _ (@e_var _ _ 0 _ _ (by rfl) (by first | exact Or.inl rfl | exact Or.inr (Or.inl rfl) | exact Or.inr (Or.inr rfl)) (by decide) (by decide)) a_nil (by rfl)) (by rfl) (by decide) (by rfl) (by rfl))))) (by intro _; rfl)) (by rfl) (by rfl) (by rfl) (by rfl) (by rfl))))
theorem sc_law_keys : FnScope ["_law_parts_here", "_law_some", "_law_keys_here", "_law_part"] ["_law_parts_here"] (defScope st_law_keys) := ⟨rfl, rfl, rfl, by decide +kernel, rfl, by decide +kernel, by decide +kernel⟩
theorem ok_law_keys {fd : FuncData} (F : Fun K "_law_keys" "_law_keys" st_law_keys flaw_keys fd) (T : Txt K mg tNAME_LENGTH tPLAIN_LENGTH tPLAIN_SIGNS tSMALL_LETTERS tSTYLE_SIGNS flaw_parts flaw_spoiled fis_all_of fangled fis_text_of fis_name fis_plain fread_point fread_text flaw_refused flaw_cell_at fpoint_keys fnote_keys fshow_point fshow_text flaw_keys flaw aCiteError aNoHands aNoList aNoName aNoPlain aNoRow aNoStyle aNoText aNoWork) :
    FnOk P w K mg base CX0 1 flaw_keys fd ["_law_parts_here"] (spOf K 1 g_law_keys) := by
  refine F.ok sc_law_keys (fun vs H Q E h => spOf_len h) (fun cdv A outer s H vs Q E hr h => ?_)
  obtain ⟨F0, h⟩ := body_out (N := ["_law_parts_here", "_law_some", "_law_keys_here", "_law_part"]) (f := f_law_keys) h
  have hu := hu_of hr
  have hv := hr.units
  refine ⟨liftS (ent H F0 : Ent K) f_law_keys, ?_, h⟩
  exact (@ss_cons _ _ _ _ _ _ (@s_set _ _ _ _ _ 1 _ _ sc_law_keys.nd (@e_dispN _ _ _ _ _ _ _ (@pp_cons _ _ _ _ _ _ _ _ _ _ _ (@e_lst _ _ _ _ _ (@d_cons _ _ _ _ _ _ e_str d_nil (by rfl))) (@pp_cons _ _ _ _ _ _ _ _ _ _ _ (@e_lst _ _ _ _ _ (@d_cons _ _ _ _ _ _ e_str d_nil (by rfl))) (@pp_cons _ _ _ _ _ _ _ _ _ _ _ (@e_lst _ _ _ _ _ (@d_texts _ _ _ _ [("c", _, _), ("ab", _, _)] d_nil)) (@pp_cons _ _ _ _ _ _ _ _ _ _ _ (@e_lst _ _ _ _ _ (@d_texts _ _ _ _ [("ab", _, _), ("ab", _, _)] d_nil)) pp_nil)))) (show (["<ab>", "<ab 12>", "it: <c> and <ab>", "<ab><ab>"] : List Str).Nodup by decide +kernel) (by rfl) (by decide) (by rfl) (by rfl) (by exact List.cons_ne_nil _ _) (by rfl)) (by rfl) (by first | exact Or.inl rfl | exact Or.inr rfl) (by rfl) (by first | exact .inl rfl | exact .inr rfl)) (@ss_cons _ _ _ _ _ _ (@s_set _ _ _ _ _ 2 _ _ sc_law_keys.nd (@e_lst _ _ _ _ _ d_nil) (by rfl) (by first | exact Or.inl rfl | exact Or.inr rfl) (by rfl) (by first | exact .inl rfl | exact .inr rfl)) (@ss_cons _ _ _ _ _ _ (@s_for _ _ _ _ _ _ _ _ _ PassesOwn.never rfl (@i_any _ _ _ _ _ (@e_var _ _ 0 _ _ (by rfl) (by first | exact Or.inl rfl | exact Or.inr (Or.inl rfl) | exact Or.inr (Or.inr rfl)) (by decide) (by decide))) (@g_name _ _ _ 3 _ sc_law_keys.nd (by rfl) (by first | exact Or.inl rfl | exact Or.inr rfl) (by first | exact .inl rfl | exact .inr rfl)) (@ss_cons _ _ _ _ _ _ (@s_set _ _ _ _ _ 2 _ _ sc_law_keys.nd (@e_add _ _ _ _ _ _ _ (@e_var _ _ 2 _ _ (by rfl) (by first | exact Or.inl rfl | exact Or.inr (Or.inl rfl) | exact Or.inr (Or.inr rfl)) (by decide) (by decide)) (@e_dget _ _ _ _ _ _ _ _ _ hu (@e_var _ _ 1 _ _ (by rfl) (by first | exact Or.inl rfl | exact Or.inr (Or.inl rfl) | exact Or.inr (Or.inr rfl)) (by decide) (by decide)) (@d_cons _ _ _ _ _ _ (@e_var _ _ 3 _ _ (by rfl) (by first | exact Or.inl rfl | exact Or.inr (Or.inl rfl) | exact Or.inr (Or.inr rfl)) (by decide) (by decide)) (@d_cons _ _ _ _ _ _ (@e_lst _ _ _ _ _ d_nil) d_nil (by rfl)) (by rfl)) (by rfl) (by rfl) (by rfl) (by rfl) (by rfl))) (by rfl) (by first | exact Or.inl rfl | exact Or.inr rfl) (by rfl) (by first | exact .inl rfl | exact .inr rfl)) (@ss_one _ _ _ _ (@s_if _ _ _ _ _ _ _ _ _ (@t_eqY _ _ _ _ _ _ _ hv (@e_var _ _ 3 _ _ (by rfl) (by first | exact Or.inl rfl | exact Or.inr (Or.inl rfl) | exact Or.inr (Or.inr rfl)) (by decide) (by decide)) e_str) (@ss_one _ _ _ _ (@s_app _ _ _ _ _ 2 _ _ _ _ e_str (by rfl) (by first | exact Or.inl rfl | exact Or.inr (Or.inl rfl) | exact Or.inr (Or.inr rfl)) (by decide) (by decide) (by rfl) (by rfl) (by rfl) (by rfl) (by rfl) (by rfl))) ss_nil))) (by intro _; rfl)) (@ss_one _ _ _ _ (@s_ret _ _ _ _ _ (@e_var _ _ 2 _ _ (by rfl) (by first | exact Or.inl rfl | exact Or.inr (Or.inl rfl) | exact Or.inr (Or.inr rfl)) (by decide) (by decide)))))))
theorem sc_law : FnScope ["_law_script", "_law_k", "_law_parts_here", "_law_text", "_law_spoiled_here", "_law_work", "_law_thing"] ["_law_script"] (defScope st_law) := ⟨rfl, rfl, rfl, by decide +kernel, rfl, by decide +kernel, by decide +kernel⟩
theorem ok_law {fd : FuncData} (F : Fun K "law" "law" st_law flaw fd) (T : Txt K mg tNAME_LENGTH tPLAIN_LENGTH tPLAIN_SIGNS tSMALL_LETTERS tSTYLE_SIGNS flaw_parts flaw_spoiled fis_all_of fangled fis_text_of fis_name fis_plain fread_point fread_text flaw_refused flaw_cell_at fpoint_keys fnote_keys fshow_point fshow_text flaw_keys flaw aCiteError aNoHands aNoList aNoName aNoPlain aNoRow aNoStyle aNoText aNoWork) {fd_law_parts : FuncData} (G_law_parts : FnOk P w K mg base CX0 1 flaw_parts fd_law_parts ["_law_cell"] (spOf K 1 g_law_parts)) (B_law_parts : Binds K fd_law_parts ["_law_cell"] []) {fd_law_spoiled : FuncData} (G_law_spoiled : FnOk P w K mg base CX0 1 flaw_spoiled fd_law_spoiled ["_law_parts_here", "_law_cell"] (spOf K 2 g_law_spoiled)) (B_law_spoiled : Binds K fd_law_spoiled ["_law_parts_here", "_law_cell"] []) {fd_read_text : FuncData} (G_read_text : FnOk P w K mg base (CX1 P w) 5 fread_text fd_read_text ["text"] (spX K 1 h_read_text)) (B_read_text : Binds K fd_read_text ["text"] []) {fd_law_refused : FuncData} (G_law_refused : FnOk P w K mg base CX0 6 flaw_refused fd_law_refused ["_law_thing"] (spOf K 1 g_law_refused)) (B_law_refused : Binds K fd_law_refused ["_law_thing"] []) {fd_law_cell_at : FuncData} (G_law_cell_at : FnOk P w K mg base CX0 1 flaw_cell_at fd_law_cell_at ["_law_script", "_law_k"] (spOf K 2 g_law_cell_at)) (B_law_cell_at : Binds K fd_law_cell_at ["_law_script", "_law_k"] []) {fd_note_keys : FuncData} (G_note_keys : FnOk P w K mg base CX0 6 fnote_keys fd_note_keys ["work"] (spOf K 1 g_note_keys)) (B_note_keys : Binds K fd_note_keys ["work"] []) {fd_show_text : FuncData} (G_show_text : FnOk P w K mg base CX0 2 fshow_text fd_show_text ["parts"] (spOf K 1 g_show_text)) (B_show_text : Binds K fd_show_text ["parts"] []) {fd_law_keys : FuncData} (G_law_keys : FnOk P w K mg base CX0 1 flaw_keys fd_law_keys ["_law_parts_here"] (spOf K 1 g_law_keys)) (B_law_keys : Binds K fd_law_keys ["_law_parts_here"] []) :
    FnOk P w K mg base CX0 7 flaw fd ["_law_script"] (spOf K 1 g_law) := by
  refine F.ok sc_law (fun vs H Q E h => spOf_len h) (fun cdv A outer s H vs Q E hr h => ?_)
  obtain ⟨F0, h⟩ := body_out (N := ["_law_script", "_law_k", "_law_parts_here", "_law_text", "_law_spoiled_here", "_law_work", "_law_thing"]) (f := f_law) h
  have hu := hu_of hr
  have hv := hr.units
  refine ⟨liftS (ent H F0 : Ent K) f_law, ?_, h⟩
  exact (@ss_cons _ _ _ _ _ _ (@s_for _ _ _ _ _ _ _ _ _ PassesOwn.never rfl (@i_rng _ _ _ _ _ _ _ T.z_range (@e_min _ _ _ _ _ _ _ _ T.z_min rfl (@e_len _ _ _ _ _ _ T.z_len (@e_var _ _ 0 _ _ (by rfl) (by first | exact Or.inl rfl | exact Or.inr (Or.inl rfl) | exact Or.inr (Or.inr rfl)) (by decide) (by decide)) (by rfl) (by rfl) (by rfl)) e_int (by rfl) (by rfl) (by rfl) (by rfl)) (by rfl) (by rfl)) (@g_name _ _ _ 1 _ sc_law.nd (by rfl) (by first | exact Or.inl rfl | exact Or.inr rfl) (by first | exact .inl rfl | exact .inr rfl)) (@ss_cons _ _ _ _ _ _ (@s_set _ _ _ _ _ 2 _ _ sc_law.nd (@e_call _ _ _ _ _ _ _ _ _ _ _ _ _ _ G_law_parts (hr.mono (by decide)) T.m_law_parts T.k_law_parts B_law_parts (@a_cons _ _ _ _ _ _ (@e_ixX _ _ _ _ _ _ _ hu (@e_var _ _ 0 _ _ (by rfl) (by first | exact Or.inl rfl | exact Or.inr (Or.inl rfl) | exact Or.inr (Or.inr rfl)) (by decide) (by decide)) (@e_var _ _ 1 _ _ (by rfl) (by first | exact Or.inl rfl | exact Or.inr (Or.inl rfl) | exact Or.inr (Or.inr rfl)) (by decide) (by decide)) (by intro _ _; rfl)) a_nil (by rfl)) (by rfl) (by decide) (by rfl) (by rfl)) (by rfl) (by first | exact Or.inl rfl | exact Or.inr rfl) (by rfl) (by first | exact .inl rfl | exact .inr rfl)) (@ss_cons _ _ _ _ _ _ (@s_set _ _ _ _ _ 3 _ _ sc_law.nd (@e_joinX _ _ _ _ _ _ _ _ e_str (@e_var _ _ 2 _ _ (by rfl) (by first | exact Or.inl rfl | exact Or.inr (Or.inl rfl) | exact Or.inr (Or.inr rfl)) (by decide) (by decide)) (by rfl) (by rfl) (by rfl) (by rfl) (by rfl)) (by rfl) (by first | exact Or.inl rfl | exact Or.inr rfl) (by rfl) (by first | exact .inl rfl | exact .inr rfl)) (@ss_cons _ _ _ _ _ _ (@s_set _ _ _ _ _ 4 _ _ sc_law.nd (@e_call _ _ _ _ _ _ _ _ _ _ _ _ _ _ G_law_spoiled (hr.mono (by decide)) T.m_law_spoiled T.k_law_spoiled B_law_spoiled (@a_cons _ _ _ _ _ _ (@e_var _ _ 2 _ _ (by rfl) (by first | exact Or.inl rfl | exact Or.inr (Or.inl rfl) | exact Or.inr (Or.inr rfl)) (by decide) (by decide)) (@a_cons _ _ _ _ _ _ (@e_add _ _ _ _ _ _ _ (@e_fdiv _ _ _ _ _ _ _ (@e_ixX _ _ _ _ _ _ _ hu (@e_var _ _ 0 _ _ (by rfl) (by first | exact Or.inl rfl | exact Or.inr (Or.inl rfl) | exact Or.inr (Or.inr rfl)) (by decide) (by decide)) (@e_var _ _ 1 _ _ (by rfl) (by first | exact Or.inl rfl | exact Or.inr (Or.inl rfl) | exact Or.inr (Or.inr rfl)) (by decide) (by decide)) (by intro _ _; rfl)) e_int) (@e_var _ _ 1 _ _ (by rfl) (by first | exact Or.inl rfl | exact Or.inr (Or.inl rfl) | exact Or.inr (Or.inr rfl)) (by decide) (by decide))) a_nil (by rfl)) (by rfl)) (by rfl) (by decide) (by rfl) (by rfl)) (by rfl) (by first | exact Or.inl rfl | exact Or.inr rfl) (by rfl) (by first | exact .inl rfl | exact .inr rfl)) (@ss_cons _ _ _ _ _ _ (@s_if _ _ _ _ _ _ _ _ _ (@PW.pt _ _ _ (@w_or _ _ _ _ _ _ _ _ (@t_not _ _ _ _ _ (@t_val _ _ _ _ (@e_call _ _ _ _ _ _ _ _ _ _ _ _ _ _ G_law_refused (hr.mono (by decide)) T.m_law_refused T.k_law_refused B_law_refused (@a_cons _ _ _ _ _ _ (@e_var _ _ 4 _ _ (by rfl) (by first | exact Or.inl rfl | exact Or.inr (Or.inl rfl) | exact Or.inr (Or.inr rfl)) (by decide) (by decide)) a_nil (by rfl)) (by rfl) (by decide) (by rfl) (by rfl)) (by intro _; rfl))) (@w_or1 _ _ _ _ _ (@t_neY _ _ _ _ _ _ _ hv (@e_call _ _ _ _ _ _ _ _ _ _ _ _ _ _ G_show_text (hr.mono (by decide)) T.m_show_text T.k_show_text B_show_text (@a_cons _ _ _ _ _ _ (@e_callV _ _ _ _ _ _ _ _ _ _ _ _ _ _ G_read_text (hr.mono (by decide)) T.m_read_text T.k_read_text B_read_text (@a_cons _ _ _ _ _ _ (@e_var _ _ 3 _ _ (by rfl) (by first | exact Or.inl rfl | exact Or.inr (Or.inl rfl) | exact Or.inr (Or.inr rfl)) (by decide) (by decide)) a_nil (by rfl)) (by rfl) (by decide) (by rfl) (by rfl)) a_nil (by rfl)) (by rfl) (by decide) (by rfl) (by rfl)) (@e_var _ _ 3 _ _ (by rfl) (by first | exact Or.inl rfl | exact Or.inr (Or.inl rfl) | exact Or.inr (Or.inr rfl)) (by decide) (by decide)))))) (@ss_one _ _ _ _ (@s_ret _ _ _ _ _ e_bl)) ss_nil) (@ss_cons _ _ _ _ _ _ (@s_set _ _ _ _ _ 5 _ _ sc_law.nd (@e_tup _ _ _ _ _ _ (@d_cons _ _ _ _ _ _ e_str (@d_cons _ _ _ _ _ _ (@e_dispN _ _ _ _ _ _ _ (@pp_cons _ _ _ _ _ _ _ _ _ _ _ e_str (@pp_cons _ _ _ _ _ _ _ _ _ _ _ (@e_var _ _ 3 _ _ (by rfl) (by first | exact Or.inl rfl | exact Or.inr (Or.inl rfl) | exact Or.inr (Or.inr rfl)) (by decide) (by decide)) pp_nil)) (show (["title", "note"] : List Str).Nodup by decide +kernel) (by rfl) (by decide) (by rfl) (by rfl) (by exact List.cons_ne_nil _ _) (by rfl)) d_nil (by rfl)) (by rfl))) (by rfl) (by first | exact Or.inl rfl | exact Or.inr rfl) (by rfl) (by first | exact .inl rfl | exact .inr rfl)) (@ss_one _ _ _ _ (@s_if _ _ _ _ _ _ _ _ _ (@PW.pt _ _ _ (@w_or _ _ _ _ _ _ _ _ (@t_neY _ _ _ _ _ _ _ hv (@e_call _ _ _ _ _ _ _ _ _ _ _ _ _ _ G_note_keys (hr.mono (by decide)) T.m_note_keys T.k_note_keys B_note_keys (@a_cons _ _ _ _ _ _ (@e_var _ _ 5 _ _ (by rfl) (by first | exact Or.inl rfl | exact Or.inr (Or.inl rfl) | exact Or.inr (Or.inr rfl)) (by decide) (by decide)) a_nil (by rfl)) (by rfl) (by decide) (by rfl) (by rfl)) (@e_call _ _ _ _ _ _ _ _ _ _ _ _ _ _ G_law_keys (hr.mono (by decide)) T.m_law_keys T.k_law_keys B_law_keys (@a_cons _ _ _ _ _ _ (@e_var _ _ 2 _ _ (by rfl) (by first | exact Or.inl rfl | exact Or.inr (Or.inl rfl) | exact Or.inr (Or.inr rfl)) (by decide) (by decide)) a_nil (by rfl)) (by rfl) (by decide) (by rfl) (by rfl))) (@w_or1 _ _ _ _ _ (@t_neY _ _ _ _ _ _ _ hv (@e_call _ _ _ _ _ _ _ _ _ _ _ _ _ _ G_note_keys (hr.mono (by decide)) T.m_note_keys T.k_note_keys B_note_keys (@a_cons _ _ _ _ _ _ (@e_tup _ _ _ _ _ _ (@d_cons _ _ _ _ _ _ e_str (@d_cons _ _ _ _ _ _ (@e_dispN _ _ _ _ _ _ _ (@pp_cons _ _ _ _ _ _ _ _ _ _ _ (@e_var _ _ 4 _ _ (by rfl) (by first | exact Or.inl rfl | exact Or.inr (Or.inl rfl) | exact Or.inr (Or.inr rfl)) (by decide) (by decide)) (@pp_cons _ _ _ _ _ _ _ _ _ _ _ e_str pp_nil)) (show (["note", "in"] : List Str).Nodup by decide +kernel) (by rfl) (by decide) (by rfl) (by rfl) (by exact List.cons_ne_nil _ _) (by rfl)) d_nil (by rfl)) (by rfl))) a_nil (by rfl)) (by rfl) (by decide) (by rfl) (by rfl)) (@e_lst _ _ _ _ _ d_nil))))) (@ss_one _ _ _ _ (@s_ret _ _ _ _ _ e_bl)) ss_nil))))))) (by intro _; rfl)) (@ss_cons _ _ _ _ _ _ (@s_set _ _ _ _ _ 6 _ _ sc_law.nd (@e_ixX _ _ _ _ _ _ _ hu (@e_lst _ _ _ _ _ (@d_cons _ _ _ _ _ _ e_non (@d_cons _ _ _ _ _ _ e_int (@d_cons _ _ _ _ _ _ (@e_lst _ _ _ _ _ (@d_cons _ _ _ _ _ _ e_str d_nil (by rfl))) (@d_cons _ _ _ _ _ _ (@e_tup _ _ _ _ _ _ (@d_texts _ _ _ _ [("point", _, _), ("ab", _, _)] (@d_cons _ _ _ _ _ _ e_non d_nil (by rfl)))) d_nil (by rfl)) (by rfl)) (by rfl)) (by rfl))) (@e_mod _ _ _ _ _ _ _ (@e_call _ _ _ _ _ _ _ _ _ _ _ _ _ _ G_law_cell_at (hr.mono (by decide)) T.m_law_cell_at T.k_law_cell_at B_law_cell_at (@a_cons _ _ _ _ _ _ (@e_var _ _ 0 _ _ (by rfl) (by first | exact Or.inl rfl | exact Or.inr (Or.inl rfl) | exact Or.inr (Or.inr rfl)) (by decide) (by decide)) (@a_cons _ _ _ _ _ _ e_int a_nil (by rfl)) (by rfl)) (by rfl) (by decide) (by rfl) (by rfl)) e_int) (by intro _ _; rfl)) (by rfl) (by first | exact Or.inl rfl | exact Or.inr rfl) (by rfl) (by first | exact .inl rfl | exact .inr rfl)) (@ss_one _ _ _ _ (@s_ret _ _ _ _ _ (@e_and _ _ _ _ _ _ _ _ (@e_call _ _ _ _ _ _ _ _ _ _ _ _ _ _ G_law_refused (hr.mono (by decide)) T.m_law_refused T.k_law_refused B_law_refused (@a_cons _ _ _ _ _ _ (@e_var _ _ 6 _ _ (by rfl) (by first | exact Or.inl rfl | exact Or.inr (Or.inl rfl) | exact Or.inr (Or.inr rfl)) (by decide) (by decide)) a_nil (by rfl)) (by rfl) (by decide) (by rfl) (by rfl)) (@e_one _ _ _ _ _ _ (@e_eqY _ _ _ _ _ _ _ hv (@e_call _ _ _ _ _ _ _ _ _ _ _ _ _ _ G_note_keys (hr.mono (by decide)) T.m_note_keys T.k_note_keys B_note_keys (@a_cons _ _ _ _ _ _ (@e_tup _ _ _ _ _ _ (@d_cons _ _ _ _ _ _ e_str (@d_cons _ _ _ _ _ _ (@e_dispN _ _ _ _ _ _ _ (@pp_cons _ _ _ _ _ _ _ _ _ _ _ e_str pp_nil) (show (["title"] : List Str).Nodup by decide +kernel) (by rfl) (by decide) (by rfl) (by rfl) (by exact List.cons_ne_nil _ _) (by rfl)) d_nil (by rfl)) (by rfl))) a_nil (by rfl)) (by rfl) (by decide) (by rfl) (by rfl)) (@e_lst _ _ _ _ _ d_nil))))))))
end
theorem all_mk {l : PySem.W.OpenLaw} {w : World} {K : PySem.W.Frag} {h : Heap} {mg : Str → Option Value} {tNAME_LENGTH : Tok} {tPLAIN_LENGTH : Tok} {tPLAIN_SIGNS : Tok} {tSMALL_LETTERS : Tok} {tSTYLE_SIGNS : Tok} {fa flaw_parts flaw_spoiled fis_all_of fangled fis_text_of fis_name fis_plain fread_point fread_text flaw_refused flaw_cell_at fpoint_keys fnote_keys fshow_point fshow_text flaw_keys flaw aCiteError aNoHands aNoList aNoName aNoPlain aNoRow aNoStyle aNoText aNoWork : Addr} (X : K.In h) (G : h.Ns mainGlobals mg) (hfa : mg "law" = some (.ref fa))
    {odlaw_parts anlaw_parts : Option Addr} {sllaw_parts : Array (Option Value)} {oclaw_parts kVlaw_parts dclaw_parts pmlaw_parts cdlaw_parts ctlaw_parts : Value}
    {odlaw_spoiled anlaw_spoiled : Option Addr} {sllaw_spoiled : Array (Option Value)} {oclaw_spoiled kVlaw_spoiled dclaw_spoiled pmlaw_spoiled cdlaw_spoiled ctlaw_spoiled : Value}
    {odis_all_of anis_all_of : Option Addr} {slis_all_of : Array (Option Value)} {ocis_all_of kVis_all_of dcis_all_of pmis_all_of cdis_all_of ctis_all_of : Value}
    {odangled anangled : Option Addr} {slangled : Array (Option Value)} {ocangled kVangled dcangled pmangled cdangled ctangled : Value}
    {odis_text_of anis_text_of : Option Addr} {slis_text_of : Array (Option Value)} {ocis_text_of kVis_text_of dcis_text_of pmis_text_of cdis_text_of ctis_text_of : Value}
    {odis_name anis_name : Option Addr} {slis_name : Array (Option Value)} {ocis_name kVis_name dcis_name pmis_name cdis_name ctis_name : Value}
    {odis_plain anis_plain : Option Addr} {slis_plain : Array (Option Value)} {ocis_plain kVis_plain dcis_plain pmis_plain cdis_plain ctis_plain : Value}
    {odread_point anread_point : Option Addr} {slread_point : Array (Option Value)} {ocread_point kVread_point dcread_point pmread_point cdread_point ctread_point : Value}
    {odread_text anread_text : Option Addr} {slread_text : Array (Option Value)} {ocread_text kVread_text dcread_text pmread_text cdread_text ctread_text : Value}
    {odlaw_refused anlaw_refused : Option Addr} {sllaw_refused : Array (Option Value)} {oclaw_refused kVlaw_refused dclaw_refused pmlaw_refused cdlaw_refused ctlaw_refused : Value}
    {odlaw_cell_at anlaw_cell_at : Option Addr} {sllaw_cell_at : Array (Option Value)} {oclaw_cell_at kVlaw_cell_at dclaw_cell_at pmlaw_cell_at cdlaw_cell_at ctlaw_cell_at : Value}
    {odpoint_keys anpoint_keys : Option Addr} {slpoint_keys : Array (Option Value)} {ocpoint_keys kVpoint_keys dcpoint_keys pmpoint_keys cdpoint_keys ctpoint_keys : Value}
    {odnote_keys annote_keys : Option Addr} {slnote_keys : Array (Option Value)} {ocnote_keys kVnote_keys dcnote_keys pmnote_keys cdnote_keys ctnote_keys : Value}
    {odshow_point anshow_point : Option Addr} {slshow_point : Array (Option Value)} {ocshow_point kVshow_point dcshow_point pmshow_point cdshow_point ctshow_point : Value}
    {odshow_text anshow_text : Option Addr} {slshow_text : Array (Option Value)} {ocshow_text kVshow_text dcshow_text pmshow_text cdshow_text ctshow_text : Value}
    {odlaw_keys anlaw_keys : Option Addr} {sllaw_keys : Array (Option Value)} {oclaw_keys kVlaw_keys dclaw_keys pmlaw_keys cdlaw_keys ctlaw_keys : Value}
    {odlaw anlaw : Option Addr} {sllaw : Array (Option Value)} {oclaw kVlaw dclaw pmlaw cdlaw ctlaw : Value}
    (alaw_parts : PySem.W.nsIn K mainGlobals "_law_parts" = some (some (.ref flaw_parts))) (llaw_parts : K.lookup flaw_parts = some ⟨oclaw_parts, odlaw_parts, .func (PySem.W.fnOf "_law_parts" "_law_parts" (defArgs st_law_parts) (defBody st_law_parts) (defScope st_law_parts) .none kVlaw_parts dclaw_parts pmlaw_parts anlaw_parts cdlaw_parts ctlaw_parts), sllaw_parts⟩) (claw_parts : PySem.W.codeIn K cdlaw_parts "_law_parts" = true) (klaw_parts : PySem.W.keepIn K (.ref flaw_parts) = true)
    (alaw_spoiled : PySem.W.nsIn K mainGlobals "_law_spoiled" = some (some (.ref flaw_spoiled))) (llaw_spoiled : K.lookup flaw_spoiled = some ⟨oclaw_spoiled, odlaw_spoiled, .func (PySem.W.fnOf "_law_spoiled" "_law_spoiled" (defArgs st_law_spoiled) (defBody st_law_spoiled) (defScope st_law_spoiled) .none kVlaw_spoiled dclaw_spoiled pmlaw_spoiled anlaw_spoiled cdlaw_spoiled ctlaw_spoiled), sllaw_spoiled⟩) (claw_spoiled : PySem.W.codeIn K cdlaw_spoiled "_law_spoiled" = true) (klaw_spoiled : PySem.W.keepIn K (.ref flaw_spoiled) = true)
    (ais_all_of : PySem.W.nsIn K mainGlobals "is_all_of" = some (some (.ref fis_all_of))) (lis_all_of : K.lookup fis_all_of = some ⟨ocis_all_of, odis_all_of, .func (PySem.W.fnOf "is_all_of" "is_all_of" (defArgs st_is_all_of) (defBody st_is_all_of) (defScope st_is_all_of) .none kVis_all_of dcis_all_of pmis_all_of anis_all_of cdis_all_of ctis_all_of), slis_all_of⟩) (cis_all_of : PySem.W.codeIn K cdis_all_of "is_all_of" = true) (kis_all_of : PySem.W.keepIn K (.ref fis_all_of) = true)
    (aangled : PySem.W.nsIn K mainGlobals "angled" = some (some (.ref fangled))) (langled : K.lookup fangled = some ⟨ocangled, odangled, .func (PySem.W.fnOf "angled" "angled" (defArgs st_angled) (defBody st_angled) (defScope st_angled) .none kVangled dcangled pmangled anangled cdangled ctangled), slangled⟩) (cangled : PySem.W.codeIn K cdangled "angled" = true) (kangled : PySem.W.keepIn K (.ref fangled) = true)
    (ais_text_of : PySem.W.nsIn K mainGlobals "is_text_of" = some (some (.ref fis_text_of))) (lis_text_of : K.lookup fis_text_of = some ⟨ocis_text_of, odis_text_of, .func (PySem.W.fnOf "is_text_of" "is_text_of" (defArgs st_is_text_of) (defBody st_is_text_of) (defScope st_is_text_of) .none kVis_text_of dcis_text_of pmis_text_of anis_text_of cdis_text_of ctis_text_of), slis_text_of⟩) (cis_text_of : PySem.W.codeIn K cdis_text_of "is_text_of" = true) (kis_text_of : PySem.W.keepIn K (.ref fis_text_of) = true)
    (ais_name : PySem.W.nsIn K mainGlobals "is_name" = some (some (.ref fis_name))) (lis_name : K.lookup fis_name = some ⟨ocis_name, odis_name, .func (PySem.W.fnOf "is_name" "is_name" (defArgs st_is_name) (defBody st_is_name) (defScope st_is_name) .none kVis_name dcis_name pmis_name anis_name cdis_name ctis_name), slis_name⟩) (cis_name : PySem.W.codeIn K cdis_name "is_name" = true) (kis_name : PySem.W.keepIn K (.ref fis_name) = true)
    (ais_plain : PySem.W.nsIn K mainGlobals "is_plain" = some (some (.ref fis_plain))) (lis_plain : K.lookup fis_plain = some ⟨ocis_plain, odis_plain, .func (PySem.W.fnOf "is_plain" "is_plain" (defArgs st_is_plain) (defBody st_is_plain) (defScope st_is_plain) .none kVis_plain dcis_plain pmis_plain anis_plain cdis_plain ctis_plain), slis_plain⟩) (cis_plain : PySem.W.codeIn K cdis_plain "is_plain" = true) (kis_plain : PySem.W.keepIn K (.ref fis_plain) = true)
    (aread_point : PySem.W.nsIn K mainGlobals "read_point" = some (some (.ref fread_point))) (lread_point : K.lookup fread_point = some ⟨ocread_point, odread_point, .func (PySem.W.fnOf "read_point" "read_point" (defArgs st_read_point) (defBody st_read_point) (defScope st_read_point) .none kVread_point dcread_point pmread_point anread_point cdread_point ctread_point), slread_point⟩) (cread_point : PySem.W.codeIn K cdread_point "read_point" = true) (kread_point : PySem.W.keepIn K (.ref fread_point) = true)
    (aread_text : PySem.W.nsIn K mainGlobals "read_text" = some (some (.ref fread_text))) (lread_text : K.lookup fread_text = some ⟨ocread_text, odread_text, .func (PySem.W.fnOf "read_text" "read_text" (defArgs st_read_text) (defBody st_read_text) (defScope st_read_text) .none kVread_text dcread_text pmread_text anread_text cdread_text ctread_text), slread_text⟩) (cread_text : PySem.W.codeIn K cdread_text "read_text" = true) (kread_text : PySem.W.keepIn K (.ref fread_text) = true)
    (alaw_refused : PySem.W.nsIn K mainGlobals "_law_refused" = some (some (.ref flaw_refused))) (llaw_refused : K.lookup flaw_refused = some ⟨oclaw_refused, odlaw_refused, .func (PySem.W.fnOf "_law_refused" "_law_refused" (defArgs st_law_refused) (defBody st_law_refused) (defScope st_law_refused) .none kVlaw_refused dclaw_refused pmlaw_refused anlaw_refused cdlaw_refused ctlaw_refused), sllaw_refused⟩) (claw_refused : PySem.W.codeIn K cdlaw_refused "_law_refused" = true) (klaw_refused : PySem.W.keepIn K (.ref flaw_refused) = true)
    (alaw_cell_at : PySem.W.nsIn K mainGlobals "_law_cell_at" = some (some (.ref flaw_cell_at))) (llaw_cell_at : K.lookup flaw_cell_at = some ⟨oclaw_cell_at, odlaw_cell_at, .func (PySem.W.fnOf "_law_cell_at" "_law_cell_at" (defArgs st_law_cell_at) (defBody st_law_cell_at) (defScope st_law_cell_at) .none kVlaw_cell_at dclaw_cell_at pmlaw_cell_at anlaw_cell_at cdlaw_cell_at ctlaw_cell_at), sllaw_cell_at⟩) (claw_cell_at : PySem.W.codeIn K cdlaw_cell_at "_law_cell_at" = true) (klaw_cell_at : PySem.W.keepIn K (.ref flaw_cell_at) = true)
    (apoint_keys : PySem.W.nsIn K mainGlobals "point_keys" = some (some (.ref fpoint_keys))) (lpoint_keys : K.lookup fpoint_keys = some ⟨ocpoint_keys, odpoint_keys, .func (PySem.W.fnOf "point_keys" "point_keys" (defArgs st_point_keys) (defBody st_point_keys) (defScope st_point_keys) .none kVpoint_keys dcpoint_keys pmpoint_keys anpoint_keys cdpoint_keys ctpoint_keys), slpoint_keys⟩) (cpoint_keys : PySem.W.codeIn K cdpoint_keys "point_keys" = true) (kpoint_keys : PySem.W.keepIn K (.ref fpoint_keys) = true)
    (anote_keys : PySem.W.nsIn K mainGlobals "note_keys" = some (some (.ref fnote_keys))) (lnote_keys : K.lookup fnote_keys = some ⟨ocnote_keys, odnote_keys, .func (PySem.W.fnOf "note_keys" "note_keys" (defArgs st_note_keys) (defBody st_note_keys) (defScope st_note_keys) .none kVnote_keys dcnote_keys pmnote_keys annote_keys cdnote_keys ctnote_keys), slnote_keys⟩) (cnote_keys : PySem.W.codeIn K cdnote_keys "note_keys" = true) (knote_keys : PySem.W.keepIn K (.ref fnote_keys) = true)
    (ashow_point : PySem.W.nsIn K mainGlobals "show_point" = some (some (.ref fshow_point))) (lshow_point : K.lookup fshow_point = some ⟨ocshow_point, odshow_point, .func (PySem.W.fnOf "show_point" "show_point" (defArgs st_show_point) (defBody st_show_point) (defScope st_show_point) .none kVshow_point dcshow_point pmshow_point anshow_point cdshow_point ctshow_point), slshow_point⟩) (cshow_point : PySem.W.codeIn K cdshow_point "show_point" = true) (kshow_point : PySem.W.keepIn K (.ref fshow_point) = true)
    (ashow_text : PySem.W.nsIn K mainGlobals "show_text" = some (some (.ref fshow_text))) (lshow_text : K.lookup fshow_text = some ⟨ocshow_text, odshow_text, .func (PySem.W.fnOf "show_text" "show_text" (defArgs st_show_text) (defBody st_show_text) (defScope st_show_text) .none kVshow_text dcshow_text pmshow_text anshow_text cdshow_text ctshow_text), slshow_text⟩) (cshow_text : PySem.W.codeIn K cdshow_text "show_text" = true) (kshow_text : PySem.W.keepIn K (.ref fshow_text) = true)
    (alaw_keys : PySem.W.nsIn K mainGlobals "_law_keys" = some (some (.ref flaw_keys))) (llaw_keys : K.lookup flaw_keys = some ⟨oclaw_keys, odlaw_keys, .func (PySem.W.fnOf "_law_keys" "_law_keys" (defArgs st_law_keys) (defBody st_law_keys) (defScope st_law_keys) .none kVlaw_keys dclaw_keys pmlaw_keys anlaw_keys cdlaw_keys ctlaw_keys), sllaw_keys⟩) (claw_keys : PySem.W.codeIn K cdlaw_keys "_law_keys" = true) (klaw_keys : PySem.W.keepIn K (.ref flaw_keys) = true)
    (alaw : PySem.W.nsIn K mainGlobals "law" = some (some (.ref flaw))) (llaw : K.lookup flaw = some ⟨oclaw, odlaw, .func (PySem.W.fnOf "law" "law" (defArgs st_law) (defBody st_law) (defScope st_law) .none kVlaw dclaw pmlaw anlaw cdlaw ctlaw), sllaw⟩) (claw : PySem.W.codeIn K cdlaw "law" = true) (klaw : PySem.W.keepIn K (.ref flaw) = true)
    (zValueError : PySem.W.nsIn K mainGlobals "ValueError" = some none)
    (zall : PySem.W.nsIn K mainGlobals "all" = some none)
    (zenumerate : PySem.W.nsIn K mainGlobals "enumerate" = some none)
    (zisinstance : PySem.W.nsIn K mainGlobals "isinstance" = some none)
    (zlen : PySem.W.nsIn K mainGlobals "len" = some none)
    (zmin : PySem.W.nsIn K mainGlobals "min" = some none)
    (zrange : PySem.W.nsIn K mainGlobals "range" = some none)
    (zstr : PySem.W.nsIn K mainGlobals "str" = some none)
    (zNAME_LENGTH : PySem.W.nsIn K mainGlobals "NAME_LENGTH" = some (some (.int 8 tNAME_LENGTH)))
    (zPLAIN_LENGTH : PySem.W.nsIn K mainGlobals "PLAIN_LENGTH" = some (some (.int 80 tPLAIN_LENGTH)))
    (zPLAIN_SIGNS : PySem.W.nsIn K mainGlobals "PLAIN_SIGNS" = some (some (.str "ABCDEFGHIJKLMNOPQRSTUVWXYZabcdefghijklmnopqrstuvwxyz0123456789 .,!?'-/()&+*=" tPLAIN_SIGNS)))
    (zSMALL_LETTERS : PySem.W.nsIn K mainGlobals "SMALL_LETTERS" = some (some (.str "abcdefghijklmnopqrstuvwxyz" tSMALL_LETTERS)))
    (zSTYLE_SIGNS : PySem.W.nsIn K mainGlobals "STYLE_SIGNS" = some (some (.str "ABCDEFGHIJKLMNOPQRSTUVWXYZabcdefghijklmnopqrstuvwxyz0123456789 .,!?'-/()&+*=:;" tSTYLE_SIGNS)))
    (zc_CiteError : PySem.W.nsIn K mainGlobals "CiteError" = some (some (.ref aCiteError)))
    (zc_NoHands : PySem.W.nsIn K mainGlobals "NoHands" = some (some (.ref aNoHands)))
    (zc_NoList : PySem.W.nsIn K mainGlobals "NoList" = some (some (.ref aNoList)))
    (zc_NoName : PySem.W.nsIn K mainGlobals "NoName" = some (some (.ref aNoName)))
    (zc_NoPlain : PySem.W.nsIn K mainGlobals "NoPlain" = some (some (.ref aNoPlain)))
    (zc_NoRow : PySem.W.nsIn K mainGlobals "NoRow" = some (some (.ref aNoRow)))
    (zc_NoStyle : PySem.W.nsIn K mainGlobals "NoStyle" = some (some (.ref aNoStyle)))
    (zc_NoText : PySem.W.nsIn K mainGlobals "NoText" = some (some (.ref aNoText)))
    (zc_NoWork : PySem.W.nsIn K mainGlobals "NoWork" = some (some (.ref aNoWork)))
    (ty_NoText : PySem.W.typeIn K (.ref aNoText) = some (.type "type"))
    (ic_NoText : PySem.W.isClsIn K aNoText = true)
    (be_NoText : PySem.W.mroIn K aNoText (.type "BaseException") = some true)
    (h_NoText_NoText : PySem.W.mroIn K aNoText (.ref aNoText) = some true)
    (q0_NoText : PySem.W.kitOne K (.ref aNoText) (.ref aCiteError) = some true)
    (q1_NoText : PySem.W.kitOne K (.ref aNoText) (.type "ValueError") = some true)
    (q2_NoText : PySem.W.kitAny K (.ref aNoText) [Value.ref aNoHands, Value.ref aNoList, Value.ref aNoName, Value.ref aNoPlain, Value.ref aNoRow, Value.ref aNoStyle, Value.ref aNoWork] = some false)
    (ecl_NoText : PySem.W.isClsIn K aNoText = true)
    (ega_NoText : PySem.W.findIn K (.ref aNoText) "__getattribute__" = some (some (.builtin "BaseException.__getattribute__")))
    (egt_NoText : PySem.W.findIn K (.ref aNoText) "__getattr__" = some none)
    (eca_NoText : PySem.W.findIn K (.ref aNoText) "__class__" = some (some (.builtin "object.__class__")))
    (egs_NoText : PySem.W.specialIn K (.builtin "object.__class__") "__get__" = some (some (.builtin "getset_descriptor.__get__")))
    (etk_NoText : PySem.W.takesIn K (.builtin "object.__class__") = some true)
    (eob_NoText : PySem.W.mroIn K aNoText (.type "object") = some true)
    (ebe_NoText : PySem.W.mroIn K aNoText (.type "BaseException") = some true)
    (ow_NoText : PySem.W.excIn K aNoText VEB "ValueError.__new__" = true)
    : ∃ fd : FuncData, (∀ (s : Shared) (v : Value), BindsTo s fd ⟨[v], []⟩ [("_law_script", v)]) ∧ ∀ base : Heap, K.In base → base.Ns mainGlobals mg → FnOk l.prog w K mg base CX0 7 fa fd ["_law_script"] (spOf K 1 g_law) := by
  have e := hfa.symm.trans (PySem.W.mg_of X G alaw)
  cases e
  have T : Txt K mg tNAME_LENGTH tPLAIN_LENGTH tPLAIN_SIGNS tSMALL_LETTERS tSTYLE_SIGNS flaw_parts flaw_spoiled fis_all_of fangled fis_text_of fis_name fis_plain fread_point fread_text flaw_refused flaw_cell_at fpoint_keys fnote_keys fshow_point fshow_text flaw_keys _ aCiteError aNoHands aNoList aNoName aNoPlain aNoRow aNoStyle aNoText aNoWork := ⟨PySem.W.mg_of X G zc_CiteError, PySem.W.mg_of X G zc_NoHands, PySem.W.mg_of X G zc_NoList, PySem.W.mg_of X G zc_NoName, PySem.W.mg_of X G zc_NoPlain, PySem.W.mg_of X G zc_NoRow, PySem.W.mg_of X G zc_NoStyle, PySem.W.mg_of X G zc_NoText, PySem.W.mg_of X G zc_NoWork, zc_NoText, ⟨ecl_NoText, ega_NoText, egt_NoText, eca_NoText, egs_NoText, etk_NoText, eob_NoText, ebe_NoText⟩, ty_NoText, ic_NoText, be_NoText, h_NoText_NoText, q0_NoText, q1_NoText, q2_NoText, PySem.W.mg_none_of X G zValueError, PySem.W.mg_none_of X G zall, PySem.W.mg_none_of X G zenumerate, PySem.W.mg_none_of X G zisinstance, PySem.W.mg_none_of X G zlen, PySem.W.mg_none_of X G zmin, PySem.W.mg_none_of X G zrange, PySem.W.mg_none_of X G zstr, PySem.W.mg_of X G zNAME_LENGTH, PySem.W.mg_of X G zPLAIN_LENGTH, PySem.W.mg_of X G zPLAIN_SIGNS, PySem.W.mg_of X G zSMALL_LETTERS, PySem.W.mg_of X G zSTYLE_SIGNS, PySem.W.mg_of X G alaw_parts, klaw_parts, PySem.W.mg_of X G alaw_spoiled, klaw_spoiled, PySem.W.mg_of X G ais_all_of, kis_all_of, PySem.W.mg_of X G aangled, kangled, PySem.W.mg_of X G ais_text_of, kis_text_of, PySem.W.mg_of X G ais_name, kis_name, PySem.W.mg_of X G ais_plain, kis_plain, PySem.W.mg_of X G aread_point, kread_point, PySem.W.mg_of X G aread_text, kread_text, PySem.W.mg_of X G alaw_refused, klaw_refused, PySem.W.mg_of X G alaw_cell_at, klaw_cell_at, PySem.W.mg_of X G apoint_keys, kpoint_keys, PySem.W.mg_of X G anote_keys, knote_keys, PySem.W.mg_of X G ashow_point, kshow_point, PySem.W.mg_of X G ashow_text, kshow_text, PySem.W.mg_of X G alaw_keys, klaw_keys, PySem.W.mg_of X G alaw, klaw⟩
  have Flaw_parts := fun_mk (st := st_law_parts) llaw_parts claw_parts klaw_parts
  have Flaw_spoiled := fun_mk (st := st_law_spoiled) llaw_spoiled claw_spoiled klaw_spoiled
  have Fis_all_of := fun_mk (st := st_is_all_of) lis_all_of cis_all_of kis_all_of
  have Fangled := fun_mk (st := st_angled) langled cangled kangled
  have Fis_text_of := fun_mk (st := st_is_text_of) lis_text_of cis_text_of kis_text_of
  have Fis_name := fun_mk (st := st_is_name) lis_name cis_name kis_name
  have Fis_plain := fun_mk (st := st_is_plain) lis_plain cis_plain kis_plain
  have Fread_point := fun_mk (st := st_read_point) lread_point cread_point kread_point
  have Fread_text := fun_mk (st := st_read_text) lread_text cread_text kread_text
  have Flaw_refused := fun_mk (st := st_law_refused) llaw_refused claw_refused klaw_refused
  have Flaw_cell_at := fun_mk (st := st_law_cell_at) llaw_cell_at claw_cell_at klaw_cell_at
  have Fpoint_keys := fun_mk (st := st_point_keys) lpoint_keys cpoint_keys kpoint_keys
  have Fnote_keys := fun_mk (st := st_note_keys) lnote_keys cnote_keys knote_keys
  have Fshow_point := fun_mk (st := st_show_point) lshow_point cshow_point kshow_point
  have Fshow_text := fun_mk (st := st_show_text) lshow_text cshow_text kshow_text
  have Flaw_keys := fun_mk (st := st_law_keys) llaw_keys claw_keys klaw_keys
  have Flaw := fun_mk (st := st_law) llaw claw klaw
  have blaw_parts := Flaw_parts.binds (ps := ["_law_cell"]) fun _ _ _ _ _ _ us hl => of1 (fun _ => rfl) us hl
  have blaw_spoiled := Flaw_spoiled.binds (ps := ["_law_parts_here", "_law_cell"]) fun _ _ _ _ _ _ us hl => of2 (fun _ _ => rfl) us hl
  have bis_all_of := Fis_all_of.binds (ps := ["text", "signs"]) fun _ _ _ _ _ _ us hl => of2 (fun _ _ => rfl) us hl
  have bangled := Fangled.binds (ps := ["text", "signs"]) fun _ _ _ _ _ _ us hl => of2 (fun _ _ => rfl) us hl
  have bis_text_of := Fis_text_of.binds (ps := ["value", "signs", "most"]) fun _ _ _ _ _ _ us hl => of3 (fun _ _ _ => rfl) us hl
  have bis_name := Fis_name.binds (ps := ["value"]) fun _ _ _ _ _ _ us hl => of1 (fun _ => rfl) us hl
  have bis_plain := Fis_plain.binds (ps := ["value"]) fun _ _ _ _ _ _ us hl => of1 (fun _ => rfl) us hl
  have bread_point := Fread_point.binds (ps := ["text"]) fun _ _ _ _ _ _ us hl => of1 (fun _ => rfl) us hl
  have bread_text := Fread_text.binds (ps := ["text"]) fun _ _ _ _ _ _ us hl => of1 (fun _ => rfl) us hl
  have blaw_refused := Flaw_refused.binds (ps := ["_law_thing"]) fun _ _ _ _ _ _ us hl => of1 (fun _ => rfl) us hl
  have blaw_cell_at := Flaw_cell_at.binds (ps := ["_law_script", "_law_k"]) fun _ _ _ _ _ _ us hl => of2 (fun _ _ => rfl) us hl
  have bpoint_keys := Fpoint_keys.binds (ps := ["parts"]) fun _ _ _ _ _ _ us hl => of1 (fun _ => rfl) us hl
  have bnote_keys := Fnote_keys.binds (ps := ["work"]) fun _ _ _ _ _ _ us hl => of1 (fun _ => rfl) us hl
  have bshow_point := Fshow_point.binds (ps := ["point"]) fun _ _ _ _ _ _ us hl => of1 (fun _ => rfl) us hl
  have bshow_text := Fshow_text.binds (ps := ["parts"]) fun _ _ _ _ _ _ us hl => of1 (fun _ => rfl) us hl
  have blaw_keys := Flaw_keys.binds (ps := ["_law_parts_here"]) fun _ _ _ _ _ _ us hl => of1 (fun _ => rfl) us hl
  refine ⟨PySem.W.fnOf "law" "law" (defArgs st_law) (defBody st_law) (defScope st_law) .none kVlaw dclaw pmlaw anlaw cdlaw ctlaw, fun s v => .of_eq rfl, fun base kb nb => ?_⟩
  have Glaw_parts := ok_law_parts (P := l.prog) (w := w) (base := base) Flaw_parts T
  have Glaw_spoiled := ok_law_spoiled (P := l.prog) (w := w) (base := base) Flaw_spoiled T
  have Gis_all_of := ok_is_all_of (P := l.prog) (w := w) (base := base) Fis_all_of T
  have Gangled := ok_angled (P := l.prog) (w := w) (base := base) Fangled T Gis_all_of bis_all_of
  have Gis_text_of := ok_is_text_of (P := l.prog) (w := w) (base := base) Fis_text_of T Gis_all_of bis_all_of
  have Gis_name := ok_is_name (P := l.prog) (w := w) (base := base) Fis_name T Gis_text_of bis_text_of
  have Gis_plain := ok_is_plain (P := l.prog) (w := w) (base := base) Fis_plain T Gis_text_of bis_text_of
  have Gread_point := ok_read_point (P := l.prog) (w := w) (base := base) Fread_point T (own2_of_in kb (PySem.W.mg_of kb nb zc_NoText) ow_NoText) Gis_name bis_name Gis_plain bis_plain
  have Gread_text := ok_read_text (P := l.prog) (w := w) (base := base) Fread_text T (own2_of_in kb (PySem.W.mg_of kb nb zc_NoText) ow_NoText) Gangled bangled Gread_point bread_point
  have Glaw_refused := ok_law_refused (P := l.prog) (w := w) (base := base) Flaw_refused T Gread_text bread_text
  have Glaw_cell_at := ok_law_cell_at (P := l.prog) (w := w) (base := base) Flaw_cell_at T
  have Gpoint_keys := ok_point_keys (P := l.prog) (w := w) (base := base) Fpoint_keys T
  have Gnote_keys := ok_note_keys (P := l.prog) (w := w) (base := base) Fnote_keys T Gread_text bread_text Gpoint_keys bpoint_keys
  have Gshow_point := ok_show_point (P := l.prog) (w := w) (base := base) Fshow_point T
  have Gshow_text := ok_show_text (P := l.prog) (w := w) (base := base) Fshow_text T Gshow_point bshow_point
  have Glaw_keys := ok_law_keys (P := l.prog) (w := w) (base := base) Flaw_keys T
  exact ok_law Flaw T Glaw_parts blaw_parts Glaw_spoiled blaw_spoiled Gread_text bread_text Glaw_refused blaw_refused Glaw_cell_at blaw_cell_at Gnote_keys bnote_keys Gshow_text bshow_text Glaw_keys blaw_keys
theorem law_sp {K : PySem.W.Frag} {H : Hp} {a : Addr} {ns : List Int} (hn : g_law [.lst (ns.map D.int)] = some (.fz (.bl true))) (hO : Only H) (hS : SqL K H a (ns.map V.int)) : spOf K 1 g_law [.ref a] H (fun v _ => v = .bl true) fun _ _ _ => False := by
  refine ⟨H, [.lst (ns.map D.int)], .fz (.bl true), Same.refl H, .cons (.lst hS (ints_rep ns)) .nil, rfl, hn, fun v H' F' ms _ _ _ _ sh _ _ => ?_⟩
  cases shape_fz sh
  rfl
theorem walk {l : PySem.W.OpenLaw} {q : Program} {loose : List Str} {XP : (Str → Option Value) → Heap → Prop} {YP : World → Heap → Prop} {d : DefRec} {K : Params → PySem.W.Frag} (hn : l.most = some 63) (hdf : d.params.defaults = [])
    (hY : ∀ (w : World) (h : Heap), YP w h → (K w.params).In h)
    (F : ∀ (w : World) (mg : Str → Option Value) (fa : Addr) (h : Heap), (K w.params).In h → h.Ns mainGlobals mg → mg d.name = some (.ref fa) →
      ∃ fd : FuncData, (∀ (s : Shared) (u : Value), BindsTo s fd ⟨[u], []⟩ [("_law_script", u)]) ∧ ∀ base : Heap, (K w.params).In base → base.Ns mainGlobals mg → FnOk l.prog w (K w.params) mg base CX0 7 fa fd ["_law_script"] (spOf (K w.params) 1 g_law))
    (hlaw : ∀ ns : List Int, ns.length ≤ 63 → g_law [.lst (ns.map D.int)] = some (.fz (.bl true))) :
    PySem.W.WalkO q loose XP YP l.row.toRowW d [] (fun f vs => PySem.call f vs) :=
  L2.walk_ofK (n := 63) (k := 7) (x := "_law_script") (CX := CX0) (sp := fun K => spOf K 1 g_law) hn (by decide) hdf ⟨rfl, by decide, by decide⟩ hY F (fun _ _ _ ns hl hO hS => law_sp (hlaw ns hl) hO hS) fun _ _ _ _ z => z
end Gen

/-! a text with pointings: each sign, each piece -/
namespace My
open DL PySem
noncomputable abbrev PLS : Str := "ABCDEFGHIJKLMNOPQRSTUVWXYZabcdefghijklmnopqrstuvwxyz0123456789 .,!?'-/()&+*="
noncomputable abbrev STS : Str := "ABCDEFGHIJKLMNOPQRSTUVWXYZabcdefghijklmnopqrstuvwxyz0123456789 .,!?'-/()&+*=:;"
noncomputable abbrev ABC : Str := "abcdefghijklmnopqrstuvwxyz"
noncomputable abbrev RUN : Str := "ABCDEFGHIJKLMNOPQRSTUVWXYZabcdefghijklmnopqrstuvwxyz0123456789 .,!?'-/()&+*=:;\n"
theorem run1 : STS ++ Str.ofString "\n" = RUN := by decide +kernel
noncomputable def abc (c : Nat) : Bool := Nat.ble 97 c && Nat.ble c 122
noncomputable def pls (c : Nat) : Bool := (Nat.ble 65 c && Nat.ble c 90) || abc c || (Nat.ble 39 c && Nat.ble c 57) || [32, 33, 38, 61, 63].contains c
noncomputable def run (c : Nat) : Bool := pls c || [58, 59, 10].contains c
theorem in_abc : ∀ c < 128, inS ⟨#[c]⟩ ABC = abc c := by decide +kernel
theorem in_pls : ∀ c < 128, inS ⟨#[c]⟩ PLS = pls c := by decide +kernel
theorem in_run : ∀ c < 128, inS ⟨#[c]⟩ RUN = run c := by decide +kernel
noncomputable def Asc (l : List Nat) : Prop := ∀ c ∈ l, c < 128
theorem bools_map (f : Nat → Bool) : ∀ l : List Nat, bools? (l.map fun c => D.bl (f c)) = some (l.map f)
  | [] => rfl
  | x :: r => by simp [bools_map f r]
noncomputable def sgf (sg : Str) (d : D) : D := match d with
  | .str x => .bl (inS x sg)
  | d => d
theorem allOf (sg : Str) (f : Nat → Bool) (l : List Nat) (hin : ∀ c < 128, inS ⟨#[c]⟩ sg = f c) (ha : Asc l) (hl : l.length ≤ 2000000) : Gen.g_is_all_of [.str (S l), .str sg] = some (.fz (.bl (l.all f))) := by
  have c := comp_cap (te := Gen.e_is_all_of_1) (f := sgf sg) (c := some (.fz (.str sg))) (j := 1) (signs (S l)) [] (fun x hx zs => by
    unfold signs at hx
    obtain ⟨k, hk, rfl⟩ := List.mem_map.mp hx
    unfold Gen.e_is_all_of_1 sgf
    simp [-inS]) (by unfold signs; rw [List.length_map, len_list, S_len]; simp; omega)
  rw [List.nil_append] at c
  have e : (signs (S l)).map (sgf sg) = l.map fun c => D.bl (f c) := by
    unfold signs
    rw [List.map_map, S_list]
    refine List.map_congr_left fun k hk => ?_
    show D.bl (inS ⟨#[k]⟩ sg) = _
    rw [hin k (ha k hk)]
  rw [e] at c
  have s := bools_map f l
  have sa : (l.map f).all id = l.all f := by simp
  unfold Gen.g_is_all_of Gen.f_is_all_of
  simp [c, s]
noncomputable abbrev NT : Exn := ⟨"NoText", [], []⟩
noncomputable def rn (r : List Nat) : List D := if r = [] then [] else [.str (S r)]
theorem S_nil : S [] = Str.empty := rfl
theorem S_empty {l : List Nat} : S l = Str.empty ↔ l = [] := ⟨fun h => S_inj (b := []) h, fun h => by rw [h]; rfl⟩
theorem textOf (sg : Str) (f : Nat → Bool) (l : List Nat) (m : Nat) (hin : ∀ c < 128, inS ⟨#[c]⟩ sg = f c) (ha : Asc l) (hl : l.length ≤ 100000) : Gen.g_is_text_of [.str (S l), .str sg, .int (m : Int)] = some (.fz (.bl (decide (1 ≤ l.length ∧ l.length ≤ m) && l.all f))) := by
  have a := allOf sg f l hin ha (by omega)
  have z : (S l).length ≤ PySem.sizeLine := line_of (by rw [S_len]; omega)
  rw [S_len] at z
  generalize l.all f = b at *
  unfold Gen.g_is_text_of Gen.f_is_text_of
  by_cases h1 : 1 ≤ l.length
  · by_cases h2 : l.length ≤ m
    · have a1 : (1 : Int) ≤ (l.length : Int) := by omega
      have a2 : (l.length : Int) ≤ (m : Int) := by omega
      simp [S_len, z, a1, a2, h1, h2, a]
    · have a1 : (1 : Int) ≤ (l.length : Int) := by omega
      have a2 : ¬ (l.length : Int) ≤ (m : Int) := by omega
      simp [S_len, z, a1, a2, h1, h2, a]
  · have a1 : ¬ (1 : Int) ≤ (l.length : Int) := by omega
    simp [S_len, z, a1, h1, a]
noncomputable def nameB (l : List Nat) : Bool := decide (1 ≤ l.length ∧ l.length ≤ 8) && l.all abc
noncomputable def plainB (l : List Nat) : Bool := decide (1 ≤ l.length ∧ l.length ≤ 80) && l.all pls
theorem isName (l : List Nat) (ha : Asc l) (hl : l.length ≤ 100000) : Gen.g_is_name [.str (S l)] = some (.fz (.bl (nameB l))) := by
  have a := textOf ABC abc l 8 in_abc ha hl
  have i8 : ((8 : Nat) : Int) = 8 := rfl
  rw [i8] at a
  unfold Gen.g_is_name Gen.f_is_name nameB
  generalize (decide (1 ≤ l.length ∧ l.length ≤ 8) && l.all abc) = b at *
  simp [a]
theorem isPlain (l : List Nat) (ha : Asc l) (hl : l.length ≤ 100000) : Gen.g_is_plain [.str (S l)] = some (.fz (.bl (plainB l))) := by
  have a := textOf PLS pls l 80 in_pls ha hl
  have i8 : ((80 : Nat) : Int) = 80 := rfl
  rw [i8] at a
  unfold Gen.g_is_plain Gen.f_is_plain plainB
  generalize (decide (1 ≤ l.length ∧ l.length ≤ 80) && l.all pls) = b at *
  simp [a]
noncomputable def cutC (c : Nat) : List Nat → List Nat × Option (List Nat)
  | [] => ([], none)
  | x :: r => if x = c then ([], some r) else let p := cutC c r; (x :: p.1, p.2)
theorem cutC_not (c : Nat) : ∀ l : List Nat, c ∉ (cutC c l).1
  | [] => by simp [cutC]
  | x :: r => by
    unfold cutC
    by_cases h : x = c
    · rw [if_pos h]; simp
    · rw [if_neg h]
      have := cutC_not c r
      show c ∉ x :: (cutC c r).1
      rw [List.mem_cons, not_or]
      exact ⟨fun e => h e.symm, this⟩
theorem cutC_eq (c : Nat) : ∀ l : List Nat, l = (cutC c l).1 ++ (match (cutC c l).2 with | none => [] | some r => c :: r)
  | [] => rfl
  | x :: r => by
    have ih := cutC_eq c r
    unfold cutC
    by_cases h : x = c
    · rw [if_pos h, h]; rfl
    · rw [if_neg h]
      show x :: r = x :: ((cutC c r).1 ++ (match (cutC c r).2 with | none => [] | some r => c :: r))
      rw [← ih]
theorem part_cut (c : Nat) (l : List Nat) : Txt.partition (S l) (S [c]) = (S (cutC c l).1, (match (cutC c l).2 with | none => S [] | some _ => S [c]), (match (cutC c l).2 with | none => S [] | some r => S r)) := by
  have h1 := cutC_not c l
  have h2 := cutC_eq c l
  generalize cutC c l = p at *
  obtain ⟨a, o⟩ := p
  cases o with
  | none =>
    rw [List.append_nil] at h2
    subst h2
    exact part_one (sep_one c) (S l) (by rw [S_list]; exact h1)
  | some r =>
    subst h2
    have := part_first c (S a) (S r) (by rw [S_list]; exact h1)
    rw [S_app, S_app] at this
    rw [← this]
    simp
theorem Asc.app {a b : List Nat} (h : Asc (a ++ b)) : Asc a ∧ Asc b := ⟨fun c hc => h c (List.mem_append_left _ hc), fun c hc => h c (List.mem_append_right _ hc)⟩
theorem cut_asc {c : Nat} {l : List Nat} (h : Asc l) : Asc (cutC c l).1 ∧ (cutC c l).1.length ≤ l.length ∧ ∀ r, (cutC c l).2 = some r → Asc r ∧ r.length ≤ l.length := by
  have h2 := cutC_eq c l
  generalize cutC c l = p at *
  obtain ⟨a, o⟩ := p
  cases o with
  | none =>
    rw [List.append_nil] at h2
    subst h2
    exact ⟨h, Nat.le_refl _, fun r z => nomatch z⟩
  | some r =>
    subst h2
    obtain ⟨x, y⟩ := h.app
    refine ⟨x, by simp, fun r' z => ?_⟩
    cases z
    exact ⟨fun c hc => y c (List.mem_cons_of_mem _ hc), by simp; omega⟩
noncomputable def ptB (l : List Nat) : Bool := nameB (cutC 32 l).1 && (match (cutC 32 l).2 with | none => true | some r => plainB r)
noncomputable def ptD (l : List Nat) : D := .tup [.str "point", .str (S (cutC 32 l).1), match (cutC 32 l).2 with | none => .non | some r => .str (S r)]
theorem readPoint (l : List Nat) (ha : Asc l) (hl : l.length ≤ 1000) : Gen.h_read_point [.str (S l)] = some (if ptB l = true then .v (.fz (ptD l)) else .x NT) := by
  have hbs : Str.ofString " " = S [32] := by decide +kernel
  have z : (S l).length ≤ PySem.sizeLine := line_of (by rw [S_len]; omega)
  rw [S_len] at z
  have hl0 : ¬ (S [32]).length = 0 := by decide +kernel
  have he : Str.ofString "" = Str.empty := rfl
  have z3 : 3 ≤ PySem.sizeLine := line_of (by decide)
  have hne : ¬ S [32] = Str.empty := by decide +kernel
  have pc := part_cut 32 l
  obtain ⟨a1, a2, a3⟩ := cut_asc (c := 32) ha
  have hn := isName (cutC 32 l).1 a1 (by omega)
  unfold ptB ptD Gen.h_read_point Gen.f_read_point
  cases ho : (cutC 32 l).2 with
  | none =>
    rw [ho] at pc
    dsimp only at pc
    generalize (cutC 32 l).1 = a at *
    generalize nameB a = b at *
    cases b with
    | true => simp [S_nil, L2.atI, L2.ixN, S_len, z, hl0, hbs, pc, hn, he, z3]
    | false => simp [S_nil, L2.atI, L2.ixN, S_len, z, hl0, hbs, pc, hn, he, z3]
  | some r =>
    rw [ho] at pc
    dsimp only at pc
    have ip := isPlain r (a3 r ho).1 (by have := (a3 r ho).2; omega)
    generalize (cutC 32 l).1 = a at *
    generalize nameB a = b at *
    cases b with
    | false => simp [S_nil, L2.atI, L2.ixN, S_len, z, hl0, hbs, pc, hn, he, z3, hne]
    | true =>
      cases hp : plainB r with
      | true => rw [hp] at ip; simp [S_nil, L2.atI, L2.ixN, S_len, z, hl0, hbs, pc, hn, he, z3, hne, ip, hp]
      | false => rw [hp] at ip; simp [S_nil, L2.atI, L2.ixN, S_len, z, hl0, hbs, pc, hn, he, z3, hne, ip, hp]
end My

/-! the text, run by run -/
namespace My
open DL PySem
noncomputable def sp : List Nat → List Nat × List (List Nat)
  | [] => ([], [])
  | c :: t => if c = 60 then ([], (sp t).1 :: (sp t).2) else (c :: (sp t).1, (sp t).2)
theorem sp_eq : ∀ t : List Nat, t = (sp t).1 ++ (sp t).2.flatMap fun x => 60 :: x
  | [] => rfl
  | c :: t => by
    have ih := sp_eq t
    unfold sp
    by_cases h : c = 60
    · rw [if_pos h, h]
      show 60 :: t = [] ++ ((sp t).1 :: (sp t).2).flatMap fun x => 60 :: x
      rw [List.flatMap_cons, List.nil_append, List.cons_append, ← ih]
    · rw [if_neg h]
      show c :: t = c :: (sp t).1 ++ _
      rw [List.cons_append, ← ih]
theorem sp_not : ∀ t : List Nat, 60 ∉ (sp t).1 ∧ ∀ x ∈ (sp t).2, 60 ∉ x
  | [] => by simp [sp]
  | c :: t => by
    obtain ⟨h1, h2⟩ := sp_not t
    unfold sp
    by_cases h : c = 60
    · rw [if_pos h]
      refine ⟨by simp, fun x hx => ?_⟩
      rcases List.mem_cons.mp hx with e | e
      · rw [e]; exact h1
      · exact h2 x e
    · rw [if_neg h]
      refine ⟨?_, h2⟩
      show 60 ∉ c :: (sp t).1
      rw [List.mem_cons, not_or]
      exact ⟨fun e => h e.symm, h1⟩
theorem sp_len : ∀ t : List Nat, (sp t).1.length ≤ t.length ∧ (sp t).2.length ≤ t.length ∧ ∀ x ∈ (sp t).2, x.length ≤ t.length
  | [] => by simp [sp]
  | c :: t => by
    obtain ⟨h1, h2, h3⟩ := sp_len t
    unfold sp
    by_cases h : c = 60
    · rw [if_pos h]
      refine ⟨by simp, by simp; omega, fun x hx => ?_⟩
      rcases List.mem_cons.mp hx with e | e
      · rw [e]; simp; omega
      · have := h3 x e; simp; omega
    · rw [if_neg h]
      exact ⟨by simp; omega, by simp; omega, fun x hx => by have := h3 x hx; simp; omega⟩
theorem sp_asc : ∀ {t : List Nat}, Asc t → Asc (sp t).1 ∧ ∀ x ∈ (sp t).2, Asc x
  | [], _ => by simp [sp, Asc]
  | c :: t, ha => by
    obtain ⟨h1, h2⟩ := sp_asc (t := t) fun k hk => ha k (List.mem_cons_of_mem _ hk)
    unfold sp
    by_cases h : c = 60
    · rw [if_pos h]
      refine ⟨by simp [Asc], fun x hx => ?_⟩
      rcases List.mem_cons.mp hx with e | e
      · rw [e]; exact h1
      · exact h2 x e
    · rw [if_neg h]
      refine ⟨fun k hk => ?_, h2⟩
      rcases List.mem_cons.mp hk with e | e
      · rw [e]; exact ha c List.mem_cons_self
      · exact h1 k e
noncomputable abbrev LTS : Str := "<"
theorem lts_S : LTS = S [60] := by decide +kernel
theorem cat_S : ∀ r : List (List Nat), cat (r.map fun x => S [60] ++ S x) = S (r.flatMap fun x => 60 :: x)
  | [] => rfl
  | x :: r => by
    show (S [60] ++ S x) ++ cat _ = _
    rw [cat_S r, S_app, S_app, List.flatMap_cons]
    simp
theorem split_sp (t : List Nat) : Txt.split (S t) LTS = S (sp t).1 :: (sp t).2.map S := by
  obtain ⟨h1, h2⟩ := sp_not t
  have e : S t = Str.join (S [60]) (S (sp t).1 :: (sp t).2.map S) := by
    rw [join_cons, List.map_map]
    show S t = S (sp t).1 ++ cat ((sp t).2.map fun x => S [60] ++ S x)
    rw [cat_S, S_app]
    exact congrArg S (sp_eq t)
  have := split_join (sep_one 60) (by rw [← lts_S]; decide +kernel) (S (sp t).1 :: (sp t).2.map S) (by simp) (fun p hp => by
    rcases List.mem_cons.mp hp with e | hp
    · rw [e, S_list]; exact h1
    · obtain ⟨y, hy, rfl⟩ := List.mem_map.mp hp
      rw [S_list]; exact h2 y hy)
  rw [← e] at this
  rw [lts_S]; exact this
noncomputable def segB (l : List Nat) : Bool := match (cutC 62 l).2 with
  | none => false
  | some r => ptB (cutC 62 l).1 && r.all run
noncomputable def segD (l : List Nat) : List D := match (cutC 62 l).2 with
  | none => []
  | some r => ptD (cutC 62 l).1 :: rn r
theorem rn_len (r : List Nat) : (rn r).length ≤ 1 := by unfold rn; split <;> simp
theorem segD_len (l : List Nat) : (segD l).length ≤ 2 := by
  unfold segD
  split
  · simp
  · rename_i r _
    have := rn_len r
    simp; omega
theorem ptD_tup (l : List Nat) : ∃ ts, ptD l = .tup ts := ⟨_, rfl⟩
noncomputable def hdS (l : List Nat) : List Nat := (cutC 62 l).1
noncomputable def tlS (l : List Nat) : List Nat := (cutC 62 l).2.getD []
noncomputable def gtB (l : List Nat) : Bool := (cutC 62 l).2.isSome
theorem segB_eq (l : List Nat) : segB l = (gtB l && (tlS l).all run && ptB (hdS l)) := by
  unfold segB gtB tlS hdS
  cases (cutC 62 l).2 with
  | none => rfl
  | some r => simp [Bool.and_comm]
theorem segD_eq {l : List Nat} (h : gtB l = true) : segD l = ptD (hdS l) :: rn (tlS l) := by
  unfold segD tlS hdS
  unfold gtB at h
  cases ho : (cutC 62 l).2 with
  | none => rw [ho] at h; exact absurd h (by decide)
  | some r => rfl
theorem tlS_asc {l : List Nat} (ha : Asc l) : Asc (tlS l) ∧ (tlS l).length ≤ l.length := by
  obtain ⟨_, _, a3⟩ := cut_asc (c := 62) ha
  unfold tlS
  cases ho : (cutC 62 l).2 with
  | none => exact ⟨(fun c hc => nomatch hc), Nat.zero_le _⟩
  | some r => exact a3 r ho
theorem ang_step (a0 a1 a2 : Option SV) (cs : List D) (l : List Nat) (x5 : Option SV) (hl : l.length ≤ 1000) (hp : cs.length ≤ 100000) :
    (gtB l = true → ∃ y5, Gen.b_angled_1 [a0, a1, a2, some (.ol cs), some (.fz (.str (S l))), x5] = some (.nx [a0, a1, a2, some (.ol (cs ++ [.str (S (hdS l)), .str (S (tlS l))])), some (.fz (.str (S l))), y5])) ∧
    (gtB l = false → Gen.b_angled_1 [a0, a1, a2, some (.ol cs), some (.fz (.str (S l))), x5] = some (.rt (.fz .non))) := by
  have hbs : Str.ofString ">" = S [62] := by decide +kernel
  have z : (S l).length ≤ PySem.sizeLine := line_of (by rw [S_len]; omega)
  rw [S_len] at z
  have hl0 : ¬ (S [62]).length = 0 := by decide +kernel
  have he : Str.ofString "" = Str.empty := rfl
  have hne : ¬ S [62] = Str.empty := by decide +kernel
  have z0 : 2 ≤ PySem.sizeLine := line_of (by decide)
  have z2 : cs.length + 2 ≤ PySem.sizeLine := line_of (by omega)
  have pc := part_cut 62 l
  unfold gtB tlS hdS Gen.b_angled_1
  cases ho : (cutC 62 l).2 with
  | none =>
    rw [ho] at pc
    dsimp only at pc ⊢
    generalize (cutC 62 l).1 = a at *
    refine ⟨(fun h => absurd h (by decide)), fun _ => ?_⟩
    simp [S_nil, L2.atI, L2.ixN, S_len, z, hl0, hbs, pc, he]
  | some r =>
    rw [ho] at pc
    dsimp only at pc ⊢
    generalize (cutC 62 l).1 = a at *
    refine ⟨(fun _ => ?_), fun h => absurd h (by simp)⟩
    simp [S_nil, L2.atI, L2.ixN, S_len, z, hl0, hbs, pc, he, hne, z0, z2]
theorem forD_ex {tg : FG} {body : FS} {d : D} {ds : List D} {δ δ1 δ2 : DSt} {x : Exn} (h1 : tg.run d δ = some δ1) (h2 : body δ1 = some (.ex x δ2)) : forD tg body (d :: ds) δ = some (.ex x δ2) := by
  simp [h1, h2]
noncomputable abbrev two (l : List Nat) : List D := [.str (S (hdS l)), .str (S (tlS l))]
theorem ang_good (a0 a1 a2 : Option SV) : ∀ (xs : List (List Nat)) (cs : List D) (x4 x5 : Option SV), (∀ x ∈ xs, x.length ≤ 1000 ∧ gtB x = true) → cs.length + 2 * xs.length ≤ 100000 →
    ∃ y4 y5, forD (gNameF 4) Gen.b_angled_1 (xs.map fun x => D.str (S x)) [a0, a1, a2, some (.ol cs), x4, x5] = some (.nx [a0, a1, a2, some (.ol (cs ++ xs.flatMap two)), y4, y5])
  | [], cs, x4, x5, _, _ => ⟨x4, x5, by simp⟩
  | x :: xs, cs, x4, x5, h, hl => by
    rw [List.length_cons] at hl
    obtain ⟨h2, h3⟩ := h x List.mem_cons_self
    obtain ⟨y5, hb⟩ := (ang_step a0 a1 a2 cs x x5 h2 (by omega)).1 h3
    obtain ⟨y4, y5', e⟩ := ang_good a0 a1 a2 xs (cs ++ two x) (some (.fz (.str (S x)))) y5 (fun y hy => h y (List.mem_cons_of_mem _ hy)) (by rw [List.length_append]; simp; omega)
    refine ⟨y4, y5', ?_⟩
    rw [List.map_cons]
    refine (forD_nx (by simp) hb).trans (e.trans ?_)
    simp
theorem ang_bad (a0 a1 a2 : Option SV) : ∀ (xs : List (List Nat)) (cs : List D) (x4 x5 : Option SV), (∀ x ∈ xs, x.length ≤ 1000) → xs.all gtB = false → cs.length + 2 * xs.length ≤ 100000 →
    forD (gNameF 4) Gen.b_angled_1 (xs.map fun x => D.str (S x)) [a0, a1, a2, some (.ol cs), x4, x5] = some (.rt (.fz .non))
  | [], cs, x4, x5, _, hb, _ => by simp at hb
  | x :: xs, cs, x4, x5, h, hb, hl => by
    rw [List.length_cons] at hl
    have h2 := h x List.mem_cons_self
    have st := ang_step a0 a1 a2 cs x x5 h2 (by omega)
    rw [List.map_cons]
    cases hx : gtB x with
    | false => exact forD_rt (by simp) (st.2 hx)
    | true =>
      obtain ⟨y5, e1⟩ := st.1 hx
      have hb' : xs.all gtB = false := by rw [List.all_cons, hx] at hb; exact hb
      exact (forD_nx (by simp) e1).trans (ang_bad a0 a1 a2 xs (cs ++ two x) (some (.fz (.str (S x)))) y5 (fun y hy => h y (List.mem_cons_of_mem _ hy)) hb' (by rw [List.length_append]; simp; omega))
theorem cat_flat : ∀ ls : List (List Nat), cat (ls.map S) = S ls.flatten
  | [] => rfl
  | l :: ls => by
    show S l ++ cat (ls.map S) = _
    rw [cat_flat ls, S_app]; rfl
theorem all_flat (f : Nat → Bool) : ∀ ls : List (List Nat), ls.flatten.all f = ls.all fun l => l.all f
  | [] => rfl
  | l :: ls => by rw [List.flatten_cons, List.all_append, all_flat f ls]; rfl
noncomputable def okA (t : List Nat) : Bool := (sp t).2.all gtB && ((sp t).1 :: (sp t).2.map tlS).all fun l => l.all run
noncomputable abbrev cutsT (t : List Nat) : List D := .str (S (sp t).1) :: (sp t).2.flatMap two
theorem flat_le {B : Nat} : ∀ ls : List (List Nat), (∀ l ∈ ls, l.length ≤ B) → ls.flatten.length ≤ ls.length * B
  | [], _ => Nat.zero_le _
  | l :: ls, h => by
    have := flat_le ls fun x hx => h x (List.mem_cons_of_mem _ hx)
    have := h l List.mem_cons_self
    rw [List.flatten_cons, List.length_append, List.length_cons, Nat.succ_mul]; omega
theorem angled_ok (t : List Nat) (ha : Asc t) (hl : t.length ≤ 1000) : Gen.g_angled [.str (S t), .str RUN] = some (if okA t = true then .ol (cutsT t) else .fz .non) := by
  have spl := split_sp t
  obtain ⟨l1, l2, l3⟩ := sp_len t
  obtain ⟨c1, c2⟩ := sp_asc ha
  have z : (S t).length ≤ PySem.sizeLine := line_of (by rw [S_len]; omega)
  rw [S_len] at z
  have hl0 : ¬ LTS.length = 0 := by decide +kernel
  have hh : Str.ofString "<" = LTS := rfl
  have z1 : 1 ≤ PySem.sizeLine := line_of (by decide)
  have z1' : (sp t).2.length + 1 ≤ PySem.sizeLine := line_of (by omega)
  have mm : ((sp t).2.map S).map D.str = (sp t).2.map fun x => D.str (S x) := by rw [List.map_map]; rfl
  have ag := ang_good (some (.fz (.str (S t)))) (some (.fz (.str RUN))) (some (.ol (.str (S (sp t).1) :: (sp t).2.map fun x => D.str (S x)))) (sp t).2 [.str (S (sp t).1)] none none
  have ab := ang_bad (some (.fz (.str (S t)))) (some (.fz (.str RUN))) (some (.ol (.str (S (sp t).1) :: (sp t).2.map fun x => D.str (S x)))) (sp t).2 [.str (S (sp t).1)] none none (fun x hx => by have := l3 x hx; omega)
  have gd : ∀ x ∈ (sp t).2, (sp t).2.all gtB = true → gtB x = true := fun x hx h => List.all_eq_true.mp h x hx
  have ac : ∀ x ∈ (sp t).2, Asc x ∧ x.length ≤ 1000 := fun x hx => ⟨c2 x hx, by have := l3 x hx; omega⟩
  have cu : cutD (.str (S (sp t).1) :: (sp t).2.map fun x => D.str (S x)) (some 1) none = (sp t).2.map fun x => D.str (S x) := by
    have := cut_from (.str (S (sp t).1) :: (sp t).2.map fun x => D.str (S x)) 1 (by simp)
    exact this
  have a0 : L2.atI (.str (S (sp t).1) :: (sp t).2.map fun x => D.str (S x)) 0 = some (.str (S (sp t).1)) := at_nat _ 0 _ rfl
  have er : ∀ x ∈ (sp t).1 :: (sp t).2.map tlS, Asc x ∧ x.length ≤ 1000 := fun x hx => by
    rcases List.mem_cons.mp hx with e | hx
    · rw [e]; exact ⟨c1, by omega⟩
    · obtain ⟨y, hy, rfl⟩ := List.mem_map.mp hx
      have h1 := tlS_asc (ac y hy).1
      have h2 := (ac y hy).2
      exact ⟨h1.1, by omega⟩
  have pk : L2.pickL (cutsT t) none none (some 2) = (((sp t).1 :: (sp t).2.map tlS).map S).map D.str := by
    rw [pickL_ev]
    have := ev_cons (fun l => D.str (S (hdS l))) (fun l => D.str (S (tlS l))) (.str (S (sp t).1)) (sp t).2
    refine this.trans ?_
    simp
  have fl := flat_le ((sp t).1 :: (sp t).2.map tlS) (fun x hx => (er x hx).2)
  have al := allOf RUN run ((sp t).1 :: (sp t).2.map tlS).flatten in_run (fun c hc => by
    obtain ⟨x, hx, hc⟩ := List.mem_flatten.mp hc
    exact (er x hx).1 c hc) (by simp only [List.length_cons, List.length_map] at fl; omega)
  rw [all_flat] at al
  have ss := strs_map (((sp t).1 :: (sp t).2.map tlS).map S)
  have jo : JoinOk (Str.ofString "") (((sp t).1 :: (sp t).2.map tlS).map S) = true := joinOk (B := 1000) (fun x hx => by
    obtain ⟨y, hy, rfl⟩ := List.mem_map.mp hx
    rw [S_len]; exact (er y hy).2) (by
    have e0 : (Str.ofString "").length = 0 := by decide +kernel
    rw [e0]; simp only [List.length_cons, List.length_map]; omega)
  have jn : Txt.join (Str.ofString "") (((sp t).1 :: (sp t).2.map tlS).map S) = S ((sp t).1 :: (sp t).2.map tlS).flatten := (tjoin0 _).trans (cat_flat _)
  unfold okA
  have cc : [.str (S (sp t).1)] ++ (sp t).2.flatMap two = cutsT t := rfl
  rw [cc] at ag
  generalize cutsT t = cs at *
  generalize (sp t).1 :: (sp t).2.map tlS = rs at *
  unfold Gen.g_angled Gen.f_angled
  generalize (sp t).2 = segs at *
  generalize (sp t).1 = r0 at *
  cases hs : segs.all gtB with
  | false =>
    have e := ab hs (by simp; omega)
    simp [-forD, -List.map_map, mm, hh, spl, S_len, z, z1, z1', hl0, cu, a0, e]
  | true =>
    obtain ⟨y4, y5, e⟩ := ag (fun x hx => ⟨(ac x hx).2, gd x hx hs⟩) (by simp; omega)
    generalize (rs.all fun l => l.all run) = b at *
    cases b with
    | true => simp [-forD, -List.map_map, mm, hh, spl, S_len, z, z1, z1', hl0, cu, a0, e, pk, ss, jo, jn, al]
    | false => simp [-forD, -List.map_map, mm, hh, spl, S_len, z, z1, z1', hl0, cu, a0, e, pk, ss, jo, jn, al]
theorem read_hd (a0 a1 : Option SV) (ps : List D) (i : Nat) (l : List Nat) (hi : i % 2 = 1) (ha : Asc l) (hl : l.length ≤ 1000) (hp : ps.length ≤ 100000) :
    (ptB l = true → Gen.b_read_text_1 [a0, a1, some (.ol ps), some (.fz (.int (i : Int))), some (.fz (.str (S l)))] = some (.nx [a0, a1, some (.ol (ps ++ [ptD l])), some (.fz (.int (i : Int))), some (.fz (.str (S l)))])) ∧
    (ptB l = false → ∃ δ, Gen.b_read_text_1 [a0, a1, some (.ol ps), some (.fz (.int (i : Int))), some (.fz (.str (S l)))] = some (.ex NT δ)) := by
  have rp := readPoint l ha hl
  have m1 : ((i : Nat) : Int) % 2 = 1 := by omega
  have z1 : ps.length < PySem.sizeLine := line_lt (by omega)
  obtain ⟨ts, hts⟩ := ptD_tup l
  rw [hts] at rp ⊢
  unfold Gen.b_read_text_1
  refine ⟨fun h => ?_, fun h => ?_⟩
  · rw [if_pos h] at rp
    simp [m1, rp, z1]
  · rw [if_neg (by rw [h]; decide)] at rp
    simp [m1, rp, z1]
theorem read_tl (a0 a1 : Option SV) (ps : List D) (i : Nat) (l : List Nat) (hi : i % 2 = 0) (hp : ps.length ≤ 100000) :
    Gen.b_read_text_1 [a0, a1, some (.ol ps), some (.fz (.int (i : Int))), some (.fz (.str (S l)))] = some (.nx [a0, a1, some (.ol (ps ++ rn l)), some (.fz (.int (i : Int))), some (.fz (.str (S l)))]) := by
  have m2 : ¬ ((i : Nat) : Int) % 2 = 1 := by omega
  have z1 : ps.length < PySem.sizeLine := line_lt (by omega)
  have he : Str.ofString "" = Str.empty := rfl
  unfold Gen.b_read_text_1 rn
  by_cases h0 : l = []
  · have h1 : S l = Str.empty := S_empty.mpr h0
    simp [m2, he, h0, S_nil]
  · have h1 : ¬ S l = Str.empty := fun e => h0 (S_empty.mp e)
    simp [m2, he, h0, h1, z1]
noncomputable abbrev TG : FG := gTupF 2 (gConsF (gNameF 3) (gConsF (gNameF 4) (gNilF)))
theorem hd_asc {l : List Nat} (ha : Asc l) : Asc (hdS l) ∧ (hdS l).length ≤ l.length := by
  obtain ⟨a1, a2, _⟩ := cut_asc (c := 62) ha
  exact ⟨a1, a2⟩
theorem enum_two (i : Nat) (x : List Nat) (xs : List (List Nat)) : enumF i ((x :: xs).flatMap two) = .tup [.int (i : Int), .str (S (hdS x))] :: .tup [.int ((i + 1 : Nat) : Int), .str (S (tlS x))] :: enumF (i + 1 + 1) (xs.flatMap two) := rfl
theorem loop_good (a0 a1 : Option SV) : ∀ (xs : List (List Nat)) (i : Nat) (ps : List D) (x3 x4 : Option SV), i % 2 = 1 → (∀ x ∈ xs, Asc x ∧ x.length ≤ 1000 ∧ gtB x = true ∧ ptB (hdS x) = true) → ps.length + 2 * xs.length ≤ 100000 →
    ∃ y3 y4, forD TG Gen.b_read_text_1 (enumF i (xs.flatMap two)) [a0, a1, some (.ol ps), x3, x4] = some (.nx [a0, a1, some (.ol (ps ++ xs.flatMap segD)), y3, y4])
  | [], i, ps, x3, x4, _, _, _ => ⟨x3, x4, by simp [enumF]⟩
  | x :: xs, i, ps, x3, x4, hi, h, hl => by
    rw [List.length_cons] at hl
    obtain ⟨h1, h2, h3, h4⟩ := h x List.mem_cons_self
    obtain ⟨b1, b2⟩ := hd_asc h1
    have hb := (read_hd a0 a1 ps i (hdS x) hi b1 (by omega) (by omega)).1 h4
    have hb2 := read_tl a0 a1 (ps ++ [ptD (hdS x)]) (i + 1) (tlS x) (by omega) (by rw [List.length_append]; simp; omega)
    have sl := segD_len x
    have se := segD_eq h3
    have e1 : ps ++ [ptD (hdS x)] ++ rn (tlS x) = ps ++ segD x := by rw [se]; simp
    rw [e1] at hb2
    obtain ⟨y3, y4', e⟩ := loop_good a0 a1 xs (i + 1 + 1) (ps ++ segD x) (some (.fz (.int ((i + 1 : Nat) : Int)))) (some (.fz (.str (S (tlS x))))) (by omega) (fun y hy => h y (List.mem_cons_of_mem _ hy)) (by rw [List.length_append]; omega)
    refine ⟨y3, y4', ?_⟩
    rw [enum_two]
    refine (forD_nx (by simp) hb).trans ((forD_nx (by simp) hb2).trans (e.trans ?_))
    simp
theorem loop_bad (a0 a1 : Option SV) : ∀ (xs : List (List Nat)) (i : Nat) (ps : List D) (x3 x4 : Option SV), i % 2 = 1 → (∀ x ∈ xs, Asc x ∧ x.length ≤ 1000 ∧ gtB x = true) → (xs.all fun x => ptB (hdS x)) = false → ps.length + 2 * xs.length ≤ 100000 →
    ∃ δ, forD TG Gen.b_read_text_1 (enumF i (xs.flatMap two)) [a0, a1, some (.ol ps), x3, x4] = some (.ex NT δ)
  | [], i, ps, x3, x4, _, _, hb, _ => by simp at hb
  | x :: xs, i, ps, x3, x4, hi, h, hb, hl => by
    rw [List.length_cons] at hl
    obtain ⟨h1, h2, h3⟩ := h x List.mem_cons_self
    obtain ⟨b1, b2⟩ := hd_asc h1
    have st := read_hd a0 a1 ps i (hdS x) hi b1 (by omega) (by omega)
    rw [enum_two]
    cases hx : ptB (hdS x) with
    | false =>
      obtain ⟨δ, e⟩ := st.2 hx
      exact ⟨δ, forD_ex (by simp) e⟩
    | true =>
      have hb1 := st.1 hx
      have hb2 := read_tl a0 a1 (ps ++ [ptD (hdS x)]) (i + 1) (tlS x) (by omega) (by rw [List.length_append]; simp; omega)
      have sl := segD_len x
      have se := segD_eq h3
      have e1 : ps ++ [ptD (hdS x)] ++ rn (tlS x) = ps ++ segD x := by rw [se]; simp
      rw [e1] at hb2
      have hb' : (xs.all fun x => ptB (hdS x)) = false := by rw [List.all_cons, hx] at hb; exact hb
      obtain ⟨δ, e⟩ := loop_bad a0 a1 xs (i + 1 + 1) (ps ++ segD x) (some (.fz (.int ((i + 1 : Nat) : Int)))) (some (.fz (.str (S (tlS x))))) (by omega) (fun y hy => h y (List.mem_cons_of_mem _ hy)) hb' (by rw [List.length_append]; omega)
      exact ⟨δ, (forD_nx (by simp) hb1).trans ((forD_nx (by simp) hb2).trans e)⟩
noncomputable def goodT (t : List Nat) : Bool := (sp t).1.all run && (sp t).2.all segB
noncomputable def partsT (t : List Nat) : List D := rn (sp t).1 ++ (sp t).2.flatMap segD
theorem good_eq (t : List Nat) : goodT t = (okA t && (sp t).2.all fun x => ptB (hdS x)) := by
  unfold goodT okA
  rw [List.all_cons]
  generalize (sp t).2 = xs
  generalize (sp t).1.all run = b
  induction xs with
  | nil => simp
  | cons x xs ih =>
    simp only [List.all_cons, List.map_cons, segB_eq] at ih ⊢
    generalize gtB x = c1
    generalize (tlS x).all run = c2
    generalize ptB (hdS x) = c3
    cases b <;> cases c1 <;> cases c2 <;> cases c3 <;> simp_all
theorem readText (t : List Nat) (ha : Asc t) (hl : t.length ≤ 1000) : Gen.h_read_text [.str (S t)] = some (if goodT t = true then .v (.ol (partsT t)) else .x NT) := by
  have an := angled_ok t ha hl
  obtain ⟨l1, l2, l3⟩ := sp_len t
  obtain ⟨c1, c2⟩ := sp_asc ha
  have z : STS.length + (Str.ofString "\n").length ≤ PySem.sizeLine := line_of (by decide +kernel)
  have ac : ∀ x ∈ (sp t).2, Asc x ∧ x.length ≤ 1000 := fun x hx => ⟨c2 x hx, by have := l3 x hx; omega⟩
  have rl := rn_len (sp t).1
  rw [good_eq]
  cases ho : okA t with
  | false =>
    rw [ho] at an
    unfold Gen.h_read_text Gen.f_read_text
    simp [-forD, run1, z, an]
  | true =>
    rw [ho, if_pos rfl] at an
    have gt : ∀ x ∈ (sp t).2, gtB x = true := by
      unfold okA at ho
      exact List.all_eq_true.mp (Bool.and_eq_true_iff.mp ho).1
    have hb := read_tl (some (.fz (.str (S t)))) (some (.fz (.lst (cutsT t)))) [] 0 (sp t).1 rfl (by simp)
    rw [List.nil_append] at hb
    have lg := loop_good (some (.fz (.str (S t)))) (some (.fz (.lst (cutsT t)))) (sp t).2 1 (rn (sp t).1) (some (.fz (.int ((0 : Nat) : Int)))) (some (.fz (.str (S (sp t).1)))) rfl
    have lb := loop_bad (some (.fz (.str (S t)))) (some (.fz (.lst (cutsT t)))) (sp t).2 1 (rn (sp t).1) (some (.fz (.int ((0 : Nat) : Int)))) (some (.fz (.str (S (sp t).1)))) rfl (fun x hx => ⟨(ac x hx).1, (ac x hx).2, gt x hx⟩)
    have fst : forD TG Gen.b_read_text_1 (enumF 0 (cutsT t)) [some (.fz (.str (S t))), some (.fz (.lst (cutsT t))), some (.ol []), none, none] = forD TG Gen.b_read_text_1 (enumF 1 ((sp t).2.flatMap two)) [some (.fz (.str (S t))), some (.fz (.lst (cutsT t))), some (.ol (rn (sp t).1)), some (.fz (.int ((0 : Nat) : Int))), some (.fz (.str (S (sp t).1)))] := by
      show forD TG Gen.b_read_text_1 (.tup [.int ((0 : Nat) : Int), .str (S (sp t).1)] :: enumF 1 ((sp t).2.flatMap two)) _ = _
      exact forD_nx (by simp) hb
    unfold partsT
    cases hp : (sp t).2.all fun x => ptB (hdS x) with
    | true =>
      obtain ⟨y3, y4, e⟩ := lg (fun x hx => ⟨(ac x hx).1, (ac x hx).2, gt x hx, List.all_eq_true.mp hp x hx⟩) (by omega)
      rw [e] at fst
      generalize cutsT t = cs at *
      unfold Gen.h_read_text Gen.f_read_text
      simp [-forD, run1, z, an, enumL_F, fst]
    | false =>
      obtain ⟨δ, e⟩ := lb hp (by omega)
      rw [e] at fst
      generalize cutsT t = cs at *
      unfold Gen.h_read_text Gen.f_read_text
      simp [-forD, run1, z, an, enumL_F, fst]
end My

/-! what is shown, what it points to -/
namespace My
open DL PySem
noncomputable abbrev Part := D × Str × Option Str
noncomputable def rnT (r : List Nat) : List Part := if r = [] then [] else [(.str (S r), S r, none)]
noncomputable def ptT (a : List Nat) : Part := (ptD a, S (60 :: a ++ [62]), some (S (cutC 32 a).1))
noncomputable def segT (l : List Nat) : List Part := match (cutC 62 l).2 with
  | none => []
  | some r => ptT (cutC 62 l).1 :: rnT r
noncomputable def allT (t : List Nat) : List Part := rnT (sp t).1 ++ (sp t).2.flatMap segT
theorem rnT_fst (r : List Nat) : (rnT r).map (·.1) = rn r := by unfold rnT rn; split <;> rfl
theorem segT_fst (l : List Nat) : (segT l).map (·.1) = segD l := by
  unfold segT segD
  cases ho : (cutC 62 l).2 with
  | none => rfl
  | some r => dsimp only; rw [List.map_cons, rnT_fst]; rfl
theorem allT_fst (t : List Nat) : (allT t).map (·.1) = partsT t := by
  unfold allT partsT
  rw [List.map_append, rnT_fst]
  congr 1
  induction (sp t).2 with
  | nil => rfl
  | cons x xs ih => rw [List.flatMap_cons, List.flatMap_cons, List.map_append, ih, segT_fst]
theorem rnT_cat (r : List Nat) : cat ((rnT r).map (·.2.1)) = S r := by
  unfold rnT
  split
  · rename_i h; rw [h]; rfl
  · show S r ++ cat [] = S r
    exact Str.append_empty (S r)
theorem segT_cat (l : List Nat) (h : segB l = true) : cat ((segT l).map (·.2.1)) = S (60 :: l) := by
  have e := cutC_eq 62 l
  unfold segB at h
  unfold segT
  cases ho : (cutC 62 l).2 with
  | none => rw [ho] at h; cases h
  | some r =>
    rw [ho] at e
    dsimp only at e ⊢
    rw [List.map_cons]
    show S (60 :: (cutC 62 l).1 ++ [62]) ++ cat ((rnT r).map (·.2.1)) = _
    rw [rnT_cat, S_app]
    congr 1
    conv => rhs; rw [e]
    simp
theorem allT_cat (t : List Nat) (h : goodT t = true) : cat ((allT t).map (·.2.1)) = S t := by
  unfold goodT at h
  rw [Bool.and_eq_true] at h
  have e := sp_eq t
  have hs : ∀ xs : List (List Nat), xs.all segB = true → cat ((xs.flatMap segT).map (·.2.1)) = S (xs.flatMap fun x => 60 :: x) := by
    intro xs
    induction xs with
    | nil => intro _; rfl
    | cons x xs ih =>
      intro hx
      rw [List.all_cons, Bool.and_eq_true] at hx
      rw [List.flatMap_cons, List.flatMap_cons, List.map_append, cat_app, segT_cat x hx.1, ih hx.2, S_app]
  unfold allT
  rw [List.map_append, cat_app, rnT_cat, hs _ h.2, S_app, ← e]
noncomputable def Pt (x : Part) : Prop := ((∃ r, x = (.str (S r), S r, none)) ∨ ∃ a, x = ptT a) ∧ x.2.1.length ≤ 1100
theorem rnT_pt {r : List Nat} (h : r.length ≤ 1000) : ∀ x ∈ rnT r, Pt x := fun x hx => by
  unfold rnT at hx
  split at hx
  · cases hx
  · rw [List.mem_singleton.mp hx]; exact ⟨.inl ⟨r, rfl⟩, by show (S r).length ≤ 1100; rw [S_len]; omega⟩
theorem segT_pt {l : List Nat} (h : l.length ≤ 1000) : ∀ x ∈ segT l, Pt x := fun x hx => by
  have e := congrArg List.length (cutC_eq 62 l)
  unfold segT at hx
  split at hx
  · cases hx
  · rename_i r hr
    rw [hr] at e
    simp at e
    rcases List.mem_cons.mp hx with hx | hx
    · rw [hx]; exact ⟨.inr ⟨_, rfl⟩, by show (S _).length ≤ 1100; rw [S_len]; simp; omega⟩
    · exact rnT_pt (by omega) x hx
theorem allT_pt {t : List Nat} (h : t.length ≤ 1000) : ∀ x ∈ allT t, Pt x := fun x hx => by
  obtain ⟨l1, l2, l3⟩ := sp_len t
  unfold allT at hx
  rcases List.mem_append.mp hx with hx | hx
  · exact rnT_pt (by omega) x hx
  · obtain ⟨y, hy, hx⟩ := List.mem_flatMap.mp hx
    exact segT_pt (by have := l3 y hy; omega) x hx
theorem allT_len {t : List Nat} (h : t.length ≤ 1000) : (allT t).length ≤ 2001 := by
  obtain ⟨l1, l2, l3⟩ := sp_len t
  have e := congrArg List.length (allT_fst t)
  rw [List.length_map] at e
  have f : ∀ xs : List (List Nat), (xs.flatMap segD).length ≤ 2 * xs.length := by
    intro xs
    induction xs with
    | nil => simp
    | cons x xs ih => have := segD_len x; rw [List.flatMap_cons, List.length_append, List.length_cons]; omega
  have := f (sp t).2
  have := rn_len (sp t).1
  rw [e]; unfold partsT; rw [List.length_append]; omega
noncomputable abbrev GTS : Str := ">"
theorem gts_S : GTS = S [62] := by decide +kernel
theorem blk_S : Str.ofString " " = S [32] := by decide +kernel
theorem showPoint (a : List Nat) (hl : a.length ≤ 1100) : Gen.g_show_point [ptD a] = some (.fz (.str (S (60 :: a ++ [62])))) := by
  have e := cutC_eq 32 a
  have hh : Str.ofString "<" = S [60] := lts_S
  have hg : Str.ofString ">" = S [62] := gts_S
  have hb := blk_S
  have e' := congrArg List.length e
  unfold ptD Gen.g_show_point Gen.f_show_point
  cases ho : (cutC 32 a).2 with
  | none =>
    rw [ho] at e e'
    dsimp only at e e' ⊢
    rw [List.append_nil] at e e'
    rw [← e]
    have z1 : 1 + a.length ≤ PySem.sizeLine := line_of (by omega)
    have z2 : a.length + 1 + 1 ≤ PySem.sizeLine := line_of (by omega)
    simp [-List.cons_append, L2.atI, L2.ixN, hh, hg, S_len, S_app, z1, z2]
  | some r =>
    rw [ho] at e e'
    dsimp only at e e' ⊢
    generalize (cutC 32 a).1 = k at *
    subst e
    simp at hl
    have z1 : 1 + k.length ≤ PySem.sizeLine := line_of (by omega)
    have z2 : k.length + 1 + 1 ≤ PySem.sizeLine := line_of (by omega)
    have z3 : k.length + 1 + 1 + r.length ≤ PySem.sizeLine := line_of (by omega)
    have z4 : k.length + (r.length + 1) + 1 + 1 ≤ PySem.sizeLine := line_of (by omega)
    simp [L2.atI, L2.ixN, hh, hg, hb, S_len, S_app, z1, z2, z3, z4]
theorem show_comp : ∀ (L : List Part) (ts : List Str), (∀ x ∈ L, Pt x) → ts.length + L.length ≤ 100000 →
    compD [.own, .acc] 1 (gNameF 0) trueT Gen.e_show_text_1 (L.map (·.1)) [none, some (.ol (ts.map D.str))] = some [none, some (.ol ((ts ++ L.map (·.2.1)).map D.str))]
  | [], ts, _, _ => by simp
  | x :: L, ts, h, hl => by
    rw [List.length_cons] at hl
    have z : ts.length < PySem.sizeLine := line_lt (by omega)
    have ih := show_comp L (ts ++ [x.2.1]) (fun y hy => h y (List.mem_cons_of_mem _ hy)) (by rw [List.length_append, List.length_singleton]; omega)
    obtain ⟨hx, hxl⟩ := h x List.mem_cons_self
    rw [List.map_cons]
    rcases hx with ⟨r, e⟩ | ⟨a, e⟩
    · subst e
      simp [Gen.e_show_text_1, z] at ih ⊢
      exact ih
    · subst e
      have hal : a.length ≤ 1100 := by
        have : (S (60 :: a ++ [62])).length ≤ 1100 := hxl
        rw [S_len] at this
        simp at this; omega
      have sp := showPoint a hal
      unfold ptT at ih ⊢
      generalize S (60 :: a ++ [62]) = w at *
      obtain ⟨us, hus⟩ := ptD_tup a
      rw [hus] at sp ⊢
      simp [Gen.e_show_text_1, z, sp] at ih ⊢
      exact ih
theorem show_ok {t : List Nat} (h : goodT t = true) (hl : t.length ≤ 1000) : Gen.g_show_text [.lst (partsT t)] = some (.fz (.str (S t))) := by
  have pl := allT_len hl
  have pp := allT_pt hl
  have e := show_comp (allT t) [] pp (by simp; omega)
  rw [allT_fst] at e
  simp only [List.map_nil, List.nil_append] at e
  have e0 : (Str.ofString "").length = 0 := by decide +kernel
  have j : JoinOk (Str.ofString "") ((allT t).map (·.2.1)) = true := joinOk (B := 1100) (fun x hx => by
    obtain ⟨y, hy, rfl⟩ := List.mem_map.mp hx
    exact (pp y hy).2) (by rw [e0, List.length_map]; omega)
  have sm := strs_map ((allT t).map (·.2.1))
  have tj := (tjoin0 ((allT t).map (·.2.1))).trans (allT_cat t h)
  generalize (allT t).map (·.2.1) = ts at *
  unfold Gen.g_show_text Gen.f_show_text
  simp [-compD, e, sm, j, tj]
theorem keys_comp : ∀ (L : List Part) (ts : List Str), (∀ x ∈ L, Pt x) → ts.length + L.length ≤ 100000 →
    compD [.own, .acc] 1 (gNameF 0) Gen.t_point_keys_1 Gen.e_point_keys_2 (L.map (·.1)) [none, some (.ol (ts.map D.str))] = some [none, some (.ol ((ts ++ L.filterMap (·.2.2)).map D.str))]
  | [], ts, _, _ => by simp
  | x :: L, ts, h, hl => by
    rw [List.length_cons] at hl
    have z : ts.length < PySem.sizeLine := line_lt (by omega)
    obtain ⟨hx, hxl⟩ := h x List.mem_cons_self
    rw [List.map_cons]
    rcases hx with ⟨r, e⟩ | ⟨a, e⟩
    · have ih := keys_comp L ts (fun y hy => h y (List.mem_cons_of_mem _ hy)) (by omega)
      subst e
      simp [Gen.e_point_keys_2, Gen.t_point_keys_1, z] at ih ⊢
      exact ih
    · have ih := keys_comp L (ts ++ [S (cutC 32 a).1]) (fun y hy => h y (List.mem_cons_of_mem _ hy)) (by rw [List.length_append, List.length_singleton]; omega)
      subst e
      unfold ptT ptD
      generalize S (60 :: a ++ [62]) = w at *
      generalize (cutC 32 a).1 = k at *
      simp [Gen.e_point_keys_2, Gen.t_point_keys_1, z, L2.atI, L2.ixN] at ih ⊢
      exact ih
theorem point_keys {t : List Nat} (hl : t.length ≤ 1000) : Gen.g_point_keys [.lst (partsT t)] = some (.ol (((allT t).filterMap (·.2.2)).map D.str)) := by
  have pl := allT_len hl
  have e := keys_comp (allT t) [] (allT_pt hl) (by simp; omega)
  rw [allT_fst] at e
  simp only [List.map_nil, List.nil_append] at e
  generalize (allT t).filterMap (·.2.2) = ts at *
  unfold Gen.g_point_keys Gen.f_point_keys
  simp [-compD, e]
/-! ### refused or not -/
theorem no_text (d : D) (h : d.pyTy ≠ "str") (hx : d.isExc = false) : Gen.h_read_text [d] = some (.x NT) := by
  have h' : (d.pyTy == "str") = false := by simpa using h
  unfold Gen.h_read_text Gen.f_read_text
  cases d <;> first | (exfalso; exact h rfl) | (exfalso; cases hx; done) | simp
theorem refused_x (d : D) (h : Gen.h_read_text [d] = some (.x NT)) : Gen.g_law_refused [d] = some (.fz (.bl true)) := by
  unfold Gen.g_law_refused Gen.f_law_refused Gen.s_law_refused_1
  simp [h]
theorem refused_t {t : List Nat} (ha : Asc t) (hl : t.length ≤ 1000) (h : goodT t = false) : Gen.g_law_refused [.str (S t)] = some (.fz (.bl true)) := by
  refine refused_x _ ?_
  rw [readText t ha hl, if_neg (by rw [h]; exact Bool.false_ne_true)]
noncomputable abbrev bookA (d : D) : D := .tup [.str "book", .dK [.inr "title", .inr "note"] [.str "So", d]]
noncomputable abbrev bookB (d : D) : D := .tup [.str "book", .dK [.inr "note", .inr "in"] [d, .str "ab"]]
noncomputable abbrev bookC : D := .tup [.str "book", .dK [.inr "title"] [.str "x"]]
theorem k1 : ¬ Str.ofString "title" = Str.ofString "note" := by decide +kernel
theorem k2 : ¬ Str.ofString "note" = Str.ofString "title" := by decide +kernel
theorem k3 : ¬ Str.ofString "in" = Str.ofString "note" := by decide +kernel
theorem keysA {t : List Nat} (ha : Asc t) (hl : t.length ≤ 1000) (h : goodT t = true) : Gen.g_note_keys [bookA (.str (S t))] = some (.ol (((allT t).filterMap (·.2.2)).map D.str)) := by
  have r := readText t ha hl
  rw [if_pos h] at r
  have pk := point_keys hl
  generalize partsT t = ps at *
  generalize ((allT t).filterMap (·.2.2)).map D.str = ks at *
  unfold Gen.g_note_keys Gen.f_note_keys
  simp [L2.atI, L2.ixN, r, pk, look, k1, k2]
theorem keysB {t : List Nat} (ha : Asc t) (hl : t.length ≤ 1000) (h : goodT t = false) : Gen.g_note_keys [bookB (.str (S t))] = some (.ol []) := by
  have r := readText t ha hl
  rw [if_neg (by rw [h]; exact Bool.false_ne_true)] at r
  unfold Gen.g_note_keys Gen.f_note_keys Gen.s_note_keys_1
  simp [L2.atI, L2.ixN, r, look]
theorem keysC : Gen.g_note_keys [bookC] = some (.ol []) := by
  have r := no_text .non (by decide) rfl
  unfold Gen.g_note_keys Gen.f_note_keys Gen.s_note_keys_1
  simp [L2.atI, L2.ixN, r, look, k1, k2]
end My

/-! sign by sign -/
namespace My
open DL PySem
noncomputable def ok : Option (List Nat) → List Nat → Bool
  | none, [] => true
  | some _, [] => false
  | none, c :: t => if c = 60 then ok (some []) t else run c && ok none t
  | some b, c :: t => if c = 60 then false else if c = 62 then ptB b.reverse && ok none t else ok (some (c :: b)) t
noncomputable def ky : Option (List Nat) → List Nat → List Str
  | none, [] => []
  | some _, [] => []
  | none, c :: t => if c = 60 then ky (some []) t else ky none t
  | some b, c :: t => if c = 60 then ky (some []) t else if c = 62 then S (cutC 32 b.reverse).1 :: ky none t else ky (some (c :: b)) t
theorem cut_none {c : Nat} : ∀ {a : List Nat}, c ∉ a → cutC c a = (a, none)
  | [], _ => rfl
  | x :: r, h => by
    rw [List.mem_cons, not_or] at h
    unfold cutC
    rw [if_neg (fun e => h.1 e.symm), cut_none h.2]
theorem cut_some {c : Nat} {r : List Nat} : ∀ {a : List Nat}, c ∉ a → cutC c (a ++ c :: r) = (a, some r)
  | [], _ => by show cutC c (c :: r) = _; unfold cutC; rw [if_pos rfl]
  | x :: a, h => by
    rw [List.mem_cons, not_or] at h
    show cutC c (x :: (a ++ c :: r)) = _
    unfold cutC
    rw [if_neg (fun e => h.1 e.symm), cut_some h.2]
theorem seg_none {a : List Nat} (h : 62 ∉ a) : segB a = false := by unfold segB; rw [cut_none h]
theorem seg_some {a r : List Nat} (h : 62 ∉ a) : segB (a ++ 62 :: r) = (ptB a && r.all run) := by unfold segB; rw [cut_some h]
noncomputable def keyL (l : List Nat) : List Str := match (cutC 62 l).2 with
  | none => []
  | some _ => [S (cutC 32 (cutC 62 l).1).1]
theorem key_none {a : List Nat} (h : 62 ∉ a) : keyL a = [] := by unfold keyL; rw [cut_none h]
theorem key_some {a r : List Nat} (h : 62 ∉ a) : keyL (a ++ 62 :: r) = [S (cutC 32 a).1] := by unfold keyL; rw [cut_some h]
theorem rev_not {b : List Nat} (h : 62 ∉ b) : 62 ∉ b.reverse := fun z => h (List.mem_reverse.mp z)
theorem scan : ∀ t : List Nat, goodT t = ok none t ∧ ∀ b : List Nat, 62 ∉ b → (segB (b.reverse ++ (sp t).1) && (sp t).2.all segB) = ok (some b) t
  | [] => ⟨rfl, fun b hb => by
      show (segB (b.reverse ++ []) && true) = false
      rw [List.append_nil, seg_none (rev_not hb)]; rfl⟩
  | c :: t => by
    obtain ⟨i1, i2⟩ := scan t
    refine ⟨?_, fun b hb => ?_⟩
    · unfold goodT sp ok
      by_cases h : c = 60
      · rw [if_pos h, if_pos h]
        have := i2 [] (by simp)
        rw [← this]
        show ([].all run && (segB (sp t).1 && (sp t).2.all segB)) = _
        rfl
      · rw [if_neg h, if_neg h, ← i1]
        show ((run c && (sp t).1.all run) && (sp t).2.all segB) = _
        unfold goodT
        rw [Bool.and_assoc]
    · unfold sp ok
      by_cases h : c = 60
      · rw [if_pos h, if_pos h]
        show (segB (b.reverse ++ []) && _) = false
        rw [List.append_nil, seg_none (rev_not hb)]; rfl
      · rw [if_neg h, if_neg h]
        by_cases h2 : c = 62
        · subst h2
          rw [if_pos rfl, ← i1]
          show (segB (b.reverse ++ 62 :: (sp t).1) && (sp t).2.all segB) = _
          rw [seg_some (rev_not hb)]
          unfold goodT
          rw [Bool.and_assoc]
        · rw [if_neg h2, ← i2 (c :: b) (by rw [List.mem_cons, not_or]; exact ⟨fun e => h2 e.symm, hb⟩)]
          show (segB (b.reverse ++ c :: (sp t).1) && _) = _
          rw [List.reverse_cons, List.append_assoc]
          rfl
theorem scanK : ∀ t : List Nat, (sp t).2.flatMap keyL = ky none t ∧ ∀ b : List Nat, 62 ∉ b → keyL (b.reverse ++ (sp t).1) ++ (sp t).2.flatMap keyL = ky (some b) t
  | [] => ⟨rfl, fun b hb => by
      show keyL (b.reverse ++ []) ++ [] = []
      rw [List.append_nil, List.append_nil, key_none (rev_not hb)]⟩
  | c :: t => by
    obtain ⟨i1, i2⟩ := scanK t
    refine ⟨?_, fun b hb => ?_⟩
    · unfold sp ky
      by_cases h : c = 60
      · rw [if_pos h, if_pos h]
        have := i2 [] (by simp)
        rw [← this]
        show ((sp t).1 :: (sp t).2).flatMap keyL = _
        rw [List.flatMap_cons]; rfl
      · rw [if_neg h, if_neg h, ← i1]
    · unfold sp ky
      by_cases h : c = 60
      · rw [if_pos h, if_pos h, ← i2 [] (by simp)]
        show keyL (b.reverse ++ []) ++ ((sp t).1 :: (sp t).2).flatMap keyL = _
        rw [List.append_nil, key_none (rev_not hb), List.flatMap_cons]; rfl
      · rw [if_neg h, if_neg h]
        by_cases h2 : c = 62
        · subst h2
          rw [if_pos rfl, ← i1]
          show keyL (b.reverse ++ 62 :: (sp t).1) ++ _ = _
          rw [key_some (rev_not hb)]
          rfl
        · rw [if_neg h2, ← i2 (c :: b) (by rw [List.mem_cons, not_or]; exact ⟨fun e => h2 e.symm, hb⟩)]
          show keyL (b.reverse ++ c :: (sp t).1) ++ _ = _
          rw [List.reverse_cons, List.append_assoc]
          rfl
theorem rnT_keys (r : List Nat) : (rnT r).filterMap (·.2.2) = [] := by unfold rnT; split <;> rfl
theorem segT_keys (l : List Nat) : (segT l).filterMap (·.2.2) = keyL l := by
  unfold segT keyL
  cases ho : (cutC 62 l).2 with
  | none => rfl
  | some r =>
    dsimp only
    have := rnT_keys r
    simp [ptT, this]
theorem allT_keys (t : List Nat) : (allT t).filterMap (·.2.2) = ky none t := by
  unfold allT
  rw [List.filterMap_append, rnT_keys, List.nil_append, ← (scanK t).1]
  induction (sp t).2 with
  | nil => rfl
  | cons x xs ih => rw [List.flatMap_cons, List.flatMap_cons, List.filterMap_append, ih, segT_keys]
/-! ### the parts that the law takes -/
noncomputable def pt8 : List (List Nat × List Str) := [([], []), ([115, 111, 59, 32], []), ([60, 97, 98, 62], ["ab"]), ([60, 97, 98, 32, 49, 50, 62], ["ab"]),
  ([105, 116, 58, 32, 60, 99, 62, 32, 97, 110, 100, 32, 60, 97, 98, 62], ["c", "ab"]), ([60, 97, 98, 62, 60, 97, 98, 62], ["ab", "ab"]),
  ([10, 60, 122, 122, 122, 122, 122, 122, 122, 122, 32, 112, 46, 32, 51, 62], ["zzzzzzzz"]), ([40, 120, 41], [])]
theorem pt_ok : ∀ p ∈ pt8, ∀ rest, ok none (p.1 ++ rest) = ok none rest := by
  intro p hp rest
  unfold pt8 at hp
  simp only [List.mem_cons, List.not_mem_nil, or_false] at hp
  rcases hp with rfl | rfl | rfl | rfl | rfl | rfl | rfl | rfl <;> rfl
theorem pt_ky : ∀ p ∈ pt8, ∀ rest, ky none (p.1 ++ rest) = p.2 ++ ky none rest := by
  intro p hp rest
  unfold pt8 at hp
  simp only [List.mem_cons, List.not_mem_nil, or_false] at hp
  rcases hp with rfl | rfl | rfl | rfl | rfl | rfl | rfl | rfl <;> rfl
theorem pt_in : ∀ p ∈ pt8, ∀ rest, (∀ b, ok (some b) rest = false) → ∀ b, ok (some b) (p.1 ++ rest) = false := by
  intro p hp rest h b
  unfold pt8 at hp
  simp only [List.mem_cons, List.not_mem_nil, or_false] at hp
  rcases hp with rfl | rfl | rfl | rfl | rfl | rfl | rfl | rfl <;> first | rfl | exact h _
theorem pt_asc : ∀ p ∈ pt8, Asc p.1 ∧ p.1.length ≤ 16 := by
  intro p hp
  have : (p.1.all fun c => decide (c < 128)) = true ∧ p.1.length ≤ 16 := by
    revert p
    decide +kernel
  refine ⟨fun c hc => ?_, this.2⟩
  exact of_decide_eq_true (List.all_eq_true.mp this.1 c hc)
end My

/-! what the law spoils -/
namespace My
open DL PySem
noncomputable def W19 : List (List Nat) := [[60], [60, 62], [60, 32, 62], [60, 65, 62], [60, 97, 98], [60, 97, 98, 32, 49, 50], [60, 97, 98, 32, 62], [60, 32, 97, 98, 62], [60, 97, 98, 99, 100, 101, 102, 103, 104, 105, 62], [60, 97, 49, 62], [60, 97, 98, 32, 49, 10, 62], [60, 97, 98, 32, 49, 94, 62],
  [60, 97, 98, 32, 60, 99, 62, 62], [60, 97, 98, 58, 62], [60, 97, 98, 32] ++ List.replicate 81 120 ++ [62], [60, 97, 98, 59, 99, 62], [60, 97, 32, 98, 32, 60], [60, 45, 62, 32, 120], [60, 97, 98, 124, 99, 62]]
theorem w_end : ∀ w ∈ W19, ok none w = false := by
  intro w hw
  unfold W19 at hw
  simp only [List.mem_cons, List.not_mem_nil, or_false] at hw
  rcases hw with rfl | rfl | rfl | rfl | rfl | rfl | rfl | rfl | rfl | rfl | rfl | rfl | rfl | rfl | rfl | rfl | rfl | rfl | rfl <;> rfl
theorem w_front : ∀ w ∈ W19, ∀ rest, (∀ b, ok (some b) rest = false) → ok none (w ++ 40 :: rest) = false := by
  intro w hw rest h
  unfold W19 at hw
  simp only [List.mem_cons, List.not_mem_nil, or_false] at hw
  rcases hw with rfl | rfl | rfl | rfl | rfl | rfl | rfl | rfl | rfl | rfl | rfl | rfl | rfl | rfl | rfl | rfl | rfl | rfl | rfl <;> first | rfl | exact h _
theorem w_asc : ∀ w ∈ W19, Asc w ∧ w.length ≤ 90 := by
  intro w hw
  have : (w.all fun c => decide (c < 128)) = true ∧ w.length ≤ 90 := by
    revert w
    decide +kernel
  refine ⟨fun c hc => ?_, this.2⟩
  exact of_decide_eq_true (List.all_eq_true.mp this.1 c hc)
noncomputable abbrev SGN : Str := ">^@#~_\"$\\\t{["
theorem sgn_len : SGN.cps.toList.length = 12 := by decide +kernel
theorem sgn_bad : ∀ c ∈ SGN.cps.toList, c ≠ 60 ∧ run c = false ∧ c < 128 := by decide +kernel
theorem sgn_ok {c : Nat} (h : c ∈ SGN.cps.toList) (rest : List Nat) : ok none (c :: rest) = false := by
  obtain ⟨h1, h2, _⟩ := sgn_bad c h
  unfold ok
  rw [if_neg h1, h2]; rfl
theorem Asc.mk {a b : List Nat} (h : Asc a) (k : Asc b) : Asc (a ++ b) := fun c hc => (List.mem_append.mp hc).elim (h c) (k c)
structure Bad (t : List Nat) : Prop where
  ok : ok none t = false
  asc : Asc t
  len : t.length ≤ 300
section
variable {p q r : List Nat × List Str} (hp : p ∈ pt8) (hq : q ∈ pt8) (hr : r ∈ pt8)
include hp hq hr
theorem bad0 {c : Nat} (h : c ∈ SGN.cps.toList) : Bad (c :: (p.1 ++ (q.1 ++ r.1))) ∧ Bad (p.1 ++ c :: (q.1 ++ r.1)) ∧ Bad (p.1 ++ (q.1 ++ c :: r.1)) ∧ Bad (p.1 ++ (q.1 ++ (r.1 ++ [c]))) := by
  obtain ⟨a1, l1⟩ := pt_asc p hp
  obtain ⟨a2, l2⟩ := pt_asc q hq
  obtain ⟨a3, l3⟩ := pt_asc r hr
  have ac : Asc [c] := fun k hk => by rw [List.mem_singleton.mp hk]; exact (sgn_bad c h).2.2
  refine ⟨⟨sgn_ok h _, ?_, by simp; omega⟩, ⟨?_, ?_, by simp; omega⟩, ⟨?_, ?_, by simp; omega⟩, ⟨?_, ?_, by simp; omega⟩⟩
  · exact ac.mk (a1.mk (a2.mk a3))
  · rw [pt_ok p hp]; exact sgn_ok h _
  · exact a1.mk (ac.mk (a2.mk a3))
  · rw [pt_ok p hp, pt_ok q hq]; exact sgn_ok h _
  · exact a1.mk (a2.mk (ac.mk a3))
  · rw [pt_ok p hp, pt_ok q hq, pt_ok r hr]; exact sgn_ok h _
  · exact a1.mk (a2.mk (a3.mk ac))
theorem bad1 {w : List Nat} (h : w ∈ W19) : Bad (p.1 ++ (q.1 ++ (r.1 ++ w))) := by
  obtain ⟨a1, l1⟩ := pt_asc p hp
  obtain ⟨a2, l2⟩ := pt_asc q hq
  obtain ⟨a3, l3⟩ := pt_asc r hr
  obtain ⟨a4, l4⟩ := w_asc w h
  refine ⟨?_, a1.mk (a2.mk (a3.mk a4)), by simp; omega⟩
  rw [pt_ok p hp, pt_ok q hq, pt_ok r hr]; exact w_end w h
theorem bad2 {w : List Nat} (h : w ∈ W19) : Bad (w ++ 40 :: (p.1 ++ (q.1 ++ (r.1 ++ [41])))) := by
  obtain ⟨a1, l1⟩ := pt_asc p hp
  obtain ⟨a2, l2⟩ := pt_asc q hq
  obtain ⟨a3, l3⟩ := pt_asc r hr
  obtain ⟨a4, l4⟩ := w_asc w h
  have o : Asc [40] := fun k hk => by rw [List.mem_singleton.mp hk]; decide
  have e : Asc [41] := fun k hk => by rw [List.mem_singleton.mp hk]; decide
  refine ⟨w_front w h _ ?_, a4.mk (o.mk (a1.mk (a2.mk (a3.mk e)))), by simp; omega⟩
  exact pt_in p hp _ (pt_in q hq _ (pt_in r hr _ fun b => rfl))
theorem good : ok none (p.1 ++ (q.1 ++ r.1)) = true ∧ Asc (p.1 ++ (q.1 ++ r.1)) ∧ (p.1 ++ (q.1 ++ r.1)).length ≤ 300 ∧ ky none (p.1 ++ (q.1 ++ r.1)) = p.2 ++ (q.2 ++ r.2) := by
  obtain ⟨a1, l1⟩ := pt_asc p hp
  obtain ⟨a2, l2⟩ := pt_asc q hq
  obtain ⟨a3, l3⟩ := pt_asc r hr
  have e1 := pt_ok r hr []
  have e2 := pt_ky r hr []
  rw [List.append_nil] at e1 e2
  refine ⟨?_, a1.mk (a2.mk a3), by simp; omega, ?_⟩
  · rw [pt_ok p hp, pt_ok q hq, e1]; rfl
  · rw [pt_ky p hp, pt_ky q hq, e2]; simp [ky]
end
end My

/-! the law -/
namespace My
open DL PySem
noncomputable abbrev P8 : List D := [.str "", .str "so; ", .str "<ab>", .str "<ab 12>", .str "it: <c> and <ab>", .str "<ab><ab>", .str "\n<zzzzzzzz p. 3>", .str "(x)"]
theorem s0 : Str.ofString "" = S [] := by decide +kernel
theorem s1 : Str.ofString "so; " = S [115, 111, 59, 32] := by decide +kernel
theorem s2 : Str.ofString "<ab>" = S [60, 97, 98, 62] := by decide +kernel
theorem s3 : Str.ofString "<ab 12>" = S [60, 97, 98, 32, 49, 50, 62] := by decide +kernel
theorem s4 : Str.ofString "it: <c> and <ab>" = S [105, 116, 58, 32, 60, 99, 62, 32, 97, 110, 100, 32, 60, 97, 98, 62] := by decide +kernel
theorem s5 : Str.ofString "<ab><ab>" = S [60, 97, 98, 62, 60, 97, 98, 62] := by decide +kernel
theorem s6 : Str.ofString "\n<zzzzzzzz p. 3>" = S [10, 60, 122, 122, 122, 122, 122, 122, 122, 122, 32, 112, 46, 32, 51, 62] := by decide +kernel
theorem s7 : Str.ofString "(x)" = S [40, 120, 41] := by decide +kernel
theorem mem1 {α : Type} {a x : α} {r : List α} (h : x ∈ r) : x ∈ a :: r := List.mem_cons_of_mem _ h
theorem p8_pt : ∀ d ∈ P8, ∃ p ∈ pt8, d = .str (S p.1) := by
  intro d hd
  simp only [P8, List.mem_cons, List.not_mem_nil, or_false] at hd
  rcases hd with rfl | rfl | rfl | rfl | rfl | rfl | rfl | rfl
  · exact ⟨_, List.mem_cons_self, congrArg D.str s0⟩
  · exact ⟨_, mem1 List.mem_cons_self, congrArg D.str s1⟩
  · exact ⟨_, mem1 (mem1 List.mem_cons_self), congrArg D.str s2⟩
  · exact ⟨_, mem1 (mem1 (mem1 List.mem_cons_self)), congrArg D.str s3⟩
  · exact ⟨_, mem1 (mem1 (mem1 (mem1 List.mem_cons_self))), congrArg D.str s4⟩
  · exact ⟨_, mem1 (mem1 (mem1 (mem1 (mem1 List.mem_cons_self)))), congrArg D.str s5⟩
  · exact ⟨_, mem1 (mem1 (mem1 (mem1 (mem1 (mem1 List.mem_cons_self))))), congrArg D.str s6⟩
  · exact ⟨_, mem1 (mem1 (mem1 (mem1 (mem1 (mem1 (mem1 List.mem_cons_self)))))), congrArg D.str s7⟩
theorem at8 (x : Int) : ∃ p ∈ pt8, L2.atI P8 (x % 8) = some (.str (S p.1)) := by
  obtain ⟨d, hd, e⟩ := at_mod P8 x 8 (by decide) (by decide)
  obtain ⟨p, hp, rfl⟩ := p8_pt d hd
  exact ⟨p, hp, e⟩
noncomputable abbrev three (p q r : List Nat) : List D := [.str (S p), .str (S q), .str (S r)]
theorem parts_ok (c : Int) : ∃ p ∈ pt8, ∃ q ∈ pt8, ∃ r ∈ pt8, Gen.g_law_parts [.int c] = some (.ol (three p.1 q.1 r.1)) := by
  obtain ⟨p, hp, e1⟩ := at8 c
  obtain ⟨q, hq, e2⟩ := at8 (c / 8)
  obtain ⟨r, hr, e3⟩ := at8 (c / 64)
  refine ⟨p, hp, q, hq, r, hr, ?_⟩
  have z8 : 8 ≤ PySem.sizeLine := line_of (by decide)
  have z3 : 3 ≤ PySem.sizeLine := line_of (by decide)
  unfold Gen.g_law_parts Gen.f_law_parts
  simp [e1, e2, e3, z8, z3]
noncomputable abbrev A12 : List Str := ["<", "<>", "< >", "<A>", "<ab", "<ab 12", "<ab >", "< ab>", "<abcdefghi>", "<a1>", "<ab 1\n>", "<ab 1^>"]
noncomputable def XS : Str := S (List.replicate 81 120)
noncomputable def XW : Str := S ([60, 97, 98, 32] ++ List.replicate 81 120 ++ [62])
noncomputable abbrev A19 : List Str := A12 ++ (["<ab <c>>", "<ab:>", XW, "<ab;c>", "<a b <", "<-> x", "<ab|c>"] : List Str)
theorem a19 : A19 = W19.map S := by decide +kernel
theorem at19 (x : Int) : ∃ w ∈ W19, L2.atI (A19.map D.str) (x % 19) = some (.str (S w)) := by
  obtain ⟨d, hd, e⟩ := at_mod (A19.map D.str) x 19 (by rw [List.length_map]; decide) (by decide)
  rw [a19, List.map_map] at hd
  obtain ⟨w, hw, rfl⟩ := List.mem_map.mp hd
  exact ⟨w, hw, e⟩
theorem mul81 : mulS (Str.ofString "x") 81 = some (.fz (.str XS)) := by
  unfold mulS
  have e : Txt.mul (Str.ofString "x") 81 = XS := by decide +kernel
  have l1 : (Str.ofString "x").length = 1 := by decide +kernel
  have m : MulOk (Str.ofString "x") 81 := by
    unfold MulOk
    rw [l1]
    refine ⟨by decide, fun _ _ => by decide, fun _ _ => by decide +kernel⟩
  rw [if_pos m, e]
theorem cat3 (a b c : List Nat) : cat [S a, S b, S c] = S (a ++ (b ++ c)) := by
  show S a ++ (S b ++ (S c ++ Str.empty)) = _
  rw [Str.append_empty, S_app, S_app]
theorem join_any (ls : List (List Nat)) (h : ∀ l ∈ ls, l.length ≤ 300) (hn : ls.length ≤ 100) : JoinOk (Str.ofString "") (ls.map S) = true := by
  have e0 : (Str.ofString "").length = 0 := by decide +kernel
  exact joinOk (B := 300) (fun x hx => by
    obtain ⟨y, hy, rfl⟩ := List.mem_map.mp hx
    rw [S_len]; exact h y hy) (by rw [e0, List.length_map]; omega)
section
variable (ds : List D) (c : Int)
theorem spoil0 (m : Int) (X Y : List D) (A B : List Str) (u v : List Nat) (k : Nat) (h3 : c % 3 = 0) (h4 : c / 3 / 12 % 4 = m) (ek : L2.atI SGN.cps.toList (c / 3 % 12) = some k) (cx : cutD ds none (some m) = X) (cy : cutD ds (some m) none = Y)
    (sx : strs? X = some A) (sy : strs? Y = some B) (jx : JoinOk (Str.ofString "") A = true) (jy : JoinOk (Str.ofString "") B = true) (tx : Txt.join (Str.ofString "") A = S u) (ty : Txt.join (Str.ofString "") B = S v) (hu : u.length ≤ 300) (hv : v.length ≤ 300) :
    Gen.g_law_spoiled [.lst ds, .int c] = some (.fz (.str (S (u ++ (k :: v))))) := by
  have zs : SGN.length ≤ PySem.sizeLine := line_of (by decide +kernel)
  have sk : (⟨#[k]⟩ : Str) = S [k] := rfl
  have z1 : u.length + 1 ≤ PySem.sizeLine := line_of (by omega)
  have z2 : u.length + 1 + v.length ≤ PySem.sizeLine := line_of (by omega)
  unfold Gen.g_law_spoiled Gen.f_law_spoiled
  simp [h3, h4, ek, zs, cx, cy, sx, sy, jx, jy, tx, ty, sk, S_len, S_app, z1, z2]
theorem abx : Str.ofString "<ab " ++ XS ++ Str.ofString ">" = XW := by decide +kernel
theorem zx1 : (Str.ofString "<ab ").length + XS.length ≤ PySem.sizeLine := line_of (by decide +kernel)
theorem zx2 : (Str.ofString "<ab " ++ XS).length + (Str.ofString ">").length ≤ PySem.sizeLine := line_of (by decide +kernel)
theorem spoil1 (A : List Str) (u w : List Nat) (h3 : c % 3 = 1) (sx : strs? ds = some A) (jx : JoinOk (Str.ofString "") A = true) (tx : Txt.join (Str.ofString "") A = S u) (hu : u.length ≤ 300) (hw : w.length ≤ 300)
    (ew : L2.atI (A19.map D.str) (c / 3 % 19) = some (.str (S w))) : Gen.g_law_spoiled [.lst ds, .int c] = some (.fz (.str (S (u ++ w)))) := by
  have z12 : 12 ≤ PySem.sizeLine := line_of (by decide)
  have z7 : 7 ≤ PySem.sizeLine := line_of (by decide)
  have z19 : 19 ≤ PySem.sizeLine := line_of (by decide)
  have z3 : u.length + w.length ≤ PySem.sizeLine := line_of (by omega)
  simp only [A19, A12, List.map_cons, List.map_append, List.map_nil, List.cons_append, List.nil_append] at ew
  unfold Gen.g_law_spoiled Gen.f_law_spoiled
  simp [h3, sx, jx, tx, ew, mul81, abx, zx1, zx2, z12, z7, z19, S_len, S_app, z3]
theorem spoil2 (A : List Str) (u w : List Nat) (h3 : c % 3 = 2) (sx : strs? ds = some A) (jx : JoinOk (Str.ofString "") A = true) (tx : Txt.join (Str.ofString "") A = S u) (hu : u.length ≤ 300) (hw : w.length ≤ 300)
    (ew : L2.atI (A19.map D.str) (c / 3 % 19) = some (.str (S w))) : Gen.g_law_spoiled [.lst ds, .int c] = some (.fz (.str (S (w ++ 40 :: (u ++ [41]))))) := by
  have z12 : 12 ≤ PySem.sizeLine := line_of (by decide)
  have z7 : 7 ≤ PySem.sizeLine := line_of (by decide)
  have z19 : 19 ≤ PySem.sizeLine := line_of (by decide)
  have o1 : Str.ofString "(" = S [40] := by decide +kernel
  have o2 : Str.ofString ")" = S [41] := by decide +kernel
  have z3 : w.length + 1 ≤ PySem.sizeLine := line_of (by omega)
  have z4 : w.length + 1 + u.length ≤ PySem.sizeLine := line_of (by omega)
  have z5 : w.length + (u.length + 1) + 1 ≤ PySem.sizeLine := line_of (by omega)
  have e3 : ¬ c % 3 = 0 := by omega
  have e4 : ¬ c % 3 = 1 := by omega
  simp only [A19, A12, List.map_cons, List.map_append, List.map_nil, List.cons_append, List.nil_append] at ew
  unfold Gen.g_law_spoiled Gen.f_law_spoiled
  simp [h3, sx, jx, tx, ew, mul81, abx, zx1, zx2, z12, z7, z19, S_len, S_app, o1, o2, z3, z4, z5]
end
theorem spoiled_ok {p q r : List Nat × List Str} (hp : p ∈ pt8) (hq : q ∈ pt8) (hr : r ∈ pt8) (c : Int) : ∃ t, Bad t ∧ Gen.g_law_spoiled [.lst (three p.1 q.1 r.1), .int c] = some (.fz (.str (S t))) := by
  obtain ⟨a1, l1⟩ := pt_asc p hp
  obtain ⟨a2, l2⟩ := pt_asc q hq
  obtain ⟨a3, l3⟩ := pt_asc r hr
  have hJ : ∀ ls : List (List Nat), (∀ l ∈ ls, l = p.1 ∨ l = q.1 ∨ l = r.1) → ls.length ≤ 3 → JoinOk (Str.ofString "") (ls.map S) = true := fun ls h hn => join_any ls (fun l hl => by rcases h l hl with e | e | e <;> rw [e] <;> omega) (by omega)
  have tj : ∀ ls : List (List Nat), Txt.join (Str.ofString "") (ls.map S) = S ls.flatten := fun ls => (tjoin0 _).trans (cat_flat ls)
  have sm : ∀ ls : List (List Nat), strs? (ls.map fun l => D.str (S l)) = some (ls.map S) := fun ls => by
    have := strs_map (ls.map S)
    rw [List.map_map] at this; exact this
  obtain ⟨k, hk, ek⟩ := at_mod SGN.cps.toList (c / 3) 12 (by rw [sgn_len]; rfl) (by decide)
  obtain ⟨w, hw, ew⟩ := at19 (c / 3)
  obtain ⟨a4, l4⟩ := w_asc w hw
  obtain ⟨d0, d1, d2, d3⟩ := bad0 hp hq hr hk
  have b1 := bad1 hp hq hr hw
  have b2 := bad2 hp hq hr hw
  have h3 : c % 3 = 0 ∨ c % 3 = 1 ∨ c % 3 = 2 := by omega
  rcases h3 with h3 | h3 | h3
  · have h4 : c / 3 / 12 % 4 = 0 ∨ c / 3 / 12 % 4 = 1 ∨ c / 3 / 12 % 4 = 2 ∨ c / 3 / 12 % 4 = 3 := by omega
    rcases h4 with h4 | h4 | h4 | h4
    · exact ⟨_, d0, (spoil0 (three p.1 q.1 r.1) c 0 _ _ _ _ [] (p.1 ++ (q.1 ++ r.1)) k h3 h4 ek (cut_to _ 0 (by simp)) (cut_from _ 0 (by simp)) (sm []) (sm [p.1, q.1, r.1]) (hJ [] (by simp) (by simp)) (hJ [p.1, q.1, r.1] (by simp) (by simp)) (tj []) ((tj [p.1, q.1, r.1]).trans (by simp)) (by simp) (by simp; omega)).trans (by simp)⟩
    · exact ⟨_, d1, (spoil0 (three p.1 q.1 r.1) c 1 _ _ _ _ p.1 (q.1 ++ r.1) k h3 h4 ek (cut_to _ 1 (by simp)) (cut_from _ 1 (by simp)) (sm [p.1]) (sm [q.1, r.1]) (hJ [p.1] (by simp) (by simp)) (hJ [q.1, r.1] (by simp) (by simp)) ((tj [p.1]).trans (by simp)) ((tj [q.1, r.1]).trans (by simp)) (by omega) (by simp; omega)).trans (by simp)⟩
    · exact ⟨_, d2, (spoil0 (three p.1 q.1 r.1) c 2 _ _ _ _ (p.1 ++ q.1) r.1 k h3 h4 ek (cut_to _ 2 (by simp)) (cut_from _ 2 (by simp)) (sm [p.1, q.1]) (sm [r.1]) (hJ [p.1, q.1] (by simp) (by simp)) (hJ [r.1] (by simp) (by simp)) ((tj [p.1, q.1]).trans (by simp)) ((tj [r.1]).trans (by simp)) (by simp; omega) (by omega)).trans (by simp)⟩
    · exact ⟨_, d3, (spoil0 (three p.1 q.1 r.1) c 3 _ _ _ _ (p.1 ++ (q.1 ++ r.1)) [] k h3 h4 ek (cut_to _ 3 (by simp)) (cut_from _ 3 (by simp)) (sm [p.1, q.1, r.1]) (sm []) (hJ [p.1, q.1, r.1] (by simp) (by simp)) (hJ [] (by simp) (by simp)) ((tj [p.1, q.1, r.1]).trans (by simp)) (tj []) (by simp; omega) (by simp)).trans (by simp)⟩
  · exact ⟨_, b1, (spoil1 _ c _ (p.1 ++ (q.1 ++ r.1)) w h3 (sm [p.1, q.1, r.1]) (hJ [p.1, q.1, r.1] (by simp) (by simp)) ((tj [p.1, q.1, r.1]).trans (by simp)) (by simp; omega) (by omega) ew).trans (by simp)⟩
  · exact ⟨_, b2, (spoil2 _ c _ (p.1 ++ (q.1 ++ r.1)) w h3 (sm [p.1, q.1, r.1]) (hJ [p.1, q.1, r.1] (by simp) (by simp)) ((tj [p.1, q.1, r.1]).trans (by simp)) (by simp; omega) (by omega) ew).trans (by simp)⟩
end My

/-! the law, turn by turn -/
namespace My
open DL PySem
noncomputable abbrev DKS : List L2.Key := [.inr "<ab>", .inr "<ab 12>", .inr "it: <c> and <ab>", .inr "<ab><ab>"]
noncomputable abbrev DVS : List D := [.lst [.str "ab"], .lst [.str "ab"], .lst [.str "c", .str "ab"], .lst [.str "ab", .str "ab"]]
noncomputable abbrev ZZZ : Str := "\n<zzzzzzzz p. 3>"
theorem key_look : ∀ p ∈ pt8, ∃ (l : List Str) (g b : Bool), look DKS DVS (.inr (S p.1)) = (if g then some (.lst (l.map D.str)) else none) ∧ (g = false → l = []) ∧ l.length ≤ 2 ∧ decide (S p.1 = ZZZ) = b ∧ p.2 = l ++ (if b then ([Str.ofString "zzzzzzzz"] : List Str) else []) := by
  intro p hp
  unfold pt8 at hp
  simp only [List.mem_cons, List.not_mem_nil, or_false] at hp
  rcases hp with rfl | rfl | rfl | rfl | rfl | rfl | rfl | rfl
  · exact ⟨[], false, false, rfl, (fun _ => rfl), by decide, rfl, rfl⟩
  · exact ⟨[], false, false, rfl, (fun _ => rfl), by decide, rfl, rfl⟩
  · exact ⟨["ab"], true, false, rfl, (fun h => nomatch h), by decide, rfl, rfl⟩
  · exact ⟨["ab"], true, false, rfl, (fun h => nomatch h), by decide, rfl, rfl⟩
  · exact ⟨["c", "ab"], true, false, rfl, (fun h => nomatch h), by decide, rfl, rfl⟩
  · exact ⟨["ab", "ab"], true, false, rfl, (fun h => nomatch h), by decide, rfl, rfl⟩
  · exact ⟨[], false, true, rfl, (fun _ => rfl), by decide, rfl, rfl⟩
  · exact ⟨[], false, false, rfl, (fun _ => rfl), by decide, rfl, rfl⟩
theorem key_step (a0 : Option SV) {p : List Nat × List Str} (hp : p ∈ pt8) (ks : List Str) (hk : ks.length ≤ 100) :
    Gen.b_law_keys_1 [a0, some (.oK DKS DVS), some (.ol (ks.map D.str)), some (.fz (.str (S p.1)))] = some (.nx [a0, some (.oK DKS DVS), some (.ol ((ks ++ p.2).map D.str)), some (.fz (.str (S p.1)))]) := by
  obtain ⟨l, g, b, h1, h2, h3, h4, h5⟩ := key_look p hp
  have z1 : ks.length + l.length ≤ PySem.sizeLine := line_of (by omega)
  have z2 : ks.length + l.length < PySem.sizeLine := line_lt (by omega)
  rw [h5]
  generalize S p.1 = t at *
  generalize hK : DKS = K1 at *
  generalize hV : DVS = V1 at *
  unfold Gen.b_law_keys_1
  cases g with
  | true =>
    rw [if_pos rfl] at h1
    cases b with
    | true =>
      have h6 : t = ZZZ := of_decide_eq_true h4
      rw [h6] at h1
      simp [-look, h1, z1, z2, h6]
    | false =>
      have h6 : ¬ t = ZZZ := of_decide_eq_false h4
      simp [-look, h1, z1, h6]
  | false =>
    have h0 := h2 rfl
    subst h0
    rw [if_neg (by decide)] at h1
    cases b with
    | true =>
      have h6 : t = ZZZ := of_decide_eq_true h4
      rw [h6] at h1
      simp at z1 z2
      simp [-look, h1, z1, z2, h6]
    | false =>
      have h6 : ¬ t = ZZZ := of_decide_eq_false h4
      simp at z1
      simp [-look, h1, z1, h6]
theorem pt_keys : ∀ p ∈ pt8, p.2.length ≤ 2 := by decide +kernel
theorem keys_ok {p q r : List Nat × List Str} (hp : p ∈ pt8) (hq : q ∈ pt8) (hr : r ∈ pt8) : Gen.g_law_keys [.lst (three p.1 q.1 r.1)] = some (.ol ((p.2 ++ (q.2 ++ r.2)).map D.str)) := by
  have l1 := pt_keys p hp
  have l2 := pt_keys q hq
  have k1 := key_step (some (.fz (.lst (three p.1 q.1 r.1)))) hp [] (by simp)
  have k2 := key_step (some (.fz (.lst (three p.1 q.1 r.1)))) hq p.2 (by omega)
  have k3 := key_step (some (.fz (.lst (three p.1 q.1 r.1)))) hr (p.2 ++ q.2) (by rw [List.length_append]; omega)
  have z1 : 1 ≤ PySem.sizeLine := line_of (by decide)
  have z2 : 2 ≤ PySem.sizeLine := line_of (by decide)
  have lp : forD (gNameF 3) Gen.b_law_keys_1 (three p.1 q.1 r.1) [some (.fz (.lst (three p.1 q.1 r.1))), some (.oK DKS DVS), some (.ol []), none] = some (.nx [some (.fz (.lst (three p.1 q.1 r.1))), some (.oK DKS DVS), some (.ol ((p.2 ++ (q.2 ++ r.2)).map D.str)), some (.fz (.str (S r.1)))]) := by
    rw [List.nil_append, List.map_nil] at k1
    refine (forD_nx (by simp) k1).trans ((forD_nx (by simp) k2).trans ((forD_nx (by simp) k3).trans ?_))
    simp
  unfold Gen.g_law_keys Gen.f_law_keys
  simp [-forD, lp, z1, z2]
theorem turn (ns : List Int) (hns : ns.length ≤ 63) (i : Nat) (hi : i < ns.length) (x2 x3 x4 x5 x6 : Option SV) :
    ∃ y2 y3 y4 y5, Gen.b_law_1 [some (.fz (.lst (ns.map D.int))), some (.fz (.int (i : Int))), x2, x3, x4, x5, x6] = some (.nx [some (.fz (.lst (ns.map D.int))), some (.fz (.int (i : Int))), y2, y3, y4, y5, x6]) := by
  have ec : L2.atI (ns.map D.int) (i : Int) = some (.int ns[i]) := at_nat _ i _ (by simp [hi])
  obtain ⟨p, hp, q, hq, r, hr, e1⟩ := parts_ok ns[i]
  obtain ⟨t, hb, e2⟩ := spoiled_ok hp hq hr (ns[i] / 512 + (i : Int))
  obtain ⟨g1, g2, g3, g4⟩ := good hp hq hr
  have e3 := keys_ok hp hq hr
  obtain ⟨a1, l1⟩ := pt_asc p hp
  obtain ⟨a2, l2⟩ := pt_asc q hq
  obtain ⟨a3, l3⟩ := pt_asc r hr
  have jx : JoinOk (Str.ofString "") [S p.1, S q.1, S r.1] = true := join_any [p.1, q.1, r.1] (fun l hl => by
    simp only [List.mem_cons, List.not_mem_nil, or_false] at hl
    rcases hl with e | e | e <;> rw [e] <;> omega) (by simp)
  have tx : Txt.join (Str.ofString "") [S p.1, S q.1, S r.1] = S (p.1 ++ (q.1 ++ r.1)) := (tjoin0 _).trans (cat3 _ _ _)
  have sx : strs? (three p.1 q.1 r.1) = some [S p.1, S q.1, S r.1] := strs_map [S p.1, S q.1, S r.1]
  have gT : goodT (p.1 ++ (q.1 ++ r.1)) = true := ((scan _).1).trans g1
  have bT : goodT t = false := ((scan _).1).trans hb.ok
  have rt := readText (p.1 ++ (q.1 ++ r.1)) g2 (by omega)
  rw [if_pos gT] at rt
  have rg : Gen.g_read_text [.str (S (p.1 ++ (q.1 ++ r.1)))] = some (.ol (partsT (p.1 ++ (q.1 ++ r.1)))) := by unfold Gen.g_read_text valG; rw [rt]
  have sh := show_ok gT (by omega)
  have rf := refused_t hb.asc (by have := hb.len; omega) bT
  have kA := keysA g2 (by omega) gT
  rw [allT_keys, g4] at kA
  have kB := keysB hb.asc (by have := hb.len; omega) bT
  have z2 : 2 ≤ PySem.sizeLine := line_of (by decide)
  generalize p.1 ++ (q.1 ++ r.1) = T at *
  generalize p.2 ++ (q.2 ++ r.2) = ks at *
  generalize partsT T = ps at *
  have eq1 := eqM_strs 46 ks
  have eq2 : eqM 48 (.lst []) (.lst []) = some true := eqM_lst 47 [] (fun x hx => nomatch hx)
  refine ⟨some (.fz (.lst (three p.1 q.1 r.1))), some (.fz (.str (S T))), some (.fz (.str (S t))), some (.fz (bookA (.str (S T)))), ?_⟩
  unfold Gen.b_law_1
  simp [-eqM, ec, e1, e2, sx, jx, tx, rg, sh, rf, kA, kB, e3, z2, eq1, eq2]
theorem loop_ok (ns : List Int) (hns : ns.length ≤ 63) : ∀ (n s : Nat) (x1 x2 x3 x4 x5 x6 : Option SV), s + n ≤ ns.length →
    ∃ y1 y2 y3 y4 y5, forD (gNameF 1) Gen.b_law_1 (nats s n) [some (.fz (.lst (ns.map D.int))), x1, x2, x3, x4, x5, x6] = some (.nx [some (.fz (.lst (ns.map D.int))), y1, y2, y3, y4, y5, x6])
  | 0, s, x1, x2, x3, x4, x5, x6, _ => ⟨x1, x2, x3, x4, x5, rfl⟩
  | n + 1, s, x1, x2, x3, x4, x5, x6, h => by
    obtain ⟨y2, y3, y4, y5, e⟩ := turn ns hns s (by omega) x2 x3 x4 x5 x6
    obtain ⟨w1, w2, w3, w4, w5, e2⟩ := loop_ok ns hns n (s + 1) (some (.fz (.int (s : Int)))) y2 y3 y4 y5 x6 (by omega)
    refine ⟨w1, w2, w3, w4, w5, ?_⟩
    have en : nats s (n + 1) = D.int (s : Int) :: nats (s + 1) n := by unfold nats; rw [List.range'_succ, List.map_cons]
    rw [en]
    exact (forD_nx (by simp) e).trans e2
noncomputable abbrev T4 : List D := [.non, .int 5, .lst [.str "a"], .tup [.str "point", .str "ab", .non]]
theorem cell_at (ns : List Int) : ∃ c : Int, Gen.g_law_cell_at [.lst (ns.map D.int), .int 0] = some (.fz (.int c)) := by
  unfold Gen.g_law_cell_at Gen.f_law_cell_at
  cases ns with
  | nil => exact ⟨0, by simp⟩
  | cons a r =>
    have h1 : (0 : Int) < ((r.length : Nat) : Int) + 1 := by omega
    have ec : L2.atI (D.int a :: r.map D.int) 0 = some (.int a) := at_nat _ 0 _ rfl
    exact ⟨a, by simp [ec, h1]⟩
theorem law_true (ns : List Int) (hns : ns.length ≤ 63) : Gen.g_law [.lst (ns.map D.int)] = some (.fz (.bl true)) := by
  obtain ⟨c, ec⟩ := cell_at ns
  obtain ⟨d, hd, e4⟩ := at_mod T4 c 4 (by decide) (by decide)
  have rf : Gen.g_law_refused [d] = some (.fz (.bl true)) := by
    simp only [T4, List.mem_cons, List.not_mem_nil, or_false] at hd
    refine refused_x _ (no_text d ?_ ?_) <;> rcases hd with rfl | rfl | rfl | rfl <;> first | rfl | decide
  have mn : (if (40 : Int) < (ns.length : Int) then (40 : Int) else (ns.length : Int)) = ((min ns.length 40 : Nat) : Int) := by
    split <;> omega
  have rg : rngP ((min ns.length 40 : Nat) : Int) := rngP_nat (by omega)
  obtain ⟨y1, y2, y3, y4, y5, lp⟩ := loop_ok ns hns (min ns.length 40) 0 none none none none none none (by omega)
  have it := ints_nats (min ns.length 40)
  have z1 : 1 ≤ PySem.sizeLine := line_of (by decide)
  have z2 : 2 ≤ PySem.sizeLine := line_of (by decide)
  have z3 : 3 ≤ PySem.sizeLine := line_of (by decide)
  have z4 : 4 ≤ PySem.sizeLine := line_of (by decide)
  have kC := keysC
  have eq2 : eqM 48 (.lst []) (.lst []) = some true := eqM_lst 47 [] (fun x hx => nomatch hx)
  generalize min ns.length 40 = m at *
  unfold Gen.g_law Gen.f_law
  simp [-forD, -eqM, mn, rg, it, lp, ec, e4, rf, kC, eq2, z1, z2, z3, z4]
end My

def PySem.W.Fast.tw9039966918362700654:=()
def PySem.W.Fast.tw1511416857997279348:=()
def PySem.W.Fast.tw2404141842441658769:=()
def PySem.W.Fast.tw11273234109490067653:=()
def PySem.W.Fast.tw6535165511272320232:=()
def PySem.W.Fast.tw17933465737137862490:=()
def PySem.W.Fast.tw6085717360707360033:=()
def PySem.W.Fast.tw17473295814906330081:=()
def PySem.W.Fast.tw5536503674870038662:=()
def PySem.W.Fast.tw8593271792319557457:=()
def PySem.W.Fast.tw10334185641015771970:=()
def PySem.W.Fast.tw14908946069654008519:=()
def PySem.W.Fast.tw1060657929412311208:=()
def PySem.W.Fast.tw14674828244967689452:=()
def PySem.W.Fast.tw11456338146293916802:=()
def PySem.W.Fast.tw16027250895660980034:=()
def PySem.W.Fast.tw12727035418970733286:=()
def PySem.W.Fast.tw212448583217681081:=()
def PySem.W.Fast.tw18199748022150756275:=()
def PySem.W.Fast.tw5328084100420325860:=()
def PySem.W.Fast.tw16337873171020833276:=()
open PySem PySem.W PyProof.Rows
set_option maxRecDepth 100000 in
set_option maxHeartbeats 0 in
theorem PySem.Challenge.cw_citeward_k28_what_is_no_text_holds : PySem.Challenge.rw_citeward_k28_what_is_no_text.Holds := by
  w_on; o_law; k_head; (case hw => w_witness2)
  k_fill
  refine Gen.walk (l := PySem.Challenge.rw_citeward_k28_what_is_no_text) rfl rfl (fun w h Y => PySem.W.kIn_of Y) ?F My.law_true
  case F =>
    intro w mg fa h KX G hmg
    refine' Gen.all_mk KX G hmg ?alaw_parts ?llaw_parts ?claw_parts ?klaw_parts ?alaw_spoiled ?llaw_spoiled ?claw_spoiled ?klaw_spoiled ?ais_all_of ?lis_all_of ?cis_all_of ?kis_all_of ?aangled ?langled ?cangled ?kangled ?ais_text_of ?lis_text_of ?cis_text_of ?kis_text_of ?ais_name ?lis_name ?cis_name ?kis_name ?ais_plain ?lis_plain ?cis_plain ?kis_plain ?aread_point ?lread_point ?cread_point ?kread_point ?aread_text ?lread_text ?cread_text ?kread_text ?alaw_refused ?llaw_refused ?claw_refused ?klaw_refused ?alaw_cell_at ?llaw_cell_at ?claw_cell_at ?klaw_cell_at ?apoint_keys ?lpoint_keys ?cpoint_keys ?kpoint_keys ?anote_keys ?lnote_keys ?cnote_keys ?knote_keys ?ashow_point ?lshow_point ?cshow_point ?kshow_point ?ashow_text ?lshow_text ?cshow_text ?kshow_text ?alaw_keys ?llaw_keys ?claw_keys ?klaw_keys ?alaw ?llaw ?claw ?klaw ?zValueError ?zall ?zenumerate ?zisinstance ?zlen ?zmin ?zrange ?zstr ?zNAME_LENGTH ?zPLAIN_LENGTH ?zPLAIN_SIGNS ?zSMALL_LETTERS ?zSTYLE_SIGNS ?zc_CiteError ?zc_NoHands ?zc_NoList ?zc_NoName ?zc_NoPlain ?zc_NoRow ?zc_NoStyle ?zc_NoText ?zc_NoWork ?ty_NoText ?ic_NoText ?be_NoText ?h_NoText_NoText ?q0_NoText ?q1_NoText ?q2_NoText ?ecl_NoText ?ega_NoText ?egt_NoText ?eca_NoText ?egs_NoText ?etk_NoText ?eob_NoText ?ebe_NoText ?ow_NoText
    (case alaw_parts => k_is)
    (case llaw_parts => k_is)
    (case claw_parts => k_is)
    (case klaw_parts => k_is)
    (case alaw_spoiled => k_is)
    (case llaw_spoiled => k_is)
    (case claw_spoiled => k_is)
    (case klaw_spoiled => k_is)
    (case ais_all_of => k_is)
    (case lis_all_of => k_is)
    (case cis_all_of => k_is)
    (case kis_all_of => k_is)
    (case aangled => k_is)
    (case langled => k_is)
    (case cangled => k_is)
    (case kangled => k_is)
    (case ais_text_of => k_is)
    (case lis_text_of => k_is)
    (case cis_text_of => k_is)
    (case kis_text_of => k_is)
    (case ais_name => k_is)
    (case lis_name => k_is)
    (case cis_name => k_is)
    (case kis_name => k_is)
    (case ais_plain => k_is)
    (case lis_plain => k_is)
    (case cis_plain => k_is)
    (case kis_plain => k_is)
    (case aread_point => k_is)
    (case lread_point => k_is)
    (case cread_point => k_is)
    (case kread_point => k_is)
    (case aread_text => k_is)
    (case lread_text => k_is)
    (case cread_text => k_is)
    (case kread_text => k_is)
    (case alaw_refused => k_is)
    (case llaw_refused => k_is)
    (case claw_refused => k_is)
    (case klaw_refused => k_is)
    (case alaw_cell_at => k_is)
    (case llaw_cell_at => k_is)
    (case claw_cell_at => k_is)
    (case klaw_cell_at => k_is)
    (case apoint_keys => k_is)
    (case lpoint_keys => k_is)
    (case cpoint_keys => k_is)
    (case kpoint_keys => k_is)
    (case anote_keys => k_is)
    (case lnote_keys => k_is)
    (case cnote_keys => k_is)
    (case knote_keys => k_is)
    (case ashow_point => k_is)
    (case lshow_point => k_is)
    (case cshow_point => k_is)
    (case kshow_point => k_is)
    (case ashow_text => k_is)
    (case lshow_text => k_is)
    (case cshow_text => k_is)
    (case kshow_text => k_is)
    (case alaw_keys => k_is)
    (case llaw_keys => k_is)
    (case claw_keys => k_is)
    (case klaw_keys => k_is)
    (case alaw => k_is)
    (case llaw => k_is)
    (case claw => k_is)
    (case klaw => k_is)
    (case zValueError => k_is)
    (case zall => k_is)
    (case zenumerate => k_is)
    (case zisinstance => k_is)
    (case zlen => k_is)
    (case zmin => k_is)
    (case zrange => k_is)
    (case zstr => k_is)
    (case zNAME_LENGTH => k_is)
    (case zPLAIN_LENGTH => k_is)
    (case zPLAIN_SIGNS => k_is)
    (case zSMALL_LETTERS => k_is)
    (case zSTYLE_SIGNS => k_is)
    (case zc_CiteError => k_is)
    (case zc_NoHands => k_is)
    (case zc_NoList => k_is)
    (case zc_NoName => k_is)
    (case zc_NoPlain => k_is)
    (case zc_NoRow => k_is)
    (case zc_NoStyle => k_is)
    (case zc_NoText => k_is)
    (case zc_NoWork => k_is)
    (case ty_NoText => k_is)
    (case ic_NoText => k_is)
    (case be_NoText => k_is)
    (case h_NoText_NoText => k_is)
    (case q0_NoText => kit_is)
    (case q1_NoText => kit_is)
    (case q2_NoText => kit_is)
    (case ecl_NoText => k_is)
    (case ega_NoText => k_is)
    (case egt_NoText => k_is)
    (case eca_NoText => k_is)
    (case egs_NoText => k_is)
    (case etk_NoText => k_is)
    (case eob_NoText => k_is)
    (case ebe_NoText => k_is)
    (case ow_NoText => k_exc)

