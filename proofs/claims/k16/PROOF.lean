import PyProof.Rows.All
import Wide.All
import OpenK.AllK
import Wide.FinOn
import Lean
import PyProof.EqAt
import PyProof.EqKinds
import PyProof.TupleCall
import PyProof.NeKinds
import PyProof.EnumMake
import PyProof.ConsumeWalk
import PyProof.StrWalks
import PyProof.WalksMore
import PyProof.StrLawsNeg
import PySem.Challenge.RW_citeward_k16_templates_filled
set_option Elab.async false
set_option linter.all false
set_option maxRecDepth 100000
set_option maxHeartbeats 4000000
namespace L2
open PySem PySem.Spec PyProof.Rows
noncomputable abbrev Key := Sum Int Str
noncomputable def Zgg : Key → Value → Bool
  | .inl k, v => Value.isInt k v
  | .inr x, v => Value.isStrOf x v
noncomputable def keyH (w : World) : Key → Int
  | .inl k => hashInt k
  | .inr x => hashStr w x
theorem Z0 : ∀ {k : Key} {v : Value}, Zgg k v = true → (∃ i t, k = Sum.inl i ∧ v = Value.int i t) ∨ (∃ x t, k = Sum.inr x ∧ v = Value.str x t)
  | .inl i, v, h => by
    obtain ⟨t, e⟩ := Value.isInt_shape (k := i) (v := v) h
    exact .inl ⟨i, t, rfl, e⟩
  | .inr x, v, h => by
    obtain ⟨t, e⟩ := Value.isStrOf_shape (x := x) (v := v) h
    exact .inr ⟨x, t, rfl, e⟩
theorem Znr (i : Int) (t : Tok) : Zgg (.inl i) (.int i t) = true := by simp [Zgg, Value.isInt]
theorem Zns (x : Str) (t : Tok) : Zgg (.inr x) (.str x t) = true := by simp [Zgg, Value.isStrOf]
theorem Zwb (a b : Int) : decide ((Sum.inl a : Key) = Sum.inl b) = (a == b) := by
  by_cases e : a = b
  · subst e; simp
  · have h : ¬ (Sum.inl a : Key) = Sum.inl b := fun q => e (Sum.inl.inj q)
    rw [decide_eq_false h]
    exact (beq_eq_false_iff_ne.mpr e).symm
theorem Zwc (a b : Str) : decide ((Sum.inr a : Key) = Sum.inr b) = decide (a = b) := by
  by_cases e : a = b
  · subst e; simp
  · have h : ¬ (Sum.inr a : Key) = Sum.inr b := fun q => e (Sum.inr.inj q)
    rw [decide_eq_false h, decide_eq_false e]
theorem Zwd (a : Int) (b : Str) : decide ((Sum.inl a : Key) = Sum.inr b) = false := decide_eq_false (fun q => nomatch q)
theorem Zwe (a : Str) (b : Int) : decide ((Sum.inr a : Key) = Sum.inl b) = false := decide_eq_false (fun q => nomatch q)
noncomputable def Zx (prog : Program) (w : World) : PySem.KeyKind prog w Key where
  is := Zgg
  hash := keyH w
  inj := fun v a b ha hb => by
    rcases Z0 ha with ⟨i, t, rfl, rfl⟩ | ⟨x, t, rfl, rfl⟩
    · rcases Z0 hb with ⟨j, u, rfl, e⟩ | ⟨y, u, rfl, e⟩
      · injection e with e1 _; rw [e1]
      · exact nomatch e
    · rcases Z0 hb with ⟨j, u, rfl, e⟩ | ⟨y, u, rfl, e⟩
      · exact nomatch e
      · injection e with e1 _; rw [e1]
  byValue := fun k v h => by
    rcases Z0 h with ⟨i, t, rfl, rfl⟩ | ⟨x, t, rfl, rfl⟩ <;> rfl
  pyHash := fun hv h => by
    rcases Z0 hv with ⟨i, t, rfl, rfl⟩ | ⟨x, t, rfl, rfl⟩
    · exact wpAny_pyHash_int h
    · exact wpAny_pyHash_str h
  eqBool := fun hu hv h => by
    rcases Z0 hu with ⟨i, t, rfl, rfl⟩ | ⟨x, t, rfl, rfl⟩
    · rcases Z0 hv with ⟨j, u, rfl, rfl⟩ | ⟨y, u, rfl, rfl⟩
      · rw [Zwb] at h; exact wpAny_eqBool_int h
      · rw [Zwd] at h; exact SeqAt.EqAt.int_str i t y u _ _ _ _ h
    · rcases Z0 hv with ⟨j, u, rfl, rfl⟩ | ⟨y, u, rfl, rfl⟩
      · rw [Zwe] at h; exact SeqAt.EqAt.str_int x t j u _ _ _ _ h
      · rw [Zwc] at h; exact wpAny_eqBool_str h
  «strs» := fun k x t v h => by
    rcases Z0 h with ⟨i, u, rfl, e⟩ | ⟨y, u, rfl, e⟩
    · exact nomatch e
    · injection e with e1 _
      subst e1
      cases v <;> rfl
theorem Zv7 (prog : Program) (w : World) (k : Key) (v : Value) : (Zx prog w).is k v = Zgg k v := rfl
theorem Zkq (prog : Program) (w : World) (i : Int) (t : Tok) : (Zx prog w).is (.inl i) (.int i t) = true := Znr i t
theorem Zkr (prog : Program) (w : World) (x : Str) (t : Tok) : (Zx prog w).is (.inr x) (.str x t) = true := Zns x t
end L2
namespace L2
open PySem PySem.Spec PyProof.Rows
inductive V where
  | non | bl (b : Bool) | int (i : Int) | str (x : Str) | byt (b : Array UInt8) | flt (b : UInt64) | ref (a : Addr) | ty (n : String)
  deriving DecidableEq
noncomputable def RelV : V → Value → Prop
  | .non, u => u = Value.none
  | .bl b, u => u = Value.bool b
  | .int i, u => ∃ t, u = Value.int i t
  | .str x, u => ∃ t, u = Value.str x t
  | .byt b, u => ∃ t, u = Value.bytes b t
  | .flt b, u => ∃ t, u = Value.float b t
  | .ref a, u => u = Value.ref a
  | .ty n, u => u = Value.type n
noncomputable abbrev Vals : List V → List Value → Prop := Paired RelV
theorem Vals.length {xs : List V} {us : List Value} (r : Vals xs us) : xs.length = us.length := Paired.length r
theorem Vals.get : ∀ {xs : List V} {us : List Value} {i : Nat} {x : V}, Vals xs us → xs[i]? = some x → ∃ u, us[i]? = some u ∧ RelV x u
  | _, _, _, _, .nil, e => by simp at e
  | _, _, 0, _, .cons r _, e => by simp at e; subst e; exact ⟨_, rfl, r⟩
  | _, _, i + 1, x, .cons _ t, e => by
    obtain ⟨u, h1, h2⟩ := Vals.get (i := i) (x := x) t (by simpa using e)
    exact ⟨u, by simpa using h1, h2⟩
theorem Vals.append : ∀ {xs ys : List V} {us ws : List Value}, Vals xs us → Vals ys ws → Vals (xs ++ ys) (us ++ ws)
  | _, _, _, _, .nil, s => s
  | _, _, _, _, .cons r t, s => .cons r (Vals.append t s)
theorem Vals.take : ∀ {xs : List V} {us : List Value} (n : Nat), Vals xs us → Vals (xs.take n) (us.take n)
  | _, _, 0, _ => .nil
  | _, _, _ + 1, .nil => .nil
  | _, _, n + 1, .cons r t => .cons r (Vals.take n t)
theorem Vals.drop : ∀ {xs : List V} {us : List Value} (n : Nat), Vals xs us → Vals (xs.drop n) (us.drop n)
  | _, _, 0, r => r
  | _, _, _ + 1, .nil => .nil
  | _, _, n + 1, .cons _ t => Vals.drop n t
noncomputable def RelO : Option V → Option Value → Prop
  | some v, some u => RelV v u
  | none, none => True
  | _, _ => False
noncomputable def KV {κ : Type} : List (κ × V) → List (κ × Value) → Prop := Paired fun (p : κ × V) (q : κ × Value) => p.1 = q.1 ∧ RelV p.2 q.2
noncomputable def kV : Key → V
  | .inl i => .int i
  | .inr x => .str x
inductive HO where
  | lst (xs : List V)
  | tup (xs : List V)
  | dK (kvs : List (Key × V)) (ep : Nat) | dT (kvs : List (List Key × V)) (ep : Nat) (bs : List Addr)
  | set (S : Int → Bool) (n : Nat)
  | ins (C dx : Addr) (fs : List (Str × V))
  | own (x : Addr)
  | xd (fs : List (Str × V))
  | met (f x : Addr)
  | rng (lo hi : Int)
  | frz (o : Obj) (u : HO)
  | tbl (ps : Array Value)
  | ext (φ : Heap → Prop)
noncomputable abbrev Hp := Addr → Option HO
noncomputable def upd (H : Hp) (a : Addr) (o : HO) : Hp := fun b => if b = a then some o else H b
theorem Zah {H : Hp} {a : Addr} {o : HO} : upd H a o a = some o := by unfold upd; rw [if_pos rfl]
theorem Zv {H : Hp} {a b : Addr} {o : HO} (h : b ≠ a) : upd H a o b = H b := by unfold upd; rw [if_neg h]
theorem Z0a {H : Hp} {a b : Addr} {o u : HO} (h : H a = some o) (h' : H b = some u) (d : o ≠ u) : a ≠ b := by
  intro e; subst e; rw [h] at h'; exact d (Option.some.inj h')
theorem Zdl {H : Hp} {a b : Addr} {o : HO} (h : H a = some o) (h' : H b = none) : a ≠ b := by
  intro e; subst e; rw [h] at h'; cases h'
section
variable (P : Program) (w : World)
noncomputable def Zcp (H : Hp) (h : Heap) (a : Addr) : HO → Prop
  | .lst xs => xs.length ≤ sizeLine ∧ ∃ (its : List Value) (n : Nat), Vals xs its ∧ h.get? a = some { cls := .type "list", data := .seq its.toArray n }
  | .tup xs => xs.length ≤ sizeLine ∧ ∃ its : List Value, Vals xs its ∧ IsTup h a its.toArray
  | .dK kvs ep => kvs.length ≤ sizeLine ∧ (a == sysModules) = false ∧ ∃ vs, KV kvs vs ∧ h.DictAt (Zx P w) a vs ep
  | .dT kvs ep bs => kvs.length ≤ sizeLine ∧ (a == sysModules) = false ∧ ∃ xs : List (List Key × Addr × Value),
      Paired (fun (p : List Key × V) (q : List Key × Addr × Value) => p.1 = q.1 ∧ H q.2.1 = some (.tup (p.1.map kV)) ∧ RelV p.2 q.2.2) kvs xs ∧
      ∃ o es, h.get? a = some o ∧ o.ExactDict ∧ o.data = .dict es ep ∧ es.toList = xs.map (entryOfKey (tupleKind (Zx P w))) ∧ (xs.map (·.1)).Nodup ∧ (xs.map fun x => x.2.1) = bs
  | .set S n => h.SetOf (intKind P w) a S n
  | .ins C dx fs => H dx = some (.own a) ∧ fs.length ≤ 1000 ∧ dx ≠ a ∧ h.get? a = some (PySem.W.instObj C dx) ∧
      ∃ mA, h.Ns1 dx mA ∧ (∀ f, RelO (fs.lookup f) (mA f)) ∧ PySem.Within mA (fs.map (·.1))
  | .own _ => ∃ o, h.get? a = some o
  | .xd fs => ∃ mA, h.Ns1 a mA ∧ ∀ f, RelO (fs.lookup f) (mA f)
  | .rng lo hi => ∃ t u v, h.get? a = some { cls := .type "range", data := .fields #[.int lo t, .int hi u, .int 1 v] }
  | .frz o u => h.get? a = some o ∧ Zcp H h a u
  | .tbl ps => h.get? a = some { cls := .none, data := .fields ps }
  | .met f x => h.get? a = some (PySem.W.methodObj (.ref f) (.ref x))
  | .ext φ => φ h ∧ (∃ o, h.get? a = some o) ∧ ∀ h1 h2 : Heap, φ h1 → (∀ o, h1.get? a = some o → h2.get? a = some o) → φ h2
noncomputable def HOk (H : Hp) (h : Heap) : Prop := ∀ a o, H a = some o → Zcp P w H h a o
end
section
variable {P : Program} {w : World} {H H' : Hp} {h h' : Heap} {a : Addr} {o : HO}
theorem Zcp.lt (x : Zcp P w H h a o) : a < h.objs.size := by
  cases o with
  | lst xs => obtain ⟨_, _, _, _, e⟩ := x; exact Heap.lt_size e
  | tup xs => obtain ⟨_, _, _, p⟩ := x; exact p.lt
  | dK kvs ep => obtain ⟨_, _, _, _, o, _, e, _⟩ := x; exact Heap.lt_size e
  | dT kvs ep bs => obtain ⟨_, _, _, _, o, _, e, _⟩ := x; exact Heap.lt_size e
  | set S n => obtain ⟨o, _, _, _, e, _⟩ := x; exact Heap.lt_size e
  | ins C dx fs => obtain ⟨_, _, _, e, _⟩ := x; exact Heap.lt_size e
  | own y => obtain ⟨_, e⟩ := x; exact Heap.lt_size e
  | xd fs => obtain ⟨_, ⟨_, _, _, e, _⟩, _⟩ := x; exact Heap.lt_size e
  | rng lo hi => obtain ⟨_, _, _, e⟩ := x; exact Heap.lt_size e
  | frz ob u => obtain ⟨e, _⟩ := x; exact Heap.lt_size e
  | tbl ps => exact Heap.lt_size (show h.get? a = some _ from x)
  | met f y => exact Heap.lt_size (show h.get? a = some _ from x)
  | ext φ => obtain ⟨_, ⟨_, e⟩, _⟩ := x; exact Heap.lt_size e
theorem Paired.mapP {α β : Type} {F G : α → β → Prop} : ∀ {l₁ : List α} {l₂ : List β}, Paired F l₁ l₂ → (∀ a b, F a b → G a b) → Paired G l₁ l₂
  | _, _, .nil, _ => .nil
  | _, _, .cons r t, f => .cons (f _ _ r) (Paired.mapP t f)
theorem Zcp.stay (x : Zcp P w H h a o) (k : ∀ b u, (b = a ∨ H b = some (.own a)) → h.get? b = some u → h'.get? b = some u)
    (ho : ∀ b, H b = some (.own a) → H' b = some (.own a)) (ht : ∀ b xs, H b = some (.tup xs) → H' b = some (.tup xs)) : Zcp P w H' h' a o := by
  induction o with
  | lst xs => obtain ⟨z, its, n, r, e⟩ := x; exact ⟨z, its, n, r, k _ _ (.inl rfl) e⟩
  | tup xs => obtain ⟨z, its, r, ob, e, c⟩ := x; exact ⟨z, its, r, ob, k _ _ (.inl rfl) e, c⟩
  | dK kvs ep => obtain ⟨z, y, vs, r, ob, es, e, c⟩ := x; exact ⟨z, y, vs, r, ob, es, k _ _ (.inl rfl) e, c⟩
  | dT kvs ep bs =>
    obtain ⟨z, y, xs, r, ob, es, e, c⟩ := x
    exact ⟨z, y, xs, Paired.mapP r fun p q z => ⟨z.1, ht _ _ z.2.1, z.2.2⟩, ob, es, k _ _ (.inl rfl) e, c⟩
  | set S n => obtain ⟨ob, es, ep, t, e, c⟩ := x; exact ⟨ob, es, ep, t, k _ _ (.inl rfl) e, c⟩
  | ins C dx fs =>
    obtain ⟨d, z, ne, e, mA, ⟨od, es, ep, e2, c⟩, r⟩ := x
    exact ⟨ho _ d, z, ne, k _ _ (.inl rfl) e, mA, ⟨od, es, ep, k _ _ (.inr d) e2, c⟩, r⟩
  | own y => obtain ⟨ob, e⟩ := x; exact ⟨ob, k _ _ (.inl rfl) e⟩
  | xd fs => obtain ⟨mA, ⟨od, es, ep, e, c⟩, r⟩ := x; exact ⟨mA, ⟨od, es, ep, k _ _ (.inl rfl) e, c⟩, r⟩
  | rng lo hi => obtain ⟨t, u, v, e⟩ := x; exact ⟨t, u, v, k _ _ (.inl rfl) e⟩
  | frz ob u ih => obtain ⟨e, q⟩ := x; exact ⟨k _ _ (.inl rfl) e, ih q⟩
  | tbl ps =>
    have e : h.get? a = some { cls := .none, data := .fields ps } := x
    show h'.get? a = some { cls := .none, data := .fields ps }
    exact k a _ (.inl rfl) e
  | met f y =>
    have e : h.get? a = some (PySem.W.methodObj (.ref f) (.ref y)) := x
    show h'.get? a = some (PySem.W.methodObj (.ref f) (.ref y))
    exact k a _ (.inl rfl) e
  | ext φ => obtain ⟨p, ⟨o, e⟩, st⟩ := x; exact ⟨st _ _ p fun o q => k _ _ (.inl rfl) q, ⟨o, k _ _ (.inl rfl) e⟩, st⟩
theorem HOk.lt (x : HOk P w H h) (e : H a = some o) : a < h.objs.size := (x a o e).lt
theorem HOk.fresh (x : HOk P w H h) (e : h.objs.size ≤ a) : H a = none := by
  cases q : H a with
  | none => rfl
  | some u => exact absurd (Nat.lt_of_lt_of_le (x.lt q) e) (Nat.lt_irrefl _)
theorem HOk.kept (x : HOk P w H h) (k : ∀ b u, h.get? b = some u → h'.get? b = some u) : HOk P w H h' := fun a o e =>
  (x a o e).stay (fun b u _ q => k b u q) (fun _ q => q) fun _ _ q => q
theorem HOk.laid (x : HOk P w H h) (k : ∀ b u, h.get? b = some u → h'.get? b = some u) (hp : h.objs.size ≤ a) (new : Zcp P w (upd H a o) h' a o) : HOk P w (upd H a o) h' := fun b u e => by
  have hn := x.fresh hp
  by_cases hb : b = a
  · subst hb; rw [Zah] at e; cases e; exact new
  · rw [Zv hb] at e
    exact (x b u e).stay (fun c v _ q => k c v q) (fun c q => by rw [Zv (Zdl q hn)]; exact q) fun c xs q => by rw [Zv (Zdl q hn)]; exact q
end
noncomputable def Rd (H : Hp) (a : Addr) (u : HO) : Prop := H a = some u ∨ ∃ o, H a = some (.frz o u)
theorem Rd.ok {P : Program} {w : World} {H : Hp} {h : Heap} {a : Addr} {u : HO} (r : Rd H a u) (x : HOk P w H h) : Zcp P w H h a u := by
  rcases r with r | ⟨o, r⟩
  · exact x a u r
  · obtain ⟨_, q⟩ := x a _ r
    exact q
noncomputable def HK (H : Hp) (a : Addr) (kvs : List (Key × V)) : Prop := ∃ ep, H a = some (.dK kvs ep)
noncomputable def HTt (H : Hp) (a : Addr) (kvs : List (List Key × V)) : Prop := ∃ ep bs, H a = some (.dT kvs ep bs)
noncomputable def RdK (H : Hp) (a : Addr) (kvs : List (Key × V)) : Prop := ∃ ep, Rd H a (.dK kvs ep)
noncomputable def RdT (H : Hp) (a : Addr) (kvs : List (List Key × V)) : Prop := ∃ ep bs, Rd H a (.dT kvs ep bs)
theorem HK.rd {H : Hp} {a : Addr} {kvs : List (Key × V)} (h : HK H a kvs) : RdK H a kvs := let ⟨ep, h⟩ := h; ⟨ep, .inl h⟩
noncomputable def putB (kvs : List (List Key × V)) (bs : List Addr) (k : List Key) (b : Addr) : List Addr := if (kvs.any fun kv => decide (kv.1 = k)) = true then bs else bs ++ [b]
theorem HTt.rd {H : Hp} {a : Addr} {kvs : List (List Key × V)} (h : HTt H a kvs) : RdT H a kvs := let ⟨ep, bs, h⟩ := h; ⟨ep, bs, .inl h⟩
noncomputable def Mut : Option HO → Prop
  | some (.lst _) => True
  | some (.dK _ _) => True
  | some (.dT _ _ _) => True
  | some (.set _ _) => True
  | some (.ins _ _ _) => True
  | some (.ext _) => True
  | _ => False
section
variable {P : Program} {w : World} {H : Hp} {h h' : Heap} {x e : Addr} {o' : HO}
theorem HOk.write (ok : HOk P w H h) (mu : Mut (H x)) (he : e = x ∨ H e = some (.own x)) (k : ∀ b u, b ≠ e → h.get? b = some u → h'.get? b = some u) (heo : ∃ u, h'.get? e = some u)
    (new : Zcp P w (upd H x o') h' x o') : HOk P w (upd H x o') h' := fun b u q => by
  have nown : ∀ c y, H c = some (.own y) → c ≠ x := fun c y r z => by subst z; rw [r] at mu; exact mu
  have ntup : ∀ c xs, H c = some (.tup xs) → c ≠ x := fun c xs r z => by subst z; rw [r] at mu; exact mu
  by_cases hb : b = x
  · subst hb; rw [Zah] at q; cases q; exact new
  · rw [Zv hb] at q
    by_cases hbe : b = e
    · have q' : H b = some (.own x) := by
        rcases he with z | z
        · exact absurd (hbe.trans z) hb
        · rw [hbe]; exact z
      rw [q] at q'; cases q'
      obtain ⟨v, hv⟩ := heo
      exact ⟨v, by rw [hbe]; exact hv⟩
    · refine (ok b u q).stay (fun c v hc r => k c v ?_ r) (fun c r => by rw [Zv (nown c b r)]; exact r) fun c xs r => by rw [Zv (ntup c xs r)]; exact r
      rcases hc with rfl | hc
      · exact hbe
      · rintro rfl
        rcases he with z | z
        · exact nown c b hc z
        · rw [hc] at z; cases z; exact hb rfl
end
structure Un (fs ex : List Addr) (H H' : Hp) (h h' : Heap) : Prop where
  keep : ∀ b o, h.get? b = some o → H b = none → b ∉ fs → b ∉ ex → h'.get? b = some o
  slot : ∀ b o, h.get? b = some o → H b = none → b ∈ fs → b ∉ ex → ∃ sl, h'.get? b = some { o with slots := sl }
  free : ∀ b o, h.get? b = some o → H b = none → b ∉ ex → H' b = none
  there : ∀ b o, h.get? b = some o → b ∉ ex → ∃ o', h'.get? b = some o'
  tups : ∀ b xs, H b = some (.tup xs) → H' b = some (.tup xs)
  frzs : ∀ b o u, H b = some (.frz o u) → H' b = some (.frz o u)
  tbls : ∀ b ps, H b = some (.tbl ps) → ∃ more, H' b = some (.tbl (ps ++ more))
section
variable {fs fs' ex ex' : List Addr} {H H1 H2 : Hp} {h h1 h2 h' : Heap} {a x e : Addr} {o : HO}
theorem Un.any (u : Un fs ex H H1 h h1) {b : Addr} {ob : Obj} (q : h.get? b = some ob) (n : H b = none) (hx : b ∉ ex) : ∃ sl, h1.get? b = some { ob with slots := sl } := by
  by_cases hb : b ∈ fs
  · exact u.slot b ob q n hb hx
  · exact ⟨ob.slots, u.keep b ob q n hb hx⟩
theorem Un.kept (k : ∀ b u, h.get? b = some u → h'.get? b = some u) : Un fs ex H H h h' :=
  ⟨fun b ob q _ _ _ => k b ob q, fun b ob q _ _ _ => ⟨ob.slots, k b ob q⟩, fun _ _ _ n _ => n, fun b ob q _ => ⟨ob, k b ob q⟩, fun _ _ q => q, fun _ _ _ q => q, fun _ ps q => ⟨#[], by rw [q]; simp⟩⟩
theorem Un.refl : Un fs ex H H h h := Un.kept fun _ _ q => q
theorem Un.laid (k : ∀ b u, h.get? b = some u → h'.get? b = some u) (hp : h.objs.size ≤ a) (hn : H a = none) : Un fs ex H (upd H a o) h h' where
  keep := fun b u q _ _ _ => k b u q
  slot := fun b u q _ _ _ => ⟨u.slots, k b u q⟩
  free := fun b u q n _ => by rw [Zv (Nat.ne_of_lt (Nat.lt_of_lt_of_le (Heap.lt_size q) hp))]; exact n
  there := fun b u q _ => ⟨u, k b u q⟩
  tups := fun b xs q => by rw [Zv (Zdl q hn)]; exact q
  frzs := fun b u xs q => by rw [Zv (Zdl q hn)]; exact q
  tbls := fun b ps q => ⟨#[], by rw [Zv (Zdl q hn), q]; simp⟩
theorem Un.write (mu : Mut (H x)) (he : e = x ∨ H e = some (.own x)) (k : ∀ b u, b ≠ e → h.get? b = some u → h'.get? b = some u) (heo : ∃ u, h'.get? e = some u) : Un fs ex H (upd H x o) h h' := by
  have hx : ∀ b, H b = none → b ≠ x := fun b n z => by subst z; rw [n] at mu; exact mu
  have hb : ∀ b, H b = none → b ≠ e := fun b n z => by
    subst z
    rcases he with r | r
    · exact hx b n r
    · rw [n] at r; cases r
  have hm : ∀ b u, H b = some u → ¬ Mut (some u) → b ≠ x := fun b u q nm z => by subst z; rw [q] at mu; exact nm mu
  refine ⟨fun b u q n _ _ => k b u (hb b n) q, fun b u q n _ _ => ⟨u.slots, k b u (hb b n) q⟩, fun b u q n _ => by rw [Zv (hx b n)]; exact n, fun b u q _ => ?_,
    fun b xs q => by rw [Zv (hm b _ q fun z => z)]; exact q, fun b u xs q => by rw [Zv (hm b _ q fun z => z)]; exact q, fun b ps q => ⟨#[], by rw [Zv (hm b _ q fun z => z), q]; simp⟩⟩
  by_cases hbe : b = e
  · subst hbe; exact heo
  · exact ⟨u, k b u hbe q⟩
end
noncomputable def trk (h : Heap) (H : Hp) : List Addr := (List.range h.objs.size).filter fun a => (H a).isSome
noncomputable def hidT (h : Heap) (H : Hp) : Heap := PySem.W.hideAll h (trk h H)
theorem Znt (h : Heap) (H : Hp) : (hidT h H).objs.size = h.objs.size := PySem.W.hideAll_size _ _
theorem Zql {h : Heap} {H : Hp} {b : Addr} {o : Obj} (e : h.get? b = some o) (n : H b = none) : (hidT h H).get? b = some o :=
  PySem.W.hideAll_get _ e fun hm => by
    have q : (H b).isSome = true := (List.mem_filter.mp hm).2
    rw [n] at q; simp at q
theorem Zto {h : Heap} {H : Hp} {b : Addr} {o : Obj} (e : (hidT h H).get? b = some o) : h.get? b = some o ∧ H b = none := by
  have e' : h.get? b = some o := PySem.W.of_hideAll (trk h H) e
  refine ⟨e', ?_⟩
  cases q : H b with
  | none => rfl
  | some x =>
    have hm : b ∈ trk h H := List.mem_filter.mpr ⟨List.mem_range.mpr (Heap.lt_size e'), by simp [q]⟩
    have z : (hidT h H).get? b = none := PySem.W.hideAll_none (trk h H) hm
    rw [z] at e; cases e
noncomputable def Ztp (g h : Heap) (L : Addr) : List (Addr × Obj) := (List.range h.objs.size).filterMap fun a => if a = L ∨ (g.get? a).isSome = true then none else (h.get? a).map fun o => (a, o)
noncomputable def rest (g h : Heap) (L d : Addr) : List (Addr × Obj) := (Ztp g h L).filter fun p => decide (p.1 ≠ d)
end L2
namespace L2
open PySem PySem.Spec PyProof.Rows
structure Mod (K : PySem.W.Frag) (mg : Str → Option Value) (base : Heap) : Prop where
  kin : K.In base
  glob : base.Ns mainGlobals mg
  blt : ∃ mb, base.Ns builtinsNs mb ∧ ∀ x : Str, x ≠ "__name__" → mb x = bootBuiltins x
  nolimit : base.NoLimit
structure Cx where
  prog : Program
  w : World
  K : PySem.W.Frag
  mg : Str → Option Value
  base : Heap
  A : Around
  N : List Str
  s₀ : Shared
  H₀ : Hp
  env : Env
  outer : List Env
  stack : List Env
  ex : List Addr
  fn : Str → Bool
  calm : Bool
  pn : List (Addr × Obj)
  xe : Value → Shared → Prop
noncomputable def frs (l : List Env) : List Addr := l.filterMap (·.frame)
noncomputable abbrev Cx.fs (X : Cx) : List Addr := frs X.outer
noncomputable def Vis (sc : Scope) (x : Str) : Prop := sc.names.lookup x = some .local ∨ sc.names.lookup x = some .cell ∨ sc.names.lookup x = some .free
noncomputable def Loc (sc : Scope) (x : Str) : Prop := sc.names.lookup x = some .local ∨ sc.names.lookup x = some .cell
noncomputable def Look (env : Env) (h : Heap) (m : Str → Option Value) (x : Str) (u : Value) : Prop :=
  (env.kindOf x = some .local ∧ m x = some u) ∨ ((env.kindOf x = some .cell ∨ env.kindOf x = some .free) ∧ ∃ c, env.cells.lookup x = some c ∧ h.IsCell c (some u))
structure Cx.Ok (X : Cx) : Prop where
  mod : Mod X.K X.mg X.base
  kind : X.env.scope.kind = .function
  glob : X.env.globals = mainGlobals
  blt : X.env.builtins = builtinsNs
  above : X.s₀.heap.objs.size ≤ X.env.locals
  inj : ∀ x y c, X.env.cells.lookup x = some c → X.env.cells.lookup y = some c → x = y
  has : ∀ x, (X.env.kindOf x = some .cell ∨ X.env.kindOf x = some .free) → ∃ c, X.env.cells.lookup x = some c
  cab : ∀ x c, X.fn x = true → X.env.cells.lookup x = some c → X.s₀.heap.objs.size ≤ c
  hd : X.calm = true → X.A.handled = none
  frames : X.A.frames = some X.stack
  stk : X.stack = X.outer ∨ (X.stack = X.env :: X.outer ∧ X.env.frame = some X.env.locals)
  exf : ∀ b ∈ X.ex, b ≠ X.env.locals ∧ ∀ x c, X.env.cells.lookup x = some c → c ≠ b
  bs : ∀ b o, X.base.get? b = some o → X.s₀.heap.get? b = some o ∧ X.H₀ b = none
  bsz : X.base.objs.size ≤ X.s₀.heap.objs.size
  noex : ∀ b o, X.base.get? b = some o → b ∉ X.ex
  exfs : ∀ b ∈ X.ex, b ∉ X.fs
  funs : X.s₀.heap.FunFrames X.base X.outer
  frf : ∀ b ∈ X.fs, X.H₀ b = none
structure Inv (X : Cx) (pins : List (Addr × Obj)) (σ : List (Option V)) (H : Hp) (s : Shared) : Prop where
  ok : X.Ok
  os : s.os = X.s₀.os
  bare : AllBare s.gens
  base : Un X.fs X.ex X.H₀ H X.s₀.heap s.heap
  loc : ∃ m, s.heap.Ns X.env.locals m ∧ ∀ (i : Nat) (x : Str) (v : V), X.N[i]? = some x → σ[i]? = some (some v) → Vis X.env.scope x → ∃ u, RelV v u ∧ Look X.env s.heap m x u
  cell : ∀ x c, X.env.cells.lookup x = some c → ∃ v, s.heap.IsCell c v
  free : H X.env.locals = none
  freeC : ∀ x c, X.env.cells.lookup x = some c → H c = none
  pin : ∀ p ∈ X.pn ++ pins, s.heap.get? p.1 = some p.2 ∧ H p.1 = none ∧ p.1 ≠ X.env.locals ∧ p.1 ∉ X.fs ∧ ∀ v, p.2.data ≠ .cell v
  hok : HOk X.prog X.w H s.heap
  len : σ.length = X.N.length
section
variable {X : Cx} {pins : List (Addr × Obj)} {σ : List (Option V)} {H H' : Hp} {s : Shared} {h' : Heap}
theorem Cx.Ok.nofr (ok : X.Ok) {b : Addr} {o : Obj} (e : X.base.get? b = some o) : b ∉ X.fs := fun hb => by
  have := (ok.funs.mem hb).1
  rw [e] at this; cases this
theorem Inv.bs (I : Inv X pins σ H s) : ∀ b o, X.base.get? b = some o → s.heap.get? b = some o ∧ H b = none := fun b o e =>
  ⟨I.base.keep b o (I.ok.bs b o e).1 (I.ok.bs b o e).2 (I.ok.nofr e) (I.ok.noex b o e), I.base.free b o (I.ok.bs b o e).1 (I.ok.bs b o e).2 (I.ok.noex b o e)⟩
theorem Inv.bk (I : Inv X pins σ H s) : ∀ b o, X.base.get? b = some o → s.heap.get? b = some o := fun b o e => (I.bs b o e).1
theorem Inv.mod (I : Inv X pins σ H s) : Mod X.K X.mg X.base := I.ok.mod
theorem Inv.kIn (I : Inv X pins σ H s) : X.K.In s.heap := I.ok.mod.kin.keeps I.bk
theorem Inv.lt (I : Inv X pins σ H s) : X.env.locals < s.heap.objs.size := let ⟨_, hn, _⟩ := I.loc; hn.lt
theorem Inv.sz (I : Inv X pins σ H s) : X.s₀.heap.objs.size ≤ s.heap.objs.size := Nat.le_trans I.ok.above (Nat.le_of_lt I.lt)
theorem Inv.nofs (I : Inv X pins σ H s) {a : Addr} (h : s.heap.objs.size ≤ a) : a ∉ X.fs := fun hb => by
  obtain ⟨_, o, ho, _⟩ := I.ok.funs.mem hb
  exact absurd (Nat.lt_of_lt_of_le (Heap.lt_size ho) (Nat.le_trans I.sz h)) (Nat.lt_irrefl _)
theorem Inv.cne (I : Inv X pins σ H s) : ∀ x c, X.env.cells.lookup x = some c → c ≠ X.env.locals := fun x c e z => by
  obtain ⟨v, o, ho, hd⟩ := I.cell x c e
  obtain ⟨m, ⟨o', es, ep, ho', hd', _⟩, _⟩ := I.loc
  rw [z, ho'] at ho; cases ho; rw [hd'] at hd; cases hd
theorem Inv.funs (I : Inv X pins σ H s) : s.heap.FunFrames X.base X.outer := by
  have all : ∀ (l : List Env), (∀ b ∈ frs l, b ∈ X.fs) → X.s₀.heap.FunFrames X.base l → s.heap.FunFrames X.base l := by
    intro l
    induction l with
    | nil => intro _ _; trivial
    | cons env r ih =>
      intro hs hl
      obtain ⟨hk, ⟨L, o, hf, hn, ho, hd⟩, hr⟩ := hl
      have hL : L ∈ X.fs := hs L (by unfold frs; rw [List.filterMap_cons, hf]; exact List.mem_cons_self)
      obtain ⟨sl, e⟩ := I.base.slot L o ho (I.ok.frf L hL) hL fun z => I.ok.exfs L z hL
      exact ⟨hk, ⟨L, _, hf, hn, e, hd⟩, ih (fun b hb => hs b (by unfold frs; rw [List.filterMap_cons, hf]; exact List.mem_cons_of_mem _ hb)) hr⟩
  exact all X.outer (fun _ hb => hb) I.ok.funs
theorem Inv.stack (I : Inv X pins σ H s) : s.heap.FunFrames X.base X.stack := by
  rcases I.ok.stk with e | ⟨e, hf⟩
  · rw [e]; exact I.funs
  · rw [e]
    obtain ⟨m, hn, _⟩ := I.loc
    refine .cons (by rw [I.ok.kind]; decide) hf hn ?_ I.funs
    exact Heap.get?_none_of_le (Nat.le_trans I.ok.bsz I.ok.above)
theorem Inv.stkSub (I : Inv X pins σ H s) : ∀ b ∈ frs X.stack, b ∈ X.env.locals :: X.fs := fun b hb => by
  rcases I.ok.stk with e | ⟨e, hf⟩
  · rw [e] at hb; exact List.mem_cons_of_mem _ hb
  · rw [e] at hb
    unfold frs at hb
    rw [List.filterMap_cons, hf] at hb
    exact hb
theorem Inv.stkFree (I : Inv X pins σ H s) : ∀ b ∈ frs X.stack, H b = none := fun b hb => by
  rcases List.mem_cons.mp (I.stkSub b hb) with e | hb
  · rw [e]; exact I.free
  · obtain ⟨_, o, ho, _⟩ := I.ok.funs.mem hb
    exact I.base.free b o ho (I.ok.frf b hb) fun z => I.ok.exfs b z hb
theorem Inv.step {g' : Array GenState} {t' : Nat} {d' : Drawn} {ch : List Addr} (I : Inv X pins σ H s)
    (hch : ∀ b ∈ ch, (b ∈ X.ex ∨ X.s₀.heap.objs.size ≤ b) ∧ b ≠ X.env.locals ∧ (∀ x c, X.env.cells.lookup x = some c → c ≠ b) ∧ ∀ p ∈ X.pn ++ pins, p.1 ≠ b)
    (keep : ∀ b o, b ≠ X.env.locals → b ∉ X.fs → b ∉ ch → s.heap.get? b = some o → H b = none → h'.get? b = some o)
    (slot : ∀ b o, b ≠ X.env.locals → b ∈ X.fs → b ∉ ch → s.heap.get? b = some o → H b = none → ∃ sl, h'.get? b = some { o with slots := sl }) (free : ∀ b o, b ∉ ch → s.heap.get? b = some o → H b = none → H' b = none)
    (there : ∀ b o, b ∉ ch → s.heap.get? b = some o → ∃ o', h'.get? b = some o')
    (tups : ∀ b xs, H b = some (.tup xs) → H' b = some (.tup xs)) (frzs : ∀ b o u, H b = some (.frz o u) → H' b = some (.frz o u)) (tbls : ∀ b ps, H b = some (.tbl ps) → ∃ more, H' b = some (.tbl (ps ++ more)))
    (ns : ∀ m, s.heap.Ns X.env.locals m → h'.Ns X.env.locals m) (hok : HOk X.prog X.w H' h') (hg : AllBare g') :
    Inv X pins σ H' { s with heap := h', gens := g', drawn := d', toks := t' } := by
  have neL : ∀ b o, X.s₀.heap.get? b = some o → b ≠ X.env.locals := fun b o e => Nat.ne_of_lt (Nat.lt_of_lt_of_le (Heap.lt_size e) I.ok.above)
  have neC : ∀ b o, X.s₀.heap.get? b = some o → b ∉ X.ex → b ∉ ch := fun b o e hx hb => by
    rcases (hch b hb).1 with z | z
    · exact hx z
    · exact absurd (Nat.lt_of_lt_of_le (Heap.lt_size e) z) (Nat.lt_irrefl _)
  have cellK : ∀ x c, X.env.cells.lookup x = some c → ∀ v, s.heap.IsCell c v → h'.IsCell c v := fun x c e v ⟨o, ho, hd⟩ => by
    have nch : c ∉ ch := fun z => (hch c z).2.2.1 x c e rfl
    by_cases hc : c ∈ X.fs
    · obtain ⟨sl, q⟩ := slot c o (I.cne x c e) hc nch ho (I.freeC x c e)
      exact ⟨_, q, hd⟩
    · exact ⟨o, keep c o (I.cne x c e) hc nch ho (I.freeC x c e), hd⟩
  refine ⟨I.ok, I.os, hg, ⟨fun b o e n hb hx => ?_, fun b o e n hb hx => ?_, fun b o e n hx => ?_, fun b o e hx => ?_, fun b xs e => tups b xs (I.base.tups b xs e), fun b o xs e => frzs b o xs (I.base.frzs b o xs e), fun b ps e => ?_⟩, ?_, fun x c e => ?_, ?_, fun x c e => ?_, fun p hp => ?_, hok, I.len⟩
  · exact keep b o (neL b o e) hb (neC b o e hx) (I.base.keep b o e n hb hx) (I.base.free b o e n hx)
  · obtain ⟨sl, e1⟩ := I.base.slot b o e n hb hx
    obtain ⟨sl', e2⟩ := slot b _ (neL b o e) hb (neC b o e hx) e1 (I.base.free b o e n hx)
    exact ⟨sl', e2⟩
  · obtain ⟨o', e1⟩ := I.base.there b o e hx
    exact free b o' (neC b o e hx) e1 (I.base.free b o e n hx)
  · obtain ⟨o', e1⟩ := I.base.there b o e hx
    exact there b o' (neC b o e hx) e1
  · obtain ⟨m1, e1⟩ := I.base.tbls b ps e
    obtain ⟨m2, e2⟩ := tbls b _ e1
    exact ⟨m1 ++ m2, by rw [e2, Array.append_assoc]⟩
  · obtain ⟨m, hn, hl⟩ := I.loc
    refine ⟨m, ns m hn, fun i x v e1 e2 e3 => ?_⟩
    obtain ⟨u, r, l⟩ := hl i x v e1 e2 e3
    refine ⟨u, r, ?_⟩
    rcases l with l | ⟨k, c, e, z⟩
    · exact .inl l
    · exact .inr ⟨k, c, e, cellK x c e _ z⟩
  · obtain ⟨v, z⟩ := I.cell x c e
    exact ⟨v, cellK x c e v z⟩
  · obtain ⟨m, ⟨o, _, _, ho, _⟩, _⟩ := I.loc
    exact free _ o (fun z => (hch _ z).2.1 rfl) ho I.free
  · obtain ⟨v, o, ho, hd⟩ := I.cell x c e
    exact free c o (fun z => (hch c z).2.2.1 x c e rfl) ho (I.freeC x c e)
  · obtain ⟨e, n, ne, nf, d⟩ := I.pin p hp
    have nch : p.1 ∉ ch := fun z => (hch p.1 z).2.2.2 p hp rfl
    exact ⟨keep p.1 p.2 ne nf nch e n, free p.1 p.2 nch e n, ne, nf, d⟩
theorem Inv.un {t' : Nat} (I : Inv X pins σ H s) (u : Un X.fs [] H H' s.heap h') (hok : HOk X.prog X.w H' h') : Inv X pins σ H' { s with heap := h', toks := t' } := by
  obtain ⟨m, ⟨o, es, ep, ho, r⟩, _⟩ := id I.loc
  obtain ⟨sl, hL⟩ := u.any ho I.free (by simp)
  exact I.step (g' := s.gens) (d' := s.drawn) (ch := []) (fun _ z => nomatch z) (fun b o _ hb _ e n => u.keep b o e n hb (by simp)) (fun b o _ hb _ e n => u.slot b o e n hb (by simp)) (fun b o _ e n => u.free b o e n (by simp)) (fun b o _ e => u.there b o e (by simp)) u.tups u.frzs u.tbls (fun m' hm => by
    obtain ⟨o', es', ep', ho', r'⟩ := hm
    rw [ho] at ho'; cases ho'
    exact ⟨_, es', ep', hL, r'⟩) hok I.bare
theorem Inv.call {g' : Array GenState} {t' : Nat} {d' : Drawn} {ch : List Addr} (I : Inv X pins σ H s) (u : Un (frs X.stack) ch H H' s.heap h') (hok : HOk X.prog X.w H' h') (hg : AllBare g')
    (hch : ∀ b ∈ ch, (b ∈ X.ex ∨ X.s₀.heap.objs.size ≤ b) ∧ b ≠ X.env.locals ∧ (∀ x c, X.env.cells.lookup x = some c → c ≠ b) ∧ ∀ p ∈ X.pn ++ pins, p.1 ≠ b) :
    Inv X pins σ H' { s with heap := h', gens := g', drawn := d', toks := t' } := by
  obtain ⟨m, ⟨o, es, ep, ho, r⟩, _⟩ := id I.loc
  obtain ⟨sl, hL⟩ := u.any ho I.free fun z => (hch _ z).2.1 rfl
  exact I.step (ch := ch) hch (fun b o hL hb hc e n => u.keep b o e n (fun z => (List.mem_cons.mp (I.stkSub b z)).elim hL hb) hc) (fun b o _ _ hc e n => u.any e n hc) (fun b o hc e n => u.free b o e n hc) (fun b o hc e => u.there b o e hc) u.tups u.frzs u.tbls (fun m' hm => by
    obtain ⟨o', es', ep', ho', r'⟩ := hm
    rw [ho] at ho'; cases ho'
    exact ⟨_, es', ep', hL, r'⟩) hok hg
theorem Inv.turned {t' : Nat} {it : Addr} (I : Inv X pins σ H s) (k : ∀ b o, b ≠ it → s.heap.get? b = some o → h'.get? b = some o) (hn : H it = none) (hL : it ≠ X.env.locals)
    (h1 : it ∈ X.ex ∨ X.s₀.heap.objs.size ≤ it) (h2 : ∀ x c, X.env.cells.lookup x = some c → c ≠ it) (h3 : ∀ p ∈ X.pn ++ pins, p.1 ≠ it) : Inv X pins σ H { s with heap := h', toks := t' } := by
  have nit : ∀ b u, H b = some u → b ≠ it := fun b u e z => by rw [z, hn] at e; cases e
  refine I.step (g' := s.gens) (d' := s.drawn) (ch := [it]) (fun b hb => ?_) (fun b o _ _ hc e _ => k b o (fun z => hc (by simp [z])) e) (fun b o _ _ hc e _ => ⟨o.slots, k b o (fun z => hc (by simp [z])) e⟩) (fun _ _ _ _ n => n)
    (fun b o hc e => ⟨o, k b o (fun z => hc (by simp [z])) e⟩) (fun _ _ e => e) (fun _ _ _ e => e) (fun b ps e => ⟨#[], by rw [e]; simp⟩) (fun m hm => ?_) (fun b u e => ?_) I.bare
  · have e : b = it := by simpa using hb
    subst e
    exact ⟨h1, hL, h2, h3⟩
  · obtain ⟨o, es, ep, ho, r⟩ := hm
    exact ⟨o, es, ep, k _ o (Ne.symm hL) ho, r⟩
  · refine (I.hok b u e).stay (fun c v hc q => k c v ?_ q) (fun _ q => q) fun _ _ q => q
    rcases hc with z | z
    · rw [z]; exact nit b u e
    · exact nit c _ z
theorem Inv.tok (I : Inv X pins σ H s) (t : Nat) : Inv X pins σ H { s with toks := t } := I.un (h' := s.heap) (t' := t) Un.refl I.hok
theorem Inv.kept {t' : Nat} (I : Inv X pins σ H s) (k : ∀ b u, s.heap.get? b = some u → h'.get? b = some u) : Inv X pins σ H { s with heap := h', toks := t' } := I.un (Un.kept k) (I.hok.kept k)
theorem Inv.laid {a : Addr} {o : HO} {t' : Nat} (I : Inv X pins σ H s) (k : ∀ b u, s.heap.get? b = some u → h'.get? b = some u) (hp : s.heap.objs.size ≤ a) (new : Zcp X.prog X.w (upd H a o) h' a o) :
    Inv X pins σ (upd H a o) { s with heap := h', toks := t' } := I.un (Un.laid k hp (I.hok.fresh hp)) (I.hok.laid k hp new)
theorem Inv.write {x e : Addr} {o : HO} {t' : Nat} (I : Inv X pins σ H s) (mu : Mut (H x)) (he : e = x ∨ H e = some (.own x)) (k : ∀ b u, b ≠ e → s.heap.get? b = some u → h'.get? b = some u) (heo : ∃ u, h'.get? e = some u)
    (new : Zcp X.prog X.w (upd H x o) h' x o) : Inv X pins σ (upd H x o) { s with heap := h', toks := t' } := I.un (Un.write mu he k heo) (I.hok.write mu he k heo new)
theorem Inv.pins_of {pins' : List (Addr × Obj)} (I : Inv X pins σ H s) (h : ∀ p ∈ pins', s.heap.get? p.1 = some p.2 ∧ H p.1 = none ∧ p.1 ≠ X.env.locals ∧ p.1 ∉ X.fs ∧ ∀ v, p.2.data ≠ .cell v) : Inv X pins' σ H s :=
  ⟨I.ok, I.os, I.bare, I.base, I.loc, I.cell, I.free, I.freeC, fun p hp => (List.mem_append.mp hp).elim (fun z => I.pin p (List.mem_append_left _ z)) (h p), I.hok, I.len⟩
theorem Zhz {N : List Str} (hN : N.Nodup) {i j : Nat} {x : Str} (a : N[i]? = some x) (b : N[j]? = some x) : i = j := by
  obtain ⟨h1, e1⟩ := List.getElem?_eq_some_iff.mp a
  obtain ⟨h2, e2⟩ := List.getElem?_eq_some_iff.mp b
  exact (List.getElem_inj hN).mp (e1.trans e2.symm)
theorem Zi5 {M : Model} {A : Around} {E : Value → Shared → Prop} {i : Nat} {x : Str} {v : V} {u : Value} {Q : Unit → Shared → Prop} (I : Inv X pins σ H s) (hN : X.N.Nodup) (hi : X.N[i]? = some x) (hx : Loc X.env.scope x) (r : RelV v u)
    (h : ∀ s', Inv X pins (σ.set i (some v)) H s' → (∃ a, Heap.SameBut a s.heap s'.heap ∧ (a = X.env.locals ∨ X.env.cells.lookup x = some a)) → Q () s') (hf : X.fn x = true ∨ X.env.scope.names.lookup x = some .local := by first | exact .inl rfl | exact .inr rfl | assumption) : wpAny M A (storeName X.env x u) Q E s := by
  obtain ⟨m, hn, hl⟩ := id I.loc
  have hcls : (X.env.scope.kind == .class || (X.env.scope.kind == .module && X.env.locals != X.env.globals)) = false := by rw [I.ok.kind]; rfl
  have hiσ : i < σ.length := by rw [I.len]; exact (List.getElem?_eq_some_iff.mp hi).1
  have cne := I.cne
  have tracked : ∀ {a : Addr} {h' : Heap}, (∃ o, s.heap.get? a = some o ∧ H a = none) → Heap.SameBut a s.heap h' → HOk X.prog X.w H h' := fun {a h'} ha hs b ob e => by
    obtain ⟨_, _, hfree⟩ := ha
    refine (I.hok b ob e).stay (fun c w' hc q => (hs.2 c ?_).trans q) (fun _ q => q) fun _ _ q => q
    rintro rfl
    rcases hc with rfl | hc
    · rw [hfree] at e; cases e
    · rw [hfree] at hc; cases hc
  rcases hx with hk | hk
  · refine wpAny_storeName_local hk hn (fun h' hn' hs => ?_) hcls
    obtain ⟨oL, _, _, hoL, _⟩ := id hn
    refine h _ ⟨I.ok, I.os, I.bare, ⟨fun b o e n hb hx => ?_, fun b o e n hb hx => ?_, I.base.free, fun b o e hx => ?_, I.base.tups, I.base.frzs, I.base.tbls⟩, ⟨_, hn', fun j y v' e1 e2 e3 => ?_⟩, fun y c e => ?_, I.free, I.freeC, fun p hp => ?_, tracked ⟨oL, hoL, I.free⟩ hs, by simpa using I.len⟩ ⟨_, hs, .inl rfl⟩
    · exact (hs.2 b (Nat.ne_of_lt (Nat.lt_of_lt_of_le (Heap.lt_size e) I.ok.above))).trans (I.base.keep b o e n hb hx)
    · obtain ⟨sl, e1⟩ := I.base.slot b o e n hb hx
      exact ⟨sl, (hs.2 b (Nat.ne_of_lt (Nat.lt_of_lt_of_le (Heap.lt_size e) I.ok.above))).trans e1⟩
    · obtain ⟨o', e1⟩ := I.base.there b o e hx
      exact ⟨o', (hs.2 b (Nat.ne_of_lt (Nat.lt_of_lt_of_le (Heap.lt_size e) I.ok.above))).trans e1⟩
    · by_cases hj : j = i
      · subst hj
        rw [hi] at e1; cases e1
        rw [List.getElem?_set_self hiσ] at e2
        cases e2
        exact ⟨u, r, .inl ⟨hk, by simp⟩⟩
      · rw [List.getElem?_set_ne (Ne.symm hj)] at e2
        obtain ⟨u', r', q⟩ := hl j y v' e1 e2 e3
        refine ⟨u', r', ?_⟩
        rcases q with ⟨k, e⟩ | ⟨k, c, e, z⟩
        · refine .inl ⟨k, ?_⟩
          have : y ≠ x := fun e => hj (Zhz hN e1 (e ▸ hi))
          simp [this, e]
        · exact .inr ⟨k, c, e, z.sameBut hs (cne y c e)⟩
    · obtain ⟨w', z⟩ := I.cell y c e
      exact ⟨w', z.sameBut hs (cne y c e)⟩
    · obtain ⟨e, n, ne, nf, d⟩ := I.pin p hp
      exact ⟨(hs.2 p.1 ne).trans e, n, ne, nf, d⟩
  · have hfn : X.fn x = true := by
      rcases hf with z | z
      · exact z
      · rw [z] at hk; cases hk
    obtain ⟨c, hc⟩ := I.ok.has x (.inl hk)
    obtain ⟨w', z⟩ := I.cell x c hc
    refine wpAny_storeName_cell I.ok.kind hk hc z (fun h' hc' hs => ?_)
    obtain ⟨oc, hoc, hocd⟩ := id z
    refine h { s with heap := h' } ⟨I.ok, I.os, I.bare, ⟨fun b o e n hb hx => ?_, fun b o e n hb hx => ?_, I.base.free, fun b o e hx => ?_, I.base.tups, I.base.frzs, I.base.tbls⟩, ⟨m, hn.sameBut hs (Ne.symm (cne x c hc)), fun j y v' e1 e2 e3 => ?_⟩, fun y c' e => ?_, I.free, I.freeC, fun p hp => ?_, tracked ⟨oc, hoc, I.freeC x c hc⟩ hs, by simpa using I.len⟩ ⟨c, hs, .inr hc⟩
    · exact (hs.2 b (Nat.ne_of_lt (Nat.lt_of_lt_of_le (Heap.lt_size e) (I.ok.cab x c hfn hc)))).trans (I.base.keep b o e n hb hx)
    · obtain ⟨sl, e1⟩ := I.base.slot b o e n hb hx
      exact ⟨sl, (hs.2 b (Nat.ne_of_lt (Nat.lt_of_lt_of_le (Heap.lt_size e) (I.ok.cab x c hfn hc)))).trans e1⟩
    · obtain ⟨o', e1⟩ := I.base.there b o e hx
      exact ⟨o', (hs.2 b (Nat.ne_of_lt (Nat.lt_of_lt_of_le (Heap.lt_size e) (I.ok.cab x c hfn hc)))).trans e1⟩
    · by_cases hj : j = i
      · subst hj
        rw [hi] at e1; cases e1
        rw [List.getElem?_set_self hiσ] at e2
        cases e2
        exact ⟨u, r, .inr ⟨.inl hk, c, hc, hc'⟩⟩
      · rw [List.getElem?_set_ne (Ne.symm hj)] at e2
        obtain ⟨u', r', q⟩ := hl j y v' e1 e2 e3
        refine ⟨u', r', ?_⟩
        rcases q with q | ⟨k, c', e, z'⟩
        · exact .inl q
        · refine .inr ⟨k, c', e, z'.sameBut hs ?_⟩
          rintro rfl
          exact hj (Zhz hN e1 (I.ok.inj _ _ _ e hc ▸ hi))
    · by_cases hcc : c' = c
      · subst hcc; exact ⟨_, hc'⟩
      · obtain ⟨w2, z2⟩ := I.cell y c' e
        exact ⟨w2, z2.sameBut hs hcc⟩
    · obtain ⟨e, n, ne, nf, d⟩ := I.pin p hp
      refine ⟨(hs.2 p.1 ?_).trans e, n, ne, nf, d⟩
      intro q
      rw [q, hoc] at e
      have q' : oc = p.2 := Option.some.inj e
      exact d w' (by rw [← q']; exact hocd)
theorem Zh0 {M : Model} {A : Around} {E : Value → Shared → Prop} {i : Nat} {x : Str} {v : V} {u : Value} {Q : Unit → Shared → Prop} (I : Inv X pins σ H s) (hN : X.N.Nodup) (hi : X.N[i]? = some x) (hx : Loc X.env.scope x) (r : RelV v u)
    (h : ∀ s', Inv X pins (σ.set i (some v)) H s' → Q () s') (hf : X.fn x = true ∨ X.env.scope.names.lookup x = some .local := by first | exact .inl rfl | exact .inr rfl | assumption) : wpAny M A (storeName X.env x u) Q E s :=
  Zi5 I hN hi hx r (fun s' I' _ => h s' I') hf
theorem Inv.call' {s' : Shared} {ch : List Addr} (I : Inv X pins σ H s) (ho : s'.os = s.os) (u : Un (frs X.stack) ch H H' s.heap s'.heap) (hok : HOk X.prog X.w H' s'.heap) (hg : AllBare s'.gens)
    (hch : ∀ b ∈ ch, (b ∈ X.ex ∨ X.s₀.heap.objs.size ≤ b) ∧ b ≠ X.env.locals ∧ (∀ x c, X.env.cells.lookup x = some c → c ≠ b) ∧ ∀ p ∈ X.pn ++ pins, p.1 ≠ b) : Inv X pins σ H' s' := by
  obtain ⟨h', g', d', t', o'⟩ := s'
  have e : o' = s.os := ho
  subst e
  exact I.call (g' := g') (t' := t') (d' := d') u hok hg hch
end
noncomputable abbrev XK := Value → Option Addr → Hp → Prop
noncomputable abbrev St := List (Option V)
noncomputable abbrev VK := V → Hp → Prop
noncomputable abbrev TE := St → Hp → VK → Prop
noncomputable abbrev TT := St → Hp → (Bool → Hp → Prop) → Prop
noncomputable abbrev TA := St → Hp → (List V → Hp → Prop) → Prop
structure Ends where
  nx : St → Hp → Prop
  rt : VK
  bk : St → Hp → Prop := fun _ _ => False
  ct : St → Hp → Prop := fun _ _ => False
noncomputable abbrev TS := Ends → St → Hp → Prop
noncomputable def EP (X : Cx) (pins : List (Addr × Obj)) (σ : St) (Q : VK) (u : Value) (s' : Shared) : Prop := ∃ v H', Inv X pins σ H' s' ∧ RelV v u ∧ Q v H'
noncomputable def TP (X : Cx) (pins : List (Addr × Obj)) (σ : St) (Q : Bool → Hp → Prop) (b : Bool) (s' : Shared) : Prop := ∃ H', Inv X pins σ H' s' ∧ Q b H'
noncomputable def AP (X : Cx) (pins : List (Addr × Obj)) (σ : St) (Q : List V → Hp → Prop) (us : List Value) (s' : Shared) : Prop := ∃ vs H', Inv X pins σ H' s' ∧ Vals vs us ∧ Q vs H'
noncomputable def SP (X : Cx) (pins : List (Addr × Obj)) (D : Ends) (f : Flow) (s' : Shared) : Prop :=
  match f with
  | .next => ∃ σ' H', Inv X pins σ' H' s' ∧ D.nx σ' H'
  | .brk => ∃ σ' H', Inv X pins σ' H' s' ∧ D.bk σ' H'
  | .cont => ∃ σ' H', Inv X pins σ' H' s' ∧ D.ct σ' H'
  | .ret u => ∃ v σ' H', Inv X pins σ' H' s' ∧ RelV v u ∧ D.rt v H'
noncomputable def PE (X : Cx) (e : Expr) (t : TE) : Prop :=
  ∀ (pins : List (Addr × Obj)) (s : Shared) (σ : St) (H : Hp) (Q : VK), Inv X pins σ H s → t σ H Q → wpAny (model X.prog X.w) X.A (eval e X.env) (EP X pins σ Q) X.xe s
noncomputable def PT (X : Cx) (e : Expr) (t : TT) : Prop :=
  ∀ (pins : List (Addr × Obj)) (s : Shared) (σ : St) (H : Hp) (Q : Bool → Hp → Prop), Inv X pins σ H s → t σ H Q → wpAny (model X.prog X.w) X.A (isTrue e X.env (eval e X.env)) (TP X pins σ Q) X.xe s
noncomputable def PW (X : Cx) (e : Expr) (t : TT) : Prop :=
  ∀ (whole : Sem Value) (pins : List (Addr × Obj)) (s : Shared) (σ : St) (H : Hp) (Q : Bool → Hp → Prop), Inv X pins σ H s → t σ H Q → wpAny (model X.prog X.w) X.A (isTrue e X.env whole) (TP X pins σ Q) X.xe s
theorem PW.pt {X : Cx} {e : Expr} {t : TT} (h : PW X e t) : PT X e t := h _
noncomputable def PA (X : Cx) (es : List Expr) (t : TA) : Prop :=
  ∀ (pos : Pos) (pins : List (Addr × Obj)) (s : Shared) (σ : St) (H : Hp) (Q : List V → Hp → Prop), Inv X pins σ H s → t σ H Q → wpAny (model X.prog X.w) X.A (spliced (backTo pos (starEach es X.env))) (AP X pins σ Q) X.xe s
noncomputable def PS (X : Cx) (st : Stmt) (t : TS) : Prop :=
  ∀ (pins : List (Addr × Obj)) (s : Shared) (σ : St) (H : Hp) (D : Ends), Inv X pins σ H s → t D σ H → wpAny (model X.prog X.w) X.A (exec st X.env) (SP X pins D) X.xe s
noncomputable def PSs (X : Cx) (st : List Stmt) (t : TS) : Prop :=
  ∀ (pins : List (Addr × Obj)) (s : Shared) (σ : St) (H : Hp) (D : Ends), Inv X pins σ H s → t D σ H → wpAny (model X.prog X.w) X.A (execs st X.env) (SP X pins D) X.xe s
theorem thn {α : Type} {t : Sem α} {Q Q' : α → Shared → Prop} {M : Model} {A : Around} {E : Value → Shared → Prop} {s : Shared} (h : wpAny M A t Q E s) (hQ : ∀ a s, Q a s → Q' a s) : wpAny M A t Q' E s := wpAny_mono h hQ fun _ _ x => x
end L2
namespace L2
open PySem PySem.Spec PyProof.Rows
section
variable {X : Cx}
noncomputable def tVar (i : Nat) : TE := fun σ H Q => ∃ v, σ[i]? = some (some v) ∧ Q v H
noncomputable def tC (v : V) : TE := fun _ H Q => Q v H
theorem Zhf {i : Nat} {x : Str} {pos : Pos} (hN : X.N[i]? = some x) (hv : Vis X.env.scope x) (hd : (x == ("__debug__" : Str)) = false := by decide) (hcd : (x == ("__classdict__" : Str)) = false := by decide) : PE X (.Name x pos) (tVar i) := by
  intro pins s σ H Q I h
  obtain ⟨v, e, h⟩ := h
  obtain ⟨m, hn, hl⟩ := I.loc
  obtain ⟨u, r, l⟩ := hl i x v hN e hv
  have fin : EP X pins σ Q u s := ⟨v, H, I, r, h⟩
  rcases l with ⟨hk, hm⟩ | ⟨hk, c, hc, hcell⟩
  · exact wpAny_Name (wpAny_loadName_local I.ok.kind hk hn hm fin) hd
  · rcases hk with hk | hk
    · exact wpAny_Name (wpAny_loadName_cell I.ok.kind hk hc hcell fin) hd
    · exact wpAny_Name (wpAny_loadName_free I.ok.kind hk hc hcell fin hcd) hd
theorem Znu {i j pos} : PE X (.Constant (.int i) j pos) (tC (.int i)) := fun _ _ _ H _ I h => wpAny_Constant_int ⟨.int i, H, I.tok _, ⟨_, rfl⟩, h⟩
theorem Z0b {b j pos} : PE X (.Constant (.bool b) j pos) (tC (.bl b)) := fun _ _ _ H _ I h => Constant_bool ⟨.bl b, H, I, rfl, h⟩
theorem Zwf {j pos} : PE X (.Constant .none j pos) (tC .non) := fun _ _ _ H _ I h => Constant_none ⟨.non, H, I, rfl, h⟩
theorem Znv {x j pos} : PE X (.Constant (.str x) j pos) (tC (.str x)) := fun _ _ _ H _ I h => Calls.Constant_str ⟨.str x, H, I.tok _, ⟨_, rfl⟩, h⟩
noncomputable def Gl (X : Cx) (x : Str) : Prop := X.env.kindOf x = some .globalImplicit
theorem Zgh {E : Value → Shared → Prop} {pins : List (Addr × Obj)} {s : Shared} {σ : St} {H : Hp} {x : Str} {u : Value} {pos : Pos} {Q : Value → Shared → Prop} (I : Inv X pins σ H s) (hg : Gl X x) (hm : X.mg x = some u) (h : Q u s)
    (hd : (x == ("__debug__" : Str)) = false := by decide) : wpAny (model X.prog X.w) X.A (eval (.Name x pos) X.env) Q E s :=
  Calls.Name_function_global I.ok.kind hg (Calls.loadGlobal_global (by rw [I.ok.glob]; exact I.mod.glob.keeps I.bk) hm h) hd
theorem Zlw {E : Value → Shared → Prop} {pins : List (Addr × Obj)} {s : Shared} {σ : St} {H : Hp} {x : Str} {u : Value} {pos : Pos} {Q : Value → Shared → Prop} (I : Inv X pins σ H s) (hg : Gl X x) (hm : X.mg x = none) (hv : bootBuiltins x = some u) (h : Q u s)
    (hn : x ≠ "__name__" := by decide) (hd : (x == ("__debug__" : Str)) = false := by decide) : wpAny (model X.prog X.w) X.A (eval (.Name x pos) X.env) Q E s := by
  obtain ⟨mb, h1, h2⟩ := I.mod.blt
  exact Calls.Name_function_global I.ok.kind hg (Calls.loadGlobal_builtin (by rw [I.ok.glob]; exact I.mod.glob.keeps I.bk) hm (by rw [I.ok.blt]; exact h1.keeps I.bk) ((h2 x hn).trans hv) h) hd
theorem Znw {x : Str} {v : V} {u : Value} {pos : Pos} (hg : Gl X x) (hm : X.mg x = some u) (r : RelV v u) (hd : (x == ("__debug__" : Str)) = false := by decide) : PE X (.Name x pos) (tC v) :=
  fun _ _ _ H _ I h => Zgh I hg hm ⟨v, H, I, r, h⟩ hd
theorem Ztq {x : Str} {v : V} {u : Value} {pos : Pos} (hg : Gl X x) (hm : X.mg x = none) (hv : bootBuiltins x = some u) (r : RelV v u) (hn : x ≠ "__name__" := by decide) (hd : (x == ("__debug__" : Str)) = false := by decide) : PE X (.Name x pos) (tC v) :=
  fun _ _ _ H _ I h => Zlw I hg hm hv ⟨v, H, I, r, h⟩ hn hd
variable {a b : Expr} {ta tb : TE} {pos : Pos}
noncomputable def tB (t : TE) : TT := fun σ H Q => t σ H fun x H1 => ∃ c, x = .bl c ∧ Q c H1
theorem Zwg {e : Expr} {t : TE} (h : PE X e t) (he : ∀ whole, isTrue e X.env whole = (do let v ← whole; standAt e.pos; holding [v] (truthy v)) := by intro _; rfl) : PT X e (tB t) := by
  intro pins s σ H Q I hw
  refine isTrue_plain (thn (h pins s σ H _ I hw) fun v s1 ⟨x, H1, I1, r1, q1⟩ => ?_) (he _)
  obtain ⟨d, rfl, q⟩ := q1
  cases r1
  exact wpAny_truthy_bool ⟨H1, I1, q⟩
variable {tA tB' : TT} {rest : List Expr}
noncomputable def tAnd (t u : TT) : TT := fun σ H Q => t σ H fun c H1 => if c = true then u σ H1 Q else Q false H1
noncomputable def tOr (t u : TT) : TT := fun σ H Q => t σ H fun c H1 => if c = true then Q true H1 else u σ H1 Q
noncomputable def tNot (t : TT) : TT := fun σ H Q => t σ H fun c H1 => Q (!c) H1
theorem Ztr (ha : PT X a tA) : PW X (.BoolOp .And [a] pos) tA := by
  intro wh pins s σ H Q I h
  refine isTrue_and (thn (ha pins s σ H Q I h) fun c s1 e => ?_)
  cases c with
  | true => exact isTrue_and_nil e
  | false => exact e
theorem Zwh (ha : PT X a tA) : PW X (.BoolOp .Or [a] pos) tA := by
  intro wh pins s σ H Q I h
  refine isTrue_or (thn (ha pins s σ H Q I h) fun c s1 e => ?_)
  cases c with
  | false => exact isTrue_or_nil e
  | true => exact e
theorem Zwi (ha : PT X a tA) (hb : PW X (.BoolOp .And (b :: rest) pos) tB') : PW X (.BoolOp .And (a :: b :: rest) pos) (tAnd tA tB') := by
  intro wh pins s σ H Q I h
  refine isTrue_and (thn (ha pins s σ H _ I h) fun c s1 ⟨H1, I1, q1⟩ => ?_)
  cases c with
  | true => exact hb wh pins s1 σ H1 Q I1 q1
  | false => exact ⟨H1, I1, q1⟩
theorem Z0c (ha : PT X a tA) (hb : PW X (.BoolOp .Or (b :: rest) pos) tB') : PW X (.BoolOp .Or (a :: b :: rest) pos) (tOr tA tB') := by
  intro wh pins s σ H Q I h
  refine isTrue_or (thn (ha pins s σ H _ I h) fun c s1 ⟨H1, I1, q1⟩ => ?_)
  cases c with
  | true => exact ⟨H1, I1, q1⟩
  | false => exact hb wh pins s1 σ H1 Q I1 q1
theorem Zwj (ha : PT X a tA) : PT X (.UnaryOp .Not a pos) (tNot tA) := by
  intro pins s σ H Q I h
  exact isTrue_not (ha pins s σ H (fun c H1 => Q (!c) H1) I h)
noncomputable def Zwk (ta tb : TE) : TE := fun σ H Q => ta σ H fun x H1 => ∃ c, x = .bl c ∧ if c = true then tb σ H1 Q else Q (.bl false) H1
theorem Zwl {op} {t : TE} (h : PE X a t) : PE X (.BoolOp op [a] pos) t := fun pins s σ H Q I hw => BoolOp_one (h pins s σ H Q I hw)
theorem Zwm (ha : PE X a ta) (hb : PE X (.BoolOp .And (b :: rest) pos) tb) : PE X (.BoolOp .And (a :: b :: rest) pos) (Zwk ta tb) := by
  intro pins s σ H Q I h
  refine BoolOp_and (thn (ha pins s σ H _ I h) fun v s1 ⟨x, H1, I1, r1, q1⟩ => ?_)
  obtain ⟨c, rfl, q1⟩ := q1
  cases r1
  refine wpAny_truthy_bool ?_
  cases c with
  | true => exact hb pins s1 σ H1 Q I1 q1
  | false => exact ⟨.bl false, H1, I1, rfl, q1⟩
noncomputable def tIf (t : TT) (ta tb : TE) : TE := fun σ H Q => t σ H fun c H1 => if c = true then ta σ H1 Q else tb σ H1 Q
theorem Zqm {c : Expr} (hc : PT X c tA) (ha : PE X a ta) (hb : PE X b tb) : PE X (.IfExp c a b pos) (tIf tA ta tb) := by
  intro pins s σ H Q I h
  refine wpAny_IfExp (thn (hc pins s σ H _ I h) fun d s1 ⟨H1, I1, q1⟩ => ?_)
  cases d with
  | true => exact ha pins s1 σ H1 Q I1 q1
  | false => exact hb pins s1 σ H1 Q I1 q1
end
end L2
namespace L2
open PySem PySem.Spec PyProof.Rows
noncomputable def SqL (K : PySem.W.Frag) (H : Hp) (a : Addr) (xs : List V) : Prop :=
  Rd H a (.lst xs) ∨
    ∃ (o : Obj) (its : Array Value) (n : Nat), K.lookup a = some o ∧ o.cls = .type "list" ∧ o.dict = none ∧ o.data = .seq its n ∧ its.size ≤ sizeLine ∧ Vals xs its.toList
noncomputable def SqT (K : PySem.W.Frag) (H : Hp) (a : Addr) (xs : List V) : Prop :=
  Rd H a (.tup xs) ∨
    ∃ (o : Obj) (its : Array Value) (n : Nat), K.lookup a = some o ∧ o.cls = .type "tuple" ∧ o.data = .seq its n ∧ its.size ≤ sizeLine ∧ Vals xs its.toList
noncomputable def absV : Value → Option V
  | .none => some .non
  | .bool b => some (.bl b)
  | .int i _ => some (.int i)
  | .str x _ => some (.str x)
  | .bytes b _ => some (.byt b)
  | .float b _ => some (.flt b)
  | .ref a => some (.ref a)
  | .type n => some (.ty n)
  | _ => none
theorem RelV.abs {x : V} {u : Value} (r : RelV x u) : absV u = some x := by
  cases x with
  | non => cases r; rfl
  | bl _ => cases r; rfl
  | int _ => obtain ⟨t, rfl⟩ := r; rfl
  | str _ => obtain ⟨t, rfl⟩ := r; rfl
  | byt _ => obtain ⟨t, rfl⟩ := r; rfl
  | flt _ => obtain ⟨t, rfl⟩ := r; rfl
  | ref _ => cases r; rfl
  | ty _ => cases r; rfl
theorem RelV.inj {x y : V} {u : Value} (r : RelV x u) (q : RelV y u) : x = y := Option.some.inj (r.abs.symm.trans q.abs)
theorem Vals.inj : ∀ {xs ys : List V} {us : List Value}, Vals xs us → Vals ys us → xs = ys
  | _, _, _, .nil, .nil => rfl
  | _, _, _, .cons r t, .cons r' t' => by rw [r.inj r', Vals.inj t t']
section
variable {X : Cx} {pins : List (Addr × Obj)} {σ : St} {H : Hp} {s : Shared} {a : Addr} {xs ys : List V}
theorem Inv.list (I : Inv X pins σ H s) (h : SqL X.K H a xs) : ∃ its : List Value, Vals xs its ∧ PlainL s.heap a its.toArray ∧ xs.length ≤ sizeLine := by
  rcases h with h | ⟨o, its, n, hk, hc, hd, hs, hz, r⟩
  · obtain ⟨z, its, n, r, e⟩ := h.ok I.hok
    exact ⟨its, r, ⟨_, n, e, rfl, rfl, rfl⟩, z⟩
  · refine ⟨its.toList, r, ⟨o, n, I.kIn a o hk, hc, hd, by simpa using hs⟩, ?_⟩
    have e := r.length
    simp only [Array.length_toList] at e
    omega
theorem Inv.tuple (I : Inv X pins σ H s) (h : SqT X.K H a xs) : ∃ its : List Value, Vals xs its ∧ IsTup s.heap a its.toArray ∧ xs.length ≤ sizeLine := by
  rcases h with h | ⟨o, its, n, hk, hc, hs, hz, r⟩
  · obtain ⟨z, its, r, p⟩ := h.ok I.hok
    exact ⟨its, r, p, z⟩
  · refine ⟨its.toList, r, ⟨o, I.kIn a o hk, hc, n, by simpa using hs⟩, ?_⟩
    have e := r.length
    simp only [Array.length_toList] at e
    omega
theorem Inv.list_inj (I : Inv X pins σ H s) (h : SqL X.K H a xs) (h' : SqL X.K H a ys) : xs = ys := by
  obtain ⟨its, r, ⟨o, n, e, _, _, d⟩, _⟩ := I.list h
  obtain ⟨its', r', ⟨o', n', e', _, _, d'⟩, _⟩ := I.list h'
  rw [e] at e'; cases e'
  rw [d] at d'
  injection d' with d1 _
  have : its = its' := by simpa using congrArg Array.toList d1
  subst this
  exact r.inj r'
theorem Inv.tuple_inj (I : Inv X pins σ H s) (h : SqT X.K H a xs) (h' : SqT X.K H a ys) : xs = ys := by
  obtain ⟨its, r, ⟨o, e, _, n, d⟩, _⟩ := I.tuple h
  obtain ⟨its', r', ⟨o', e', _, n', d'⟩, _⟩ := I.tuple h'
  rw [e] at e'; cases e'
  rw [d] at d'
  injection d' with d1 _
  have : its = its' := by simpa using congrArg Array.toList d1
  subst this
  exact r.inj r'
end
noncomputable abbrev Cx.wish (X : Cx) (E : Value → Shared → Prop) : Cx := { X with xe := E }
noncomputable abbrev Cx.nox (X : Cx) : Cx := X.wish fun _ _ => False
theorem Cx.Ok.wish {X : Cx} (ok : X.Ok) (E : Value → Shared → Prop) : (X.wish E).Ok :=
  ⟨ok.mod, ok.kind, ok.glob, ok.blt, ok.above, ok.inj, ok.has, ok.cab, ok.hd, ok.frames, ok.stk, ok.exf, ok.bs, ok.bsz, ok.noex, ok.exfs, ok.funs, ok.frf⟩
theorem Cx.Ok.unwish {X : Cx} {E : Value → Shared → Prop} (ok : (X.wish E).Ok) : X.Ok :=
  ⟨ok.mod, ok.kind, ok.glob, ok.blt, ok.above, ok.inj, ok.has, ok.cab, ok.hd, ok.frames, ok.stk, ok.exf, ok.bs, ok.bsz, ok.noex, ok.exfs, ok.funs, ok.frf⟩
section
variable {X : Cx} {pins : List (Addr × Obj)} {σ : St} {H : Hp} {s : Shared} {E : Value → Shared → Prop}
theorem Inv.wish (I : Inv X pins σ H s) (E : Value → Shared → Prop) : Inv (X.wish E) pins σ H s := ⟨I.ok.wish E, I.os, I.bare, I.base, I.loc, I.cell, I.free, I.freeC, I.pin, I.hok, I.len⟩
theorem Inv.unwish (I : Inv (X.wish E) pins σ H s) : Inv X pins σ H s := ⟨I.ok.unwish, I.os, I.bare, I.base, I.loc, I.cell, I.free, I.freeC, I.pin, I.hok, I.len⟩
theorem SP.unwish {D : Ends} {f : Flow} {s' : Shared} (h : SP (X.wish E) pins D f s') : SP X pins D f s' := by
  cases f with
  | next => obtain ⟨σ', H', I, q⟩ := h; exact ⟨σ', H', I.unwish, q⟩
  | brk => obtain ⟨σ', H', I, q⟩ := h; exact ⟨σ', H', I.unwish, q⟩
  | cont => obtain ⟨σ', H', I, q⟩ := h; exact ⟨σ', H', I.unwish, q⟩
  | ret u => obtain ⟨v, σ', H', I, r, q⟩ := h; exact ⟨v, σ', H', I.unwish, r, q⟩
theorem PSs.nox {st : List Stmt} {t : TS} (h : PSs X.nox st t) : PSs X st t := fun pins s σ H D I hw =>
  wpAny_mono (h pins s σ H D (I.wish _) hw) (fun _ _ q => q.unwish) fun _ _ z => False.elim z
end
section
variable {X : Cx} {st : Stmt} {rest : List Stmt} {t u : TS} {e : Expr} {te : TE} {pos : Pos}
noncomputable def Zwn : TS := fun D σ H => D.nx σ H
noncomputable def tSeq (t u : TS) : TS := fun D σ H => t { D with nx := u D } σ H
theorem Zts : PSs X [] Zwn := fun _ _ σ H _ I h => wpAny_execs_nil ⟨σ, H, I, h⟩
theorem Zqn (h1 : PS X st t) (h2 : PSs X rest u) : PSs X (st :: rest) (tSeq t u) := by
  intro pins s σ H D I h
  refine wpAny_execs_cons (thn (h1 pins s σ H { D with nx := u D } I h) fun f s1 q => ?_)
  cases f with
  | next =>
    obtain ⟨σ', H', I', q⟩ := q
    exact h2 pins s1 σ' H' D I' q
  | ret v => exact q
  | brk => exact q
  | cont => exact q
theorem Ztt (h1 : PS X st t) : PSs X [st] t := by
  intro pins s σ H D I h
  refine wpAny_execs_cons (thn (h1 pins s σ H D I h) fun f s1 q => ?_)
  cases f with
  | next => exact wpAny_execs_nil q
  | ret v => exact q
  | brk => exact q
  | cont => exact q
theorem Inv.quiet {pins : List (Addr × Obj)} {σ : St} {H : Hp} {s : Shared} (I : Inv X pins σ H s) : interactive X.env = false := by simp [interactive, I.ok.kind]
noncomputable def Zqo (te : TE) : TS := fun D σ H => te σ H fun _ H1 => D.nx σ H1
theorem Zks (he : PE X e te) (hs : swapsWith e none pos.line X.env = pure false := by rfl) : PS X (.Expr e pos) (Zqo te) := by
  intro pins s σ H D I h
  exact wpAny_Expr_any (thn (he pins s σ H _ I h) fun v s1 ⟨x, H1, I1, r1, q1⟩ => ⟨σ, H1, I1, q1⟩) I.quiet hs
noncomputable def tRet (te : TE) : TS := fun D σ H => te σ H D.rt
theorem Zsm (he : PE X e te) : PS X (.Return (some e) pos) (tRet te) := by
  intro pins s σ H D I h
  exact wpAny_Return_some (thn (he pins s σ H _ I h) fun v s1 ⟨x, H1, I1, r1, q1⟩ => ⟨x, σ, H1, I1, r1, q1⟩)
noncomputable def tIfS (c : TT) (t u : TS) : TS := fun D σ H => c σ H fun b H1 => if b = true then t D σ H1 else u D σ H1
theorem Z0d {c : Expr} {a b : List Stmt} {tc : TT} (hc : PT X c tc) (ha : PSs X a t) (hb : PSs X b u) : PS X (.If c a b pos) (tIfS tc t u) := by
  intro pins s σ H D I h
  refine wpAny_If (thn (hc pins s σ H _ I h) fun d s1 ⟨H1, I1, q1⟩ => ?_)
  cases d with
  | true => exact ha pins s1 σ H1 D I1 q1
  | false => exact hb pins s1 σ H1 D I1 q1
end
noncomputable abbrev TG := V → St → Hp → (St → Hp → Prop) → Prop
noncomputable abbrev TGs := List V → St → Hp → (St → Hp → Prop) → Prop
noncomputable def PG (X : Cx) (target : Expr) (t : TG) : Prop :=
  ∀ (pins : List (Addr × Obj)) (s : Shared) (σ : St) (H : Hp) (v : V) (u : Value) (Q : St → Hp → Prop), Inv X pins σ H s → RelV v u → t v σ H Q →
    wpAny (model X.prog X.w) X.A (assign target X.env u) (fun _ s' => ∃ σ' H', Inv X pins σ' H' s' ∧ Q σ' H') X.xe s
noncomputable def PGs (X : Cx) (ts : List Expr) (t : TGs) : Prop :=
  ∀ (pins : List (Addr × Obj)) (s : Shared) (σ : St) (H : Hp) (vs : List V) (us : List Value) (Q : St → Hp → Prop), Inv X pins σ H s → Vals vs us → t vs σ H Q →
    wpAny (model X.prog X.w) X.A (assignInOrder ((assignEach ts X.env).map (·.2)) us) (fun _ s' => ∃ σ' H', Inv X pins σ' H' s' ∧ Q σ' H') X.xe s
section
variable {X : Cx} {pos : Pos}
noncomputable def Zi6 (i : Nat) : TG := fun v σ H Q => Q (σ.set i (some v)) H
theorem Ztu {i : Nat} {x : Str} (hN : X.N.Nodup) (hi : X.N[i]? = some x) (hx : Loc X.env.scope x) (hf : X.fn x = true ∨ X.env.scope.names.lookup x = some .local := by first | exact .inl rfl | exact .inr rfl | assumption) : PG X (.Name x pos) (Zi6 i) := by
  intro pins s σ H v u Q I r h
  exact wpAny_assign_Name (Zh0 I hN hi hx r (fun s' I' => ⟨_, H, I', h⟩) hf)
noncomputable def gNil : TGs := fun vs σ H Q => vs = [] ∧ Q σ H
noncomputable def Zwo (t : TG) (u : TGs) : TGs := fun vs σ H Q => ∃ v r, vs = v :: r ∧ t v σ H fun σ' H' => u r σ' H' Q
theorem Ztv : PGs X [] gNil := by
  intro pins s σ H vs us Q I r h
  obtain ⟨e, h⟩ := h
  subst e
  cases r
  exact assignInOrder_nil ⟨σ, H, I, h⟩
theorem Zqp {e : Expr} {es : List Expr} {t : TG} {u : TGs} (h1 : PG X e t) (h2 : PGs X es u)
    (hs : (assignEach (e :: es) X.env).map (·.2) = assign e X.env :: (assignEach es X.env).map (·.2) := by rfl) : PGs X (e :: es) (Zwo t u) := by
  intro pins s σ H vs us Q I r h
  obtain ⟨v, vr, e1, h⟩ := h
  subst e1
  cases r with
  | cons r rr =>
    rw [hs]
    refine assignInOrder_cons (thn (h1 pins s σ H _ _ _ I r h) fun _ s1 ⟨σ1, H1, I1, q1⟩ => ?_)
    exact h2 pins s1 σ1 H1 _ _ Q I1 rr q1
noncomputable def gTup (K : PySem.W.Frag) (n : Nat) (t : TGs) : TG := fun v σ H Q => ∃ a xs, v = .ref a ∧ SqT K H a xs ∧ xs.length = n ∧ t xs σ H Q
theorem Zwp {es : List Expr} {k : Nat} {t : TGs} {n : Nat} (hc : X.calm = true) (h : PGs X es t)
    (hn : (assignEach es X.env).length = n := by rfl) (hst : (assignEach es X.env).findIdx? (·.1) = none := by rfl) : PG X (.Tuple es k pos) (gTup X.K n t) := by
  intro pins s σ H v u Q I r hw
  obtain ⟨a, xs, e1, hq, hl, hw⟩ := hw
  subst e1
  cases r
  obtain ⟨its, rv, ht, hz⟩ := I.tuple hq
  refine assign_Tuple_tuple (I.ok.hd hc) ht (by simp [hn, ← hl, rv.length]) hst fun h' hx => ?_
  have I1 : Inv X pins σ H { s with heap := h' } := I.kept (t' := s.toks) fun b o e => hx b o (Nat.ne_of_lt (Heap.lt_size e)) e
  exact h pins _ σ H xs _ Q I1 (by simpa using rv) hw
noncomputable def tAsg (te : TE) (g : TG) : TS := fun D σ H => te σ H fun x H1 => g x σ H1 D.nx
theorem Zwq {tg e : Expr} {te : TE} {g : TG} (he : PE X e te) (hg : PG X tg g) (hs : swapsWithSole [tg] e pos.line X.env = pure false := by rfl) (hw : swappedStores [tg] e X.env = pure none := by rfl)
    (h1 : (assignEach [tg] X.env).map (·.2) = [assign tg X.env] := by rfl) : PS X (.Assign [tg] e pos) (tAsg te g) := by
  intro pins s σ H D I h
  refine wpAny_Assign_stores (thn (he pins s σ H _ I h) fun v s1 ⟨x, H1, I1, r1, q1⟩ => ?_) hs hw
  rw [h1]
  exact thn (hg pins s1 σ H1 x v _ I1 r1 q1) fun _ s2 q => q
theorem Znx {i : Nat} {x : Str} {e : Expr} {te : TE} {pos' : Pos} (hN : X.N.Nodup) (hi : X.N[i]? = some x) (hx : Loc X.env.scope x) (he : PE X e te) (hs : swapsWith e (some (.Name x pos')) pos.line X.env = pure false := by rfl) (hf : X.fn x = true ∨ X.env.scope.names.lookup x = some .local := by first | exact .inl rfl | exact .inr rfl | assumption) :
    PS X (.Assign [.Name x pos'] e pos) (tAsg te (Zi6 i)) := by
  intro pins s σ H D I h
  refine wpAny_Assign_Name (thn (he pins s σ H _ I h) fun v s1 ⟨y, H1, I1, r1, q1⟩ => ?_) hs
  exact Zh0 I1 hN hi hx r1 (fun s2 I2 => ⟨_, H1, I2, q1⟩) hf
end
section
variable {X : Cx} {pos : Pos}
noncomputable def Zsn (c : TT) (tb : TS) : TS := fun D σ H => ∃ W : Nat → St → Hp → Prop, (∃ m, W m σ H) ∧ ∀ m σ H, W m σ H →
  c σ H fun b H1 => if b = true then ∃ N : St → Hp → Prop, (∀ σ' H', N σ' H' → ∃ m', m' < m ∧ W m' σ' H') ∧ tb { D with nx := N, ct := N, bk := D.nx } σ H1 else D.nx σ H1
theorem Zqq {c : Expr} {body : List Stmt} {tc : TT} {tb : TS} (hp : PassesOwn (model X.prog X.w) X.A X.env X.xe) (hc : PT X c tc) (hb : PSs X body tb) : PS X (.While c body [] pos) (Zsn tc tb) := by
  intro pins s σ H D I h
  obtain ⟨W, ⟨m0, w0⟩, turn⟩ := h
  refine wpAny_While (codeAny_whileLoop (fun n s' => ∃ σ' H', Inv X pins σ' H' s' ∧ W n σ' H') ?_ m0 ⟨σ, H, I, w0⟩)
  rintro n s1 ⟨σ1, H1, I1, w1⟩
  refine wpAny_passesOwn hp (thn (hc pins s1 σ1 H1 _ I1 (turn n σ1 H1 w1)) fun b s2 ⟨H2, I2, q2⟩ => ?_)
  cases b with
  | true =>
    obtain ⟨N, hN, q2⟩ := q2
    rw [if_pos rfl]
    refine wpAny_passesOwn hp (thn (hb pins s2 σ1 H2 _ I2 q2) fun f s3 q3 => ?_)
    cases f with
    | next =>
      obtain ⟨σ3, H3, I3, n3⟩ := q3
      obtain ⟨m', hm, w3⟩ := hN σ3 H3 n3
      exact ⟨m', hm, σ3, H3, I3, w3⟩
    | cont =>
      obtain ⟨σ3, H3, I3, n3⟩ := q3
      obtain ⟨m', hm, w3⟩ := hN σ3 H3 n3
      exact ⟨m', hm, σ3, H3, I3, w3⟩
    | brk => exact q3
    | ret v => exact q3
  | false =>
    rw [if_neg Bool.false_ne_true]
    exact wpAny_execs_nil ⟨σ1, H2, I2, q2⟩
end
structure It where
  go : Nat → Hp → Prop
  yld : Nat → Hp → V → Hp → Prop
  stop : Nat → Hp → Prop
noncomputable def FpOk (X : Cx) (pins : List (Addr × Obj)) (H : Hp) (b : Addr) : Prop :=
  H b = none ∧ b ≠ X.env.locals ∧ b ∉ X.fs ∧ (b ∈ X.ex ∨ X.s₀.heap.objs.size ≤ b) ∧ (∀ x c, X.env.cells.lookup x = some c → c ≠ b) ∧ ∀ p ∈ X.pn ++ pins, p.1 ≠ b
theorem Inv.fpOk {X : Cx} {pins : List (Addr × Obj)} {σ : St} {H H' : Hp} {s : Shared} {b : Addr} (I : Inv X pins σ H s) (hb : s.heap.objs.size ≤ b) (hn : H' b = none) : FpOk X pins H' b := by
  refine ⟨hn, Nat.ne_of_gt (Nat.lt_of_lt_of_le I.lt hb), I.nofs hb, .inr (Nat.le_trans I.sz hb), fun x c e z => ?_, fun p hp z => ?_⟩
  · obtain ⟨v, q⟩ := I.cell x c e
    exact absurd (Nat.lt_of_lt_of_le q.lt (by rw [z]; exact hb)) (Nat.lt_irrefl _)
  · exact absurd (Nat.lt_of_lt_of_le (Heap.lt_size (I.pin p hp).1) (by rw [z]; exact hb)) (Nat.lt_irrefl _)
structure Turn (P : Program) (w : World) (K : PySem.W.Frag) (tg : Expr) (J : It) (fp : List Addr) (it : Addr) (tn : Nat → Heap → Prop) : Prop where
  mem : it ∈ fp
  obj : ∀ i h, tn i h → ∀ b ∈ fp, ∃ o, h.get? b = some o ∧ ∀ v, o.data ≠ .cell v
  keep : ∀ i h h', tn i h → (∀ b ∈ fp, ∀ o, h.get? b = some o → h'.get? b = some o) → tn i h'
  item : ∀ (X : Cx), X.prog = P → X.w = w → X.K = K → X.calm = true → ∀ (i : Nat) (pins : List (Addr × Obj)) (s : Shared) (σ : St) (H : Hp) (E : Value → Shared → Prop), Inv X pins σ H s → (∀ b ∈ fp, FpOk X pins H b) → tn i s.heap → J.go i H →
    wpAny (model P w) X.A (pyNext (.ref it)) (fun r s1 => ∃ u, r = some u ∧
      wpAny (model P w) X.A (letOwnedTupleGo tg (.ref it) u) (fun _ s2 => ∃ x H', Inv X pins σ H' s2 ∧ RelV x u ∧ J.yld i H x H' ∧ tn (i + 1) s2.heap ∧ ∀ b ∈ fp, H' b = none) E s1) E s
  done : ∀ (X : Cx), X.prog = P → X.w = w → X.K = K → X.calm = true → ∀ (i : Nat) (pins : List (Addr × Obj)) (s : Shared) (σ : St) (H : Hp) (E : Value → Shared → Prop), Inv X pins σ H s → (∀ b ∈ fp, FpOk X pins H b) → tn i s.heap → J.stop i H →
    wpAny (model P w) X.A (pyNext (.ref it)) (fun r s1 => r = none ∧ Inv X pins σ H s1) E s
  self : ∀ (A : Around) (i : Nat) (s : Shared) (Q : Value → Shared → Prop) (E : Value → Shared → Prop), tn i s.heap → Q (.ref it) s → wpAny (model P w) A (pyIter (.ref it)) Q E s
noncomputable abbrev TI := St → Hp → (It → Hp → Prop) → Prop
noncomputable def PIE (X : Cx) (pins : List (Addr × Obj)) (σ : St) (tg : Expr) (R : It → Hp → Prop) (itv : Value) (s2 : Shared) : Prop :=
  ∃ (it : Addr) (fp : List Addr) (tn : Nat → Heap → Prop) (J : It) (H' : Hp), itv = .ref it ∧ Inv X pins σ H' s2 ∧ Turn X.prog X.w X.K tg J fp it tn ∧ tn 0 s2.heap ∧ (∀ b ∈ fp, FpOk X pins H' b) ∧ R J H'
noncomputable def PI (X : Cx) (tg iter : Expr) (wi : TI) : Prop :=
  ∀ (pins : List (Addr × Obj)) (s : Shared) (σ : St) (H : Hp) (R : It → Hp → Prop), Inv X pins σ H s → wi σ H R →
    wpAny (model X.prog X.w) X.A (eval iter X.env) (fun v s1 => wpAny (model X.prog X.w) X.A (pyIter v) (PIE X pins σ tg R) X.xe s1) X.xe s
theorem Zqr {M : Model} {A : Around} {E : Value → Shared → Prop} {s : Shared} {tg : Expr} {it : Addr} {u : Value} {o : Obj} {n : String} {vs : Array Value} {Q : Unit → Shared → Prop} (ho : s.heap.get? it = some o) (hc : o.cls = .type n) (hd : o.data = .fields vs)
    (hn : ["enumerate", "zip", "dict_itemiterator", "dict_reverseitemiterator", "odict_iterator", "itertools.zip_longest", "itertools.pairwise"].contains n = false) (hQ : Q () s) : wpAny M A (letOwnedTupleGo tg (.ref it) u) Q E s := by
  unfold letOwnedTupleGo
  cases tg <;> first
    | exact wpAny_pure hQ
    | (cases u <;> first
        | exact wpAny_pure hQ
        | (refine wpAny_bind (wpAny_load ho ?_)
           rw [hc, hd]
           show wpAny M A (if (["enumerate", "zip", "dict_itemiterator", "dict_reverseitemiterator", "odict_iterator", "itertools.zip_longest", "itertools.pairwise"].contains n && vs[0]? == some (rawInt _)) = true then _ else _) Q E s
           rw [if_neg (by intro h; rw [hn, Bool.false_and] at h; cases h)]
           exact wpAny_pure hQ))
noncomputable def Itl (K : PySem.W.Frag) (a : Addr) : It :=
  ⟨fun i H => ∃ xs x, SqL K H a xs ∧ xs[i]? = some x, fun i H x H' => H' = H ∧ ∀ xs, SqL K H a xs → xs[i]? = some x, fun i H => ∃ xs, SqL K H a xs ∧ xs.length ≤ i⟩
noncomputable def Itt (K : PySem.W.Frag) (a : Addr) : It :=
  ⟨fun i H => ∃ xs x, SqT K H a xs ∧ xs[i]? = some x, fun i H x H' => H' = H ∧ ∀ xs, SqT K H a xs → xs[i]? = some x, fun i H => ∃ xs, SqT K H a xs ∧ xs.length ≤ i⟩
noncomputable def Itr (lo : Int) (n : Nat) : It := ⟨fun i _ => i < n, fun i H x H' => H' = H ∧ x = .int (lo + i), fun i _ => n ≤ i⟩
theorem Zny {P : Program} {w : World} {K : PySem.W.Frag} {tg : Expr} (a it : Addr) : Turn P w K tg (Itl K a) [it] it (fun i h => h.IsListIter it a i) where
  mem := by simp
  obj := fun i h st b hb => by
    have e : b = it := by simpa using hb
    subst e
    obtain ⟨o, e, c, d⟩ := st
    exact ⟨o, e, fun v z => by rw [d] at z; cases z⟩
  keep := fun i h h' st k => st.at fun o e => k it (by simp) o e
  item := by
    intro X hP hw hK hc i pins s σ H E I hf st hg
    subst hP hw hK
    obtain ⟨xs, x, hq, hx⟩ := hg
    obtain ⟨its, rv, p, hz⟩ := I.list hq
    obtain ⟨u, hu, ru⟩ := rv.get hx
    obtain ⟨f0, f1, f2, f3, f4, f5⟩ := hf it (by simp)
    refine wpAny_pyNext_list_item st p.isList (x := u) (by simpa using hu) fun h' st' sb => ?_
    have I1 : Inv X pins σ H { s with heap := h' } := I.turned (t' := s.toks) (fun b o hb e => (sb.2 b hb).trans e) f0 f1 f3 f4 f5
    obtain ⟨o, e, c, d⟩ := id st'
    exact ⟨u, rfl, Zqr (s := { s with heap := h' }) e c d (by decide) ⟨x, H, I1, ru, ⟨rfl, fun ys hy => by rw [I.list_inj hy hq]; exact hx⟩, st', fun b hb => (hf b hb).1⟩⟩
  done := by
    intro X hP hw hK hc i pins s σ H E I hf st hg
    subst hP hw hK
    obtain ⟨xs, hq, hx⟩ := hg
    obtain ⟨its, rv, p, hz⟩ := I.list hq
    obtain ⟨f0, f1, f2, f3, f4, f5⟩ := hf it (by simp)
    have hl := rv.length
    exact wpAny_pyNext_list_end (I.ok.hd hc) st p.isList (by simp; omega) fun h' eb => ⟨rfl, I.turned (t' := s.toks) (fun b o hb e => eb b o hb e) f0 f1 f3 f4 f5⟩
  self := fun _ _ _ _ _ st h => wpAny_pyIter_listiter st h
theorem Zm0 {P : Program} {w : World} {K : PySem.W.Frag} {tg : Expr} (a it : Addr) : Turn P w K tg (Itt K a) [it] it (fun i h => h.IsTupleIter it a i) where
  mem := by simp
  obj := fun i h st b hb => by
    have e : b = it := by simpa using hb
    subst e
    obtain ⟨o, e, c, d⟩ := st
    exact ⟨o, e, fun v z => by rw [d] at z; cases z⟩
  keep := fun i h h' st k => st.at fun o e => k it (by simp) o e
  item := by
    intro X hP hw hK hc i pins s σ H E I hf st hg
    subst hP hw hK
    obtain ⟨xs, x, hq, hx⟩ := hg
    obtain ⟨its, rv, p, hz⟩ := I.tuple hq
    obtain ⟨u, hu, ru⟩ := rv.get hx
    obtain ⟨f0, f1, f2, f3, f4, f5⟩ := hf it (by simp)
    refine wpAny_pyNext_tuple_item st (show s.heap.IsTuple a its.toArray from p) (x := u) (by simpa using hu) fun h' st' sb => ?_
    have I1 : Inv X pins σ H { s with heap := h' } := I.turned (t' := s.toks) (fun b o hb e => (sb.2 b hb).trans e) f0 f1 f3 f4 f5
    obtain ⟨o, e, c, d⟩ := id st'
    exact ⟨u, rfl, Zqr (s := { s with heap := h' }) e c d (by decide) ⟨x, H, I1, ru, ⟨rfl, fun ys hy => by rw [I.tuple_inj hy hq]; exact hx⟩, st', fun b hb => (hf b hb).1⟩⟩
  done := by
    intro X hP hw hK hc i pins s σ H E I hf st hg
    subst hP hw hK
    obtain ⟨xs, hq, hx⟩ := hg
    obtain ⟨its, rv, p, hz⟩ := I.tuple hq
    obtain ⟨f0, f1, f2, f3, f4, f5⟩ := hf it (by simp)
    have hl := rv.length
    exact wpAny_pyNext_tuple_end (I.ok.hd hc) st (show s.heap.IsTuple a its.toArray from p) (by simp; omega) fun h' eb => ⟨rfl, I.turned (t' := s.toks) (fun b o hb e => eb b o hb e) f0 f1 f3 f4 f5⟩
  self := fun _ _ _ _ _ st h => wpAny_pyIter_tupleiter st h
theorem Zm1 {P : Program} {w : World} {K : PySem.W.Frag} {tg : Expr} (it : Addr) (lo : Int) (n : Nat) : Turn P w K tg (Itr lo n) [it] it (fun i h => IsRangeIter h it (lo + (i : Nat) * 1) ((n : Int) - (i : Nat)) 1) where
  mem := by simp
  obj := fun i h st b hb => by
    have e : b = it := by simpa using hb
    subst e
    exact ⟨_, st, fun v z => by
      have z' : Data.fields _ = Data.cell v := z
      cases z'⟩
  keep := fun i h h' st k => k it (by simp) _ st
  item := by
    intro X hP hw hK hc i pins s σ H E I hf st hg
    subst hP hw hK
    obtain ⟨f0, f1, f2, f3, f4, f5⟩ := hf it (by simp)
    have W := Walks.range (prog := X.prog) (w := X.w) (I.ok.hd hc) it lo 1 n
    refine W.item i s _ _ hg st fun v h' tk hv st' kk => ?_
    obtain ⟨t, rfl⟩ := hv
    have I1 : Inv X pins σ H { s with heap := h', toks := tk } := I.turned (fun b o hb e => kk b o (by simpa using hb) e) f0 f1 f3 f4 f5
    refine ⟨_, rfl, Zqr (s := { s with heap := h', toks := tk }) (n := "range_iterator") st' rfl rfl (by decide) ⟨.int (lo + i), H, I1, ⟨t, ?_⟩, ⟨rfl, rfl⟩, st', fun b hb => (hf b hb).1⟩⟩
    rw [Int.mul_one]
  done := by
    intro X hP hw hK hc i pins s σ H E I hf st hg
    subst hP hw hK
    obtain ⟨f0, f1, f2, f3, f4, f5⟩ := hf it (by simp)
    exact wpAny_pyNext_range_end (I.ok.hd hc) st (by have : n ≤ i := hg; omega) fun h' eb => ⟨rfl, I.turned (t' := s.toks) (fun b o hb e => eb b o hb e) f0 f1 f3 f4 f5⟩
  self := fun _ _ _ _ _ st h => wpAny_pyIter_rangeiter st h
end L2
namespace L2
open PySem PySem.Spec PyProof.Rows
section
variable {X : Cx} {tg : Expr}
theorem Zqs {pins : List (Addr × Obj)} {σ : St} {H : Hp} {s : Shared} {R : It → Hp → Prop} {E : Value → Shared → Prop} {lo hi : Int} {t u v : Tok} {tk : Nat} (I : Inv X pins σ H s) (h1 : -(2 ^ 62) ≤ lo) (h2 : lo < 2 ^ 62) (h3 : -(2 ^ 62) ≤ hi) (h4 : hi < 2 ^ 62)
    (q : R (Itr lo (hi - lo).toNat) H) : wpAny (model X.prog X.w) X.A (pyIter (.ref s.heap.objs.size)) (PIE X pins σ tg R) E { s with heap := s.heap.push { cls := .type "range", data := .fields #[.int lo t, .int hi u, .int 1 v] }, toks := tk } := by
  refine wpAny_pyIter_range (IsRange.new ..) (small_one h1 h2 h3 h4) ?_
  have I1 : Inv X pins σ H { s with heap := s.heap.push { cls := .type "range", data := .fields #[.int lo t, .int hi u, .int 1 v] }, toks := tk } := I.kept fun b o e => Heap.get?_push_of_some _ e
  refine ⟨(s.heap.push { cls := .type "range", data := .fields #[.int lo t, .int hi u, .int 1 v] }).objs.size, [(s.heap.push { cls := .type "range", data := .fields #[.int lo t, .int hi u, .int 1 v] }).objs.size], _, _, H, rfl,
    I1.kept (t' := tk) fun b o e => Heap.get?_push_of_some _ e, Zm1 _ lo (hi - lo).toNat, ?_, fun b hb => ?_, q⟩
  · have e1 : lo + ((0 : Nat) : Int) * 1 = lo := by simp
    have e2 : (((hi - lo).toNat : Nat) : Int) - ((0 : Nat) : Int) = Builtin.Range.rangeSize lo hi 1 := by rw [rangeSize_one]; split <;> omega
    show IsRangeIter _ _ (lo + ((0 : Nat) : Int) * 1) ((((hi - lo).toNat : Nat) : Int) - ((0 : Nat) : Int)) 1
    rw [e1, e2]
    exact Heap.get?_push_size _ rfl
  · have e : b = (s.heap.push { cls := .type "range", data := .fields #[.int lo t, .int hi u, .int 1 v] }).objs.size := by simpa using hb
    subst e
    exact I1.fpOk (Nat.le_refl _) (I1.hok.fresh (Nat.le_refl _))
noncomputable def Zwr (ta : TA) : TI := fun σ H R => ta σ H fun vs H1 => ∃ j : Int, vs = [.int j] ∧ -(2 ^ 62) ≤ j ∧ j < 2 ^ 62 ∧ R (Itr 0 j.toNat) H1
theorem Znz {a : Expr} {ta : TA} {p pos : Pos} (hg : Gl X "range") (hm : X.mg "range" = none) (ha : PA X [a] ta) (hs : starEach [a] X.env = [(false, eval a X.env)] := by rfl) : PI X tg (.Call (.Name "range" p) [a] [] pos) (Zwr ta) := by
  intro pins s σ H R I h
  refine Call_ (Zlw I hg hm boot_range (PyProof.Rows.callWith_type1 (thn (ha pos pins s σ H _ I h) fun us s1 ⟨vs, H1, I1, r1, q1⟩ => ?_) hs rfl))
  obtain ⟨j, e, q1, q2, q⟩ := q1
  subst e
  cases r1 with
  | cons r rr =>
    cases rr
    obtain ⟨t, rfl⟩ := r
    exact call_range_1 (Zqs I1 (by omega) (by omega) q1 q2 (by simpa using q))
noncomputable def tFor (wi : TI) (g : TG) (tb : TS) : TS := fun D σ H => wi σ H fun J H1 => ∃ W : Nat → Nat → St → Hp → Prop, (∃ m, W 0 m σ H1) ∧ ∀ i m σ H, W i m σ H →
  (J.stop i H ∧ D.nx σ H) ∨ (J.go i H ∧ ∃ N : St → Hp → Prop, (∀ σ' H', N σ' H' → ∃ m', m' < m ∧ W (i + 1) m' σ' H') ∧ ∀ x H', J.yld i H x H' → g x σ H' fun σ2 H2 => tb { D with nx := N, ct := N, bk := D.nx } σ2 H2)
noncomputable def Zhg (fp : List Addr) (h : Heap) : List (Addr × Obj) := fp.filterMap fun b => (h.get? b).map fun o => (b, o)
theorem Zcw {fp : List Addr} {h : Heap} {b : Addr} {o : Obj} (hb : b ∈ fp) (e : h.get? b = some o) : (b, o) ∈ Zhg fp h := List.mem_filterMap.mpr ⟨b, hb, by rw [e]; rfl⟩
theorem Zn0 {fp : List Addr} {h : Heap} {p : Addr × Obj} (hp : p ∈ Zhg fp h) : p.1 ∈ fp ∧ h.get? p.1 = some p.2 := by
  obtain ⟨b, hb, e⟩ := List.mem_filterMap.mp hp
  cases q : h.get? b with
  | none => rw [q] at e; cases e
  | some o =>
    rw [q] at e
    have e' : (b, o) = p := Option.some.inj e
    subst e'
    exact ⟨hb, q⟩
theorem Inv.pinned {pins : List (Addr × Obj)} {σ : St} {H : Hp} {s : Shared} {fp : List Addr} (I : Inv X pins σ H s) (hf : ∀ b ∈ fp, FpOk X pins H b) (ho : ∀ b ∈ fp, ∃ o, s.heap.get? b = some o ∧ ∀ v, o.data ≠ .cell v) : Inv X (pins ++ Zhg fp s.heap) σ H s :=
  I.pins_of fun p hp => (List.mem_append.mp hp).elim (fun z => I.pin p (List.mem_append_right _ z)) fun z => by
    obtain ⟨hb, e⟩ := Zn0 z
    obtain ⟨f0, f1, f2, _⟩ := hf p.1 hb
    obtain ⟨o, e', d⟩ := ho p.1 hb
    rw [e] at e'; cases e'
    exact ⟨e, f0, f1, f2, d⟩
theorem Inv.unpinned {pins pl : List (Addr × Obj)} {σ : St} {H : Hp} {s : Shared} (I : Inv X (pins ++ pl) σ H s) : Inv X pins σ H s := I.pins_of fun p hp => I.pin p (List.mem_append_right _ (List.mem_append_left _ hp))
theorem Zws {iter : Expr} {body : List Stmt} {wi : TI} {g : TG} {tb : TS} {pos : Pos} (hp : PassesOwn (model X.prog X.w) X.A X.env X.xe) (hc : X.calm = true) (hi : PI X tg iter wi) (hg : PG X tg g) (hb : PSs X body tb)
    (hs : ∀ x, foldedSetIterable iter X.env x = pure x := by intro _; rfl) : PS X (.For tg iter body [] pos) (tFor wi g tb) := by
  intro pins s σ H D I h
  refine wpAny_For (thn (hi pins s σ H _ I h) fun v s1 h1 => thn h1 fun itv s2 h2 => ?_) hs
  obtain ⟨it, fp, tn, J, H2, e, I2, T, st2, f2, W, ⟨m0, w0⟩, turn⟩ := h2
  subst e
  -- what stays true of the iterator's objects through the loop
  have stat : ∀ {H' : Hp}, (∀ b ∈ fp, H' b = none) → ∀ b ∈ fp, FpOk X pins H' b := fun hn b hb => ⟨hn b hb, (f2 b hb).2⟩
  refine codeAny_forLoop_any (fun n s' => ∃ i σ' H', Inv X pins σ' H' s' ∧ tn i s'.heap ∧ (∀ b ∈ fp, H' b = none) ∧ W i n σ' H') ?_ m0 ⟨0, σ, H2, I2, st2, fun b hb => (f2 b hb).1, w0⟩
  rintro n s3 ⟨i, σ3, H3, I3, st3, fr3, w3⟩
  rcases turn i n σ3 H3 w3 with ⟨stop, qn⟩ | ⟨go, N, hN, step⟩
  · refine wpAny_passesOwn hp (thn (T.done X rfl rfl rfl hc i pins s3 σ3 H3 X.xe I3 (stat fr3) st3 stop) fun r s4 ⟨hr, I4⟩ => ?_)
    subst hr
    exact wpAny_execs_nil ⟨σ3, H3, I4, qn⟩
  · refine wpAny_passesOwn hp (thn (T.item X rfl rfl rfl hc i pins s3 σ3 H3 X.xe I3 (stat fr3) st3 go) fun r s4 ⟨u, hr, h4⟩ => ?_)
    subst hr
    refine wpAny_passesOwn hp (thn h4 fun _ s5 ⟨x, H5, I5, r5, y5, st5, fr5⟩ => ?_)
    have I5' := I5.pinned (stat fr5) (T.obj _ _ st5)
    refine wpAny_passesOwn hp (thn (hg _ s5 σ3 H5 x u _ I5' r5 (step x H5 y5)) fun _ s6 ⟨σ6, H6, I6, q6⟩ => ?_)
    refine wpAny_passesOwn hp (thn (hb _ s6 σ6 H6 _ I6 q6) fun f s7 q7 => ?_)
    have again : ∀ {σ7 : St} {H7 : Hp}, Inv X (pins ++ Zhg fp s5.heap) σ7 H7 s7 → N σ7 H7 → ∃ m, m < n ∧ ∃ i σ' H', Inv X pins σ' H' s7 ∧ tn i s7.heap ∧ (∀ b ∈ fp, H' b = none) ∧ W i m σ' H' := fun {σ7 H7} I7 n7 => by
      obtain ⟨m', hm, w7⟩ := hN σ7 H7 n7
      refine ⟨m', hm, i + 1, σ7, H7, I7.unpinned, T.keep _ _ _ st5 fun b hb o e => (I7.pin (b, o) (List.mem_append_right _ (List.mem_append_right _ (Zcw hb e)))).1, fun b hb => ?_, w7⟩
      obtain ⟨o, e, d⟩ := T.obj _ _ st5 b hb
      exact (I7.pin (b, o) (List.mem_append_right _ (List.mem_append_right _ (Zcw hb e)))).2.1
    cases f with
    | next => obtain ⟨σ7, H7, I7, n7⟩ := q7; exact again I7 n7
    | cont => obtain ⟨σ7, H7, I7, n7⟩ := q7; exact again I7 n7
    | brk => obtain ⟨σ7, H7, I7, q7⟩ := q7; exact ⟨σ7, H7, I7.unpinned, q7⟩
    | ret v => obtain ⟨x7, σ7, H7, I7, r7, q7⟩ := q7; exact ⟨x7, σ7, H7, I7.unpinned, r7, q7⟩
end
end L2
namespace L2
open PySem PySem.Spec PyProof.Rows
noncomputable abbrev R2 := V → V → Hp → VK → Prop
noncomputable def OpR (X : Cx) (f : Value → Value → Sem Value) (r : R2) : Prop :=
  ∀ (pins : List (Addr × Obj)) (s : Shared) (σ : St) (H : Hp) (x y : V) (v u : Value) (Q : VK), Inv X pins σ H s → RelV x v → RelV y u → r x y H Q →
    wpAny (model X.prog X.w) X.A (f v u) (EP X pins σ Q) X.xe s
noncomputable def UnR (X : Cx) (f : Value → Sem Value) (r : V → Hp → VK → Prop) : Prop :=
  ∀ (pins : List (Addr × Obj)) (s : Shared) (σ : St) (H : Hp) (x : V) (v : Value) (Q : VK), Inv X pins σ H s → RelV x v → r x H Q →
    wpAny (model X.prog X.w) X.A (f v) (EP X pins σ Q) X.xe s
noncomputable def Zes (X : Cx) (f : Value) (r : List V → Hp → VK → Prop) : Prop :=
  ∀ (pins : List (Addr × Obj)) (s : Shared) (σ : St) (H : Hp) (xs : List V) (us : List Value) (Q : VK), Inv X pins σ H s → Vals xs us → r xs H Q →
    wpAny (model X.prog X.w) X.A (call f us) (EP X pins σ Q) X.xe s
noncomputable def tOp (r : R2) (ta tb : TE) : TE := fun σ H Q => ta σ H fun x H1 => tb σ H1 fun y H2 => r x y H2 Q
noncomputable def tUn (r : V → Hp → VK → Prop) (ta : TE) : TE := fun σ H Q => ta σ H fun x H1 => r x H1 Q
noncomputable def rI (C : Int → Int → Prop) (g : Int → Int → V) : R2 := fun x y H Q => ∃ i j, x = .int i ∧ y = .int j ∧ C i j ∧ Q (g i j) H
noncomputable def rI0 (g : Int → Int → V) : R2 := fun x y H Q => ∃ i j, x = .int i ∧ y = .int j ∧ Q (g i j) H
noncomputable def rU (g : Int → V) : V → Hp → VK → Prop := fun x H Q => ∃ i, x = .int i ∧ Q (g i) H
section
variable {X : Cx} {a b c : Expr} {ta tb tc : TE} {pos : Pos}
theorem binT (ha : PE X a ta) (hb : PE X b tb) {pins : List (Addr × Obj)} {s : Shared} {σ : St} {H : Hp} {R : V → V → Hp → Prop} (I : Inv X pins σ H s)
    (h : ta σ H fun x H1 => tb σ H1 fun y H2 => R x y H2) {Q : Value → Shared → Prop} {f : Value → Value → Sem Value}
    (hf : ∀ v u s2 x y H2, Inv X pins σ H2 s2 → RelV x v → RelV y u → R x y H2 → wpAny (model X.prog X.w) X.A (f v u) Q X.xe s2) :
    wpAny (model X.prog X.w) X.A (eval a X.env) (fun v s₁ => wpAny (model X.prog X.w) X.A (eval b X.env) (fun u s₂ => wpAny (model X.prog X.w) X.A (f v u) Q X.xe s₂) X.xe s₁) X.xe s := by
  refine thn (ha pins s σ H _ I h) fun v s1 ⟨x, H1, I1, r1, q1⟩ => ?_
  refine thn (hb pins s1 σ H1 _ I1 q1) fun u s2 ⟨y, H2, I2, r2, q2⟩ => ?_
  exact hf v u s2 x y H2 I2 r1 r2 q2
theorem Z0e {op : Operator} {r : R2} (ho : OpR X (binaryOp op) r) (ha : PE X a ta) (hb : PE X b tb) : PE X (.BinOp a op b pos) (tOp r ta tb) := by
  intro pins s σ H Q I h
  exact wpAny_BinOp (binT ha hb I h fun v u s2 x y H2 I2 rx ry q => ho pins s2 σ H2 x y v u Q I2 rx ry q)
theorem Zwt {op : UnaryOp} {r : V → Hp → VK → Prop} (ho : UnR X (unaryOp op) r) (ha : PE X a ta) : PE X (.UnaryOp op a pos) (tUn r ta) := by
  intro pins s σ H Q I h
  exact UnaryOp_ (thn (ha pins s σ H _ I h) fun v s1 ⟨x, H1, I1, r1, q1⟩ => ho pins s1 σ H1 x v Q I1 r1 q1)
theorem opI {f : Value → Value → Sem Value} {C : Int → Int → Prop} {g : Int → Int → Int}
    (rule : ∀ (i j : Int) (t u : Tok) (s : Shared) (Q : Value → Shared → Prop) (E : Value → Shared → Prop), C i j → Q (.int (g i j) s.toks) { s with toks := s.toks + 1 } → wpAny (model X.prog X.w) X.A (f (.int i t) (.int j u)) Q E s) :
    OpR X f (rI C fun i j => .int (g i j)) := by
  intro pins s σ H x y v u Q I rx ry h
  obtain ⟨i, j, rfl, rfl, hc, q⟩ := h
  obtain ⟨t, rfl⟩ := rx
  obtain ⟨t', rfl⟩ := ry
  exact rule i j t t' s _ _ hc ⟨.int (g i j), H, I.tok _, ⟨_, rfl⟩, q⟩
theorem opI0 {f : Value → Value → Sem Value} {g : Int → Int → Int}
    (rule : ∀ (i j : Int) (t u : Tok) (s : Shared) (Q : Value → Shared → Prop) (E : Value → Shared → Prop), Q (.int (g i j) s.toks) { s with toks := s.toks + 1 } → wpAny (model X.prog X.w) X.A (f (.int i t) (.int j u)) Q E s) :
    OpR X f (rI0 fun i j => .int (g i j)) := by
  intro pins s σ H x y v u Q I rx ry h
  obtain ⟨i, j, rfl, rfl, q⟩ := h
  obtain ⟨t, rfl⟩ := rx
  obtain ⟨t', rfl⟩ := ry
  exact rule i j t t' s _ _ ⟨.int (g i j), H, I.tok _, ⟨_, rfl⟩, q⟩
theorem opB0 {f : Value → Value → Sem Value} {g : Int → Int → Bool}
    (rule : ∀ (i j : Int) (t u : Tok) (s : Shared) (Q : Value → Shared → Prop) (E : Value → Shared → Prop), Q (.bool (g i j)) s → wpAny (model X.prog X.w) X.A (f (.int i t) (.int j u)) Q E s) :
    OpR X f (rI0 fun i j => .bl (g i j)) := by
  intro pins s σ H x y v u Q I rx ry h
  obtain ⟨i, j, rfl, rfl, q⟩ := h
  obtain ⟨t, rfl⟩ := rx
  obtain ⟨t', rfl⟩ := ry
  exact rule i j t t' s _ _ ⟨.bl (g i j), H, I, rfl, q⟩
noncomputable def CDiv (i j : Int) : Prop := 0 < j ∧ j < 1073741824
noncomputable def CMul (i j : Int) : Prop := (-(2 ^ 64) < i ∧ i < 2 ^ 64) ∨ (-(2 ^ 64) < j ∧ j < 2 ^ 64)
theorem CMul.ok {i j : Int} (h : CMul i j) : IntMulOk i j := by
  rcases h with ⟨h1, h2⟩ | ⟨h1, h2⟩
  · exact .of_left (intBits_le_64 h1 h2)
  · exact .of_right (intBits_le_64 h1 h2)
theorem Zwu : OpR X (binaryOp .Add) (rI0 fun i j => .int (i + j)) := opI0 fun _ _ _ _ _ _ _ q => add_int q
theorem Zwv : OpR X (binaryOp .Mult) (rI CMul fun i j => .int (i * j)) := opI fun _ _ _ _ _ _ _ hc q => mul_int q hc.ok
theorem Ztw : OpR X (binaryOp .FloorDiv) (rI CDiv fun i j => .int (i / j)) := opI fun i j _ _ _ _ _ hc q => by
  have h1 : (0 : Int) < j := hc.1
  have h2 : j < 1073741824 := hc.2
  exact floordiv_int (by omega) (by rw [Int.fdiv_eq_ediv_of_nonneg i (by omega)]; exact q) (.inl (PyProof.noPylong_small (by omega)))
theorem Zww : OpR X (binaryOp .Mod) (rI (fun _ j => 0 < j) fun i j => .int (i % j)) := opI fun i j _ _ _ _ _ hc q => by
  have h1 : (0 : Int) < j := hc
  exact mod_int' (by omega) (by rw [Int.fmod_eq_emod_of_nonneg i (by omega)]; exact q)
theorem unI {f : Value → Sem Value} {g : Int → Int}
    (rule : ∀ (i : Int) (t : Tok) (s : Shared) (Q : Value → Shared → Prop) (E : Value → Shared → Prop), Q (.int (g i) s.toks) { s with toks := s.toks + 1 } → wpAny (model X.prog X.w) X.A (f (.int i t)) Q E s) :
    UnR X f (rU fun i => .int (g i)) := by
  intro pins s σ H x v Q I rx h
  obtain ⟨i, rfl, q⟩ := h
  obtain ⟨t, rfl⟩ := rx
  exact rule i t s _ _ ⟨.int (g i), H, I.tok _, ⟨_, rfl⟩, q⟩
theorem Zso : UnR X (unaryOp .USub) (rU fun i => .int (-i)) := unI fun _ _ _ _ _ q => neg_int q
end
noncomputable def scal : V → V → Bool
  | .non, .non => true | .non, .int _ => true | .int _, .non => true | .non, .bl _ => true | .bl _, .non => true | .non, .str _ => true | .str _, .non => true
  | .int _, .int _ => true | .bl _, .bl _ => true | .str _, .str _ => true | .byt _, .byt _ => true
  | .int _, .str _ => true | .str _, .int _ => true | .bl _, .str _ => true | .str _, .bl _ => true
  | _, _ => false
noncomputable def rEq : R2 := fun x y H Q => scal x y = true ∧ Q (.bl (decide (x = y))) H
noncomputable def rNe : R2 := fun x y H Q => scal x y = true ∧ Q (.bl (!decide (x = y))) H
theorem Zn1 {i j : Int} : decide (V.int i = V.int j) = (i == j) := by
  rw [Bool.eq_iff_iff]
  simp
theorem Zsp {i j : Bool} : decide (V.bl i = V.bl j) = (i == j) := by
  rw [Bool.eq_iff_iff]
  simp
theorem Zn2 {i j : Str} : decide (V.str i = V.str j) = (i == j) := by
  rw [Bool.eq_iff_iff]
  simp
theorem Zn3 {i j : Array UInt8} : decide (V.byt i = V.byt j) = (i.toList == j.toList) := by
  rw [Bool.eq_iff_iff]
  cases i
  cases j
  simp
section
variable {X : Cx} {a b c : Expr} {ta tb tc : TE} {pos : Pos}
theorem Z7 {pins : List (Addr × Obj)} {σ : St} {H : Hp} {s : Shared} {Q : VK} {k k' : Bool} (I : Inv X pins σ H s) (q : Q (.bl k) H) (e : k = k') : EP X pins σ Q (.bool k') s := by
  subst e
  exact ⟨.bl k, H, I, rfl, q⟩
theorem Zwx : OpR X (compareOp .Eq) rEq := by
  intro pins s σ H x y v u Q I rx ry h
  obtain ⟨hs, q⟩ := h
  cases x with
  | non =>
    cases rx
    cases y with
    | non => cases ry; exact PySem.EqNone.eq_none_none (Z7 I q (by simp))
    | bl j => cases ry; exact PySem.EqNone.eq_none_bool (Z7 I q (by simp))
    | int j => obtain ⟨t', rfl⟩ := ry; exact PySem.EqNone.eq_none_int (Z7 I q (by simp))
    | str j => obtain ⟨t', rfl⟩ := ry; exact PySem.EqNone.eq_none_str (Z7 I q (by simp))
    | _ => exact absurd (show false = true from hs) Bool.false_ne_true
  | bl i =>
    cases rx
    cases y with
    | non => cases ry; exact PySem.EqNone.eq_bool_none (Z7 I q (by simp))
    | bl j => cases ry; exact eq_bool (Z7 I q Zsp)
    | str j => obtain ⟨t', rfl⟩ := ry; exact PySem.EqMixed.eq_bool_str (Z7 I q (by simp))
    | _ => exact absurd (show false = true from hs) Bool.false_ne_true
  | int i =>
    obtain ⟨t, rfl⟩ := rx
    cases y with
    | non => cases ry; exact PySem.EqNone.eq_int_none (Z7 I q (by simp))
    | int j => obtain ⟨t', rfl⟩ := ry; exact eq_int (Z7 I q Zn1)
    | str j => obtain ⟨t', rfl⟩ := ry; exact PySem.EqMixed.eq_int_str (Z7 I q (by simp))
    | _ => exact absurd (show false = true from hs) Bool.false_ne_true
  | str i =>
    obtain ⟨t, rfl⟩ := rx
    cases y with
    | non => cases ry; exact PySem.EqNone.eq_str_none (Z7 I q (by simp))
    | bl j => cases ry; exact PySem.EqMixed.eq_str_bool (Z7 I q (by simp))
    | int j => obtain ⟨t', rfl⟩ := ry; exact PySem.EqMixed.eq_str_int (Z7 I q (by simp))
    | str j => obtain ⟨t', rfl⟩ := ry; exact eq_str (Z7 I q Zn2)
    | _ => exact absurd (show false = true from hs) Bool.false_ne_true
  | byt i =>
    obtain ⟨t, rfl⟩ := rx
    cases y with
    | byt j => obtain ⟨t', rfl⟩ := ry; exact PySem.W.eq_bytes (Z7 I q Zn3)
    | _ => exact absurd (show false = true from hs) Bool.false_ne_true
  | _ => cases y <;> exact absurd (show false = true from hs) Bool.false_ne_true
theorem Z0f : OpR X (compareOp .NotEq) rNe := by
  intro pins s σ H x y v u Q I rx ry h
  obtain ⟨hs, q⟩ := h
  cases x with
  | non =>
    cases rx
    cases y with
    | non => cases ry; exact PySem.EqNone.ne_none_none (Z7 I q (by simp))
    | bl j => cases ry; exact PySem.EqNone.ne_none_bool (Z7 I q (by simp))
    | int j => obtain ⟨t', rfl⟩ := ry; exact PySem.EqNone.ne_none_int (Z7 I q (by simp))
    | str j => obtain ⟨t', rfl⟩ := ry; exact PySem.EqNone.ne_none_str (Z7 I q (by simp))
    | _ => exact absurd (show false = true from hs) Bool.false_ne_true
  | bl i =>
    cases rx
    cases y with
    | non => cases ry; exact PySem.EqNone.ne_bool_none (Z7 I q (by simp))
    | bl j => cases ry; exact ne_bool (Z7 I q (congrArg not Zsp))
    | str j => obtain ⟨t', rfl⟩ := ry; exact PySem.EqMixed.ne_bool_str (Z7 I q (by simp))
    | _ => exact absurd (show false = true from hs) Bool.false_ne_true
  | int i =>
    obtain ⟨t, rfl⟩ := rx
    cases y with
    | non => cases ry; exact PySem.EqNone.ne_int_none (Z7 I q (by simp))
    | int j => obtain ⟨t', rfl⟩ := ry; exact ne_int (Z7 I q (congrArg not Zn1))
    | str j => obtain ⟨t', rfl⟩ := ry; exact PySem.EqMixed.ne_int_str (Z7 I q (by simp))
    | _ => exact absurd (show false = true from hs) Bool.false_ne_true
  | str i =>
    obtain ⟨t, rfl⟩ := rx
    cases y with
    | non => cases ry; exact PySem.EqNone.ne_str_none (Z7 I q (by simp))
    | bl j => cases ry; exact PySem.EqMixed.ne_str_bool (Z7 I q (by simp))
    | int j => obtain ⟨t', rfl⟩ := ry; exact PySem.EqMixed.ne_str_int (Z7 I q (by simp))
    | str j => obtain ⟨t', rfl⟩ := ry; exact ne_str (Z7 I q (congrArg not Zn2))
    | _ => exact absurd (show false = true from hs) Bool.false_ne_true
  | byt i =>
    obtain ⟨t, rfl⟩ := rx
    cases y with
    | byt j => obtain ⟨t', rfl⟩ := ry; exact PySem.W.ne_bytes (Z7 I q (congrArg not Zn3))
    | _ => exact absurd (show false = true from hs) Bool.false_ne_true
  | _ => cases y <;> exact absurd (show false = true from hs) Bool.false_ne_true
theorem Z0g : OpR X (compareOp .Lt) (rI0 fun i j => .bl (decide (i < j))) := opB0 fun _ _ _ _ _ _ _ q => lt_int q
theorem Zwy : OpR X (compareOp .LtE) (rI0 fun i j => .bl (decide (i ≤ j))) := opB0 fun _ _ _ _ _ _ _ q => le_int q
theorem Z0h : OpR X (compareOp .Gt) (rI0 fun i j => .bl (decide (j < i))) := opB0 fun _ _ _ _ _ _ _ q => gt_int q
theorem Zi7 : OpR X (compareOp .In) (fun x y H Q => ∃ i j, x = .str i ∧ y = .str j ∧ Q (.bl (!(Builtin.Str.occurrences j i 0 j.length 1).isEmpty)) H) := by
  intro pins s σ H x y v u Q I rx ry h
  obtain ⟨i, j, rfl, rfl, q⟩ := h
  obtain ⟨t, rfl⟩ := rx
  obtain ⟨t', rfl⟩ := ry
  exact in_str (Z7 I q rfl)
theorem Zwz : OpR X (compareOp .Is) (fun x y H Q => y = .non ∧ Q (.bl (decide (x = .non))) H) := by
  intro pins s σ H x y v u Q I rx ry h
  obtain ⟨rfl, q⟩ := h
  cases ry
  refine is_none_gen (Z7 I q ?_)
  cases x <;> first
    | (cases rx; rfl)
    | (obtain ⟨t, rfl⟩ := rx; rfl)
theorem Ztx : OpR X (compareOp .IsNot) (fun x y H Q => y = .non ∧ Q (.bl (!decide (x = .non))) H) := by
  intro pins s σ H x y v u Q I rx ry h
  obtain ⟨rfl, q⟩ := h
  cases ry
  refine isnot_none_gen (Z7 I q ?_)
  cases x <;> first
    | (cases rx; rfl)
    | (obtain ⟨t, rfl⟩ := rx; rfl)
theorem OpR.or {f : Value → Value → Sem Value} {r r' : R2} (h : OpR X f r) (h' : OpR X f r') : OpR X f (fun x y H Q => r x y H Q ∨ r' x y H Q) := by
  intro pins s σ H x y v u Q I rx ry q
  rcases q with q | q
  · exact h pins s σ H x y v u Q I rx ry q
  · exact h' pins s σ H x y v u Q I rx ry q
theorem Zgi (b : Expr) {op : CmpOp} (h : op ≠ .In := by decide) (h2 : op ≠ .NotIn := by decide) : behindInMarks op b = false := by
  have e1 : (op == CmpOp.In) = false := by cases op <;> first | rfl | exact absurd rfl h
  have e2 : (op == CmpOp.NotIn) = false := by cases op <;> first | rfl | exact absurd rfl h2
  cases b <;> simp [behindInMarks, e1, e2]
theorem Zty {op : CmpOp} {r : R2} (ho : OpR X (compareOp op) r) (ha : PE X a ta) (hb : PE X b tb) (hm : behindInMarks op b = false) : PE X (.Compare a [op] [b] pos) (tOp r ta tb) := by
  intro pins s σ H Q I h
  exact wpAny_Compare1 (binT ha hb I h fun v u s2 x y H2 I2 rx ry q => ho pins s2 σ H2 x y v u Q I2 rx ry q) hm
noncomputable def Zw0 (t : TE) : TT := fun σ H Q => t σ H fun x H' => ∃ k, x = .bl k ∧ Q k H'
theorem Ztz {op : CmpOp} {r : R2} (ho : OpR X (compareOp op) r) (ha : PE X a ta) (hb : PE X b tb) (hm : behindInMarks op b = false) : PT X (.Compare a [op] [b] pos) (Zw0 (tOp r ta tb)) := by
  intro pins s σ H Q I h
  refine wpAny_isTrue_Compare1 (thn (ha pins s σ H _ I h) fun v s1 ⟨x, H1, I1, r1, q1⟩ => thn (hb pins s1 σ H1 _ I1 q1) fun u s2 ⟨y, H2, I2, r2, q2⟩ =>
    thn (ho pins s2 σ H2 x y v u _ I2 r1 r2 q2) fun c s3 ⟨z, H3, I3, r3, k, e, q3⟩ => ?_) hm
  subst e
  cases r3
  exact wpAny_truthy_bool ⟨H3, I3, q3⟩
noncomputable def Zsq (r r' : R2) (ta tb tc : TE) : TE := fun σ H Q => ta σ H fun x H1 => tb σ H1 fun y H2 => r x y H2 fun z H3 => ∃ k, z = .bl k ∧
  (if k = true then tc σ H3 fun w' H4 => r' y w' H4 Q else Q (.bl false) H3)
theorem Zqt {op op' : CmpOp} {r r' : R2} (ho : OpR X (compareOp op) r) (ho' : OpR X (compareOp op') r') (ha : PE X a ta) (hb : PE X b tb) (hc : PE X c tc)
    (hm : lastMarks [op, op'] [b, c] = false := by with_unfolding_all rfl) : PE X (.Compare a [op, op'] [b, c] pos) (Zsq r r' ta tb tc) := by
  intro pins s σ H Q I h
  refine Compare_chain (thn (ha pins s σ H _ I h) fun v s1 ⟨x, H1, I1, r1, q1⟩ => chain_link (thn (hb pins s1 σ H1 _ I1 q1) fun u s2 ⟨y, H2, I2, r2, q2⟩ =>
    thn (ho pins s2 σ H2 x y v u _ I2 r1 r2 q2) fun d s3 ⟨z, H3, I3, r3, k, e, q3⟩ => ?_)) hm
  subst e
  cases r3
  refine wpAny_truthy_bool ?_
  cases k with
  | false => exact ite_ff ⟨.bl false, H3, I3, rfl, q3⟩
  | true => exact ite_tt (chain_last (thn (hc pins s3 σ H3 _ I3 q3) fun w' s4 ⟨z', H4, I4, r4, q4⟩ => ho' pins s4 σ H4 y z' u w' Q I4 r2 r4 q4))
theorem Zi8 : (sizeLine : Nat) < 2 ^ 63 := by rw [sizeLine_eq]; decide
theorem Zm2 : OpR X (binaryOp .Add) (fun x y H Q => ∃ i j, x = .str i ∧ y = .str j ∧ i.length + j.length ≤ sizeLine ∧ Q (.str (i ++ j)) H) := by
  intro pins s σ H x y v u Q I rx ry h
  obtain ⟨i, j, rfl, rfl, hz, q⟩ := h
  obtain ⟨t, rfl⟩ := rx
  obtain ⟨t', rfl⟩ := ry
  exact add_str (fun t' tk => ⟨.str (i ++ j), H, I.tok _, ⟨_, rfl⟩, q⟩) hz
theorem Zf2 {x : V} {us : List Value} (r : Vals [x] us) : ∃ u, us = [u] ∧ RelV x u := by
  cases r with
  | cons r1 r2 => cases r2; exact ⟨_, rfl, r1⟩
theorem Zw1 {x y : V} {us : List Value} (r : Vals [x, y] us) : ∃ u w', us = [u, w'] ∧ RelV x u ∧ RelV y w' := by
  cases r with
  | cons r1 r2 =>
    cases r2 with
    | cons r3 r4 => cases r4; exact ⟨_, _, rfl, r1, r3⟩
theorem Zn4 : Zes X (.type "int") (fun xs H Q => (∃ i, xs = [.int i] ∧ Q (.int i) H) ∨ ∃ k, xs = [.bl k] ∧ Q (.int (if k then 1 else 0)) H) := by
  intro pins s σ H xs us Q I r h
  rcases h with ⟨i, rfl, q⟩ | ⟨k, rfl, q⟩
  · obtain ⟨u, rfl, t, rfl⟩ := Zf2 r
    exact call_int_int ⟨.int i, H, I, ⟨_, rfl⟩, q⟩
  · obtain ⟨u, rfl, r1⟩ := Zf2 r
    cases r1
    exact call_int_bool ⟨.int (if k then 1 else 0), H, I.tok _, ⟨_, rfl⟩, q⟩
end
end L2
namespace L2
open PySem PySem.Spec PyProof.Rows
section
variable {prog : Program} {w : World} {A : Around} {E : Value → Shared → Prop} {s : Shared} {K : PySem.W.Frag} {x dx C f : Addr} {mA : Str → Option Value} {name : Str} {v : Value}
end
noncomputable def putF (f : Str) (v : V) : List (Str × V) → List (Str × V)
  | [] => [(f, v)]
  | (g, x) :: r => if g = f then (g, v) :: r else (g, x) :: putF f v r
theorem RelO.some_of {v : V} {o : Option Value} (r : RelO (some v) o) : ∃ u, o = some u ∧ RelV v u := by
  cases o with
  | none => exact (show False from r).elim
  | some u => exact ⟨u, rfl, r⟩
section
variable {P : Program} {w : World} {H H' : Hp} {h h' : Heap} {a C dx : Addr} {fs fs' : List (Str × V)}
end
section
variable {X : Cx} {pins : List (Addr × Obj)} {σ : St} {H : Hp} {s : Shared} {a C dx : Addr} {fs : List (Str × V)} {f : Str} {v : V} {A : Around} {E : Value → Shared → Prop}
end
section
variable {X : Cx} {o e value : Expr} {f : Str} {pos pos' tpos : Pos} {ta tv : TE}
end
section
variable {X : Cx} {pins : List (Addr × Obj)} {σ : St} {H : Hp} {s : Shared} {A : Around} {E : Value → Shared → Prop} {Q : Value → Shared → Prop} {c : Value} {b : Bool}
end
end L2
namespace L2
open PySem PySem.Spec PyProof.Rows
structure Room (k : Nat) (A : Around) : Prop where
  hd : A.handled = none
  dp : A.depth + 3 * k + 5 < recursionLimit
  un : A.units + 16 * k + 200 < cLine
theorem Room.mono {j k : Nat} {A : Around} (r : Room k A) (h : j ≤ k) : Room j A := ⟨r.hd, by have := r.dp; omega, by have := r.un; omega⟩
theorem Room.deeper {k : Nat} {A : Around} (r : Room (k + 1) A) (env : Env) : Room k (A.deeper env) :=
  ⟨r.hd, by have := r.dp; show A.depth + 1 + 3 * k + 5 < _; omega, by have := r.un; show A.units + 3 + 16 * k + 200 < _; omega⟩
theorem Room.depth {k : Nat} {A : Around} (r : Room k A) : A.depth < recursionLimit := by have := r.dp; omega
theorem Room.units {k : Nat} {A : Around} (r : Room k A) : A.units + 64 < cLine := by have := r.un; omega
noncomputable def tNil : TA := fun _ H Q => Q [] H
noncomputable def Zf3 (ta : TE) (tr : TA) : TA := fun σ H Q => ta σ H fun x H1 => tr σ H1 fun xs H2 => Q (x :: xs) H2
section
variable {X : Cx} {e : Expr} {es : List Expr} {te : TE} {t : TA} {pos : Pos}
theorem Zc6 : PA X [] tNil := fun _ _ _ _ H Q I h => Calls.spliced_nil ⟨[], H, I, .nil, h⟩
theorem Zb9 (ha : PE X e te) (hr : PA X es t) (hs : starEach (e :: es) X.env = (false, eval e X.env) :: starEach es X.env := by rfl) : PA X (e :: es) (Zf3 te t) := by
  intro pos pins s σ H Q I h
  rw [hs]
  show wpAny _ _ (spliced ((false, eval e X.env) :: backTo pos (starEach es X.env))) _ _ s
  refine Calls.spliced_cons (thn (ha pins s σ H _ I h) fun u s1 ⟨x, H1, I1, r1, q1⟩ => ?_)
  exact thn (hr pos pins s1 σ H1 _ I1 q1) fun us s2 ⟨xs, H2, I2, r2, q2⟩ => ⟨x :: xs, H2, I2, .cons r1 r2, q2⟩
noncomputable def tTup (t : TA) : TE := fun σ H Q => t σ H fun xs H1 => xs.length ≤ sizeLine ∧ ∀ p, H1 p = none → Q (.ref p) (upd H1 p (.tup xs))
noncomputable def tLst (t : TA) : TE := fun σ H Q => t σ H fun xs H1 => xs.length ≤ sizeLine ∧ ∀ p, H1 p = none → Q (.ref p) (upd H1 p (.lst xs))
theorem Zw2 {x1} (h : PA X es t) : PE X (.Tuple es x1 pos) (tTup t) := by
  intro pins s σ H Q I hq
  refine wpAny_Tuple_spliced (thn (h pos pins s σ H _ I hq) fun us s1 ⟨xs, H1, I1, r, z, q⟩ => ⟨by rw [← r.length]; exact z, ?_⟩)
  have hf : H1 s1.heap.objs.size = none := I1.hok.fresh (Nat.le_refl _)
  refine ⟨.ref s1.heap.objs.size, upd H1 s1.heap.objs.size (.tup xs), I1.laid (t' := s1.toks) (fun b u e => Heap.get?_push_of_some _ e) (Nat.le_refl _) ?_, rfl, q _ hf⟩
  exact ⟨z, us, r, ⟨_, Heap.get?_push_size _ rfl, rfl, _, rfl⟩⟩
theorem Zlx (h : PA X es t) : PE X (.List es pos) (tLst t) := by
  intro pins s σ H Q I hq
  refine wpAny_List_spliced (thn (h pos pins s σ H _ I hq) fun us s1 ⟨xs, H1, I1, r, z, q⟩ => ⟨by rw [← r.length]; exact z, ?_⟩)
  have hf : H1 s1.heap.objs.size = none := I1.hok.fresh (Nat.le_refl _)
  refine ⟨.ref s1.heap.objs.size, upd H1 s1.heap.objs.size (.lst xs), I1.laid (t' := s1.toks) (fun b u e => Heap.get?_push_of_some _ e) (Nat.le_refl _) ?_, rfl, q _ hf⟩
  exact ⟨z, us, 0, r, Heap.get?_push_size _ rfl⟩
end
noncomputable abbrev Sp := List V → Hp → VK → XK → Prop
noncomputable abbrev CXT := List Env → Hp → Shared → XK → Value → Shared → Prop
structure Env0 (P : Program) (w : World) (K : PySem.W.Frag) (mg : Str → Option Value) (base : Heap) (A : Around) (outer : List Env) (s : Shared) (H : Hp) : Prop where
  frames : A.frames = some outer
  mod : Mod K mg base
  bs : ∀ b o, base.get? b = some o → s.heap.get? b = some o ∧ H b = none
  bsz : base.objs.size ≤ s.heap.objs.size
  funs : s.heap.FunFrames base outer
  frf : ∀ b ∈ frs outer, H b = none
  hok : HOk P w H s.heap
  bare : AllBare s.gens
noncomputable def CE (outer : List Env) (P : Program) (w : World) (H : Hp) (s : Shared) (Q : VK) (u : Value) (s' : Shared) : Prop :=
  ∃ v H', s'.os = s.os ∧ AllBare s'.gens ∧ Un (frs outer) [] H H' s.heap s'.heap ∧ HOk P w H' s'.heap ∧ RelV v u ∧ Q v H'
noncomputable def CR (CX : CXT) (outer : List Env) (P : Program) (w : World) (H : Hp) (s : Shared) (Q : VK) (E : XK) (r : Result) (s' : Shared) : Prop :=
  match r with
  | .ok (.ret u) => CE outer P w H s Q u s'
  | .ok _ => False
  | .error e => CX outer H s E e s'
structure FnOk (P : Program) (w : World) (K : PySem.W.Frag) (mg : Str → Option Value) (base : Heap) (CX : CXT) (k : Nat) (f : Addr) (fd : FuncData) (ps : List Str) (sp : Sp) : Prop where
  len : ∀ vs H Q E, sp vs H Q E → vs.length = ps.length
  run : ∀ (A : Around) (outer : List Env) (s : Shared) (H : Hp) (args : Args) (us : List Value) (vs : List V) (Q : VK) (E : XK), Room k A → Env0 P w K mg base A outer s H → BindsTo s fd args (ps.zip us) → Vals vs us → sp vs H Q E →
    codeAny (model P w) A (.call (.ref f) args) (CR CX outer P w H s Q E) s
theorem FnOk.mono {P : Program} {w : World} {K : PySem.W.Frag} {mg : Str → Option Value} {base : Heap} {CX : CXT} {j k : Nat} {f : Addr} {fd : FuncData} {ps : List Str} {sp : Sp} (F : FnOk P w K mg base CX j f fd ps sp) (h : j ≤ k) :
    FnOk P w K mg base CX k f fd ps sp := ⟨F.len, fun A outer s H args us vs Q E hr => F.run A outer s H args us vs Q E (hr.mono h)⟩
section
variable {X : Cx} {pins : List (Addr × Obj)} {σ : St} {H : Hp} {s s' : Shared}
theorem Inv.env0 (I : Inv X pins σ H s) : Env0 X.prog X.w X.K X.mg X.base X.A X.stack s H :=
  ⟨I.ok.frames, I.ok.mod, I.bs, Nat.le_trans I.ok.bsz I.sz, I.stack, I.stkFree, I.hok, I.bare⟩
theorem Inv.after {Q : VK} {u : Value} (I : Inv X pins σ H s) (h : CE X.stack X.prog X.w H s Q u s') : EP X pins σ Q u s' := by
  obtain ⟨v, H', os, bare, un, hok, r, q⟩ := h
  obtain ⟨hh, g, d, t, os'⟩ := s'
  obtain rfl : os' = s.os := os
  exact ⟨v, H', I.call (h' := hh) (g' := g) (d' := d) (t' := t) (ch := []) un hok bare (fun b z => absurd z (by simp)), r, q⟩
end
noncomputable def Zw3 (sp : Sp) (dvs : List V) (E : XK) (t : TA) : TE := fun σ H Q => t σ H fun vs H1 => sp (vs ++ dvs) H1 Q E
noncomputable def Zay (K : PySem.W.Frag) (fd : FuncData) (ps : List Str) (ds : List Value) : Prop :=
  ∀ (s : Shared) (us : List Value), K.In s.heap → (us ++ ds).length = ps.length → BindsTo s fd ⟨us, []⟩ (ps.zip (us ++ ds))
theorem Zay.all {K : PySem.W.Frag} {fd : FuncData} {ps : List Str} (h : ∀ us : List Value, us.length = ps.length → bindArgs fd ⟨us, []⟩ = pure (ps.zip us)) : Zay K fd ps [] := fun s us _ hl => by
  rw [List.append_nil] at hl ⊢
  exact .of_eq (h us hl)
noncomputable def Zn5 (CX : CXT) (X : Cx) (E : XK) : Prop := ∀ (pins : List (Addr × Obj)) (σ : St) (H : Hp) (s : Shared) (e : Value) (s' : Shared), Inv X pins σ H s → CX X.stack H s E e s' → X.xe e s'
section
variable {X : Cx} {CX : CXT} {k : Nat} {f C : Addr} {fd : FuncData} {ps : List Str} {sp : Sp} {dvs : List V} {ds : List Value} {E : XK} {x m : Str} {p pos apos : Pos} {e o : Expr} {es : List Expr} {ta : TE} {t : TA}
theorem Zw4 {pins : List (Addr × Obj)} {σ : St} {H : Hp} {s : Shared} {Q : VK} {us : List Value} {vs : List V} (F : FnOk X.prog X.w X.K X.mg X.base CX k f fd ps sp) (hr : Room k X.A) (hb : Zay X.K fd ps ds) (hd : Vals dvs ds) (hx : Zn5 CX X E)
    (I : Inv X pins σ H s) (r : Vals vs us) (h : sp (vs ++ dvs) H Q E) : wpAny (model X.prog X.w) X.A (call (.ref f) us) (EP X pins σ Q) X.xe s := by
  have r2 : Vals (vs ++ dvs) (us ++ ds) := r.append hd
  have hl : (us ++ ds).length = ps.length := by rw [← r2.length]; exact F.len _ _ _ _ h
  refine wpAny_call (codeAny_mono (F.run X.A X.stack s H ⟨us, []⟩ (us ++ ds) (vs ++ dvs) Q E hr I.env0 (hb s us I.kIn hl) r2 h) fun r s' hq => ?_)
  cases r with
  | error e => exact hx pins σ H s e s' I hq
  | ok fl =>
    cases fl with
    | ret u => exact I.after hq
    | next => exact False.elim hq
    | brk => exact False.elim hq
    | cont => exact False.elim hq
theorem Zt0 (F : FnOk X.prog X.w X.K X.mg X.base CX k f fd ps sp) (hr : Room k X.A) (hg : Gl X x) (hm : X.mg x = some (.ref f)) (hk : PySem.W.keepIn X.K (.ref f) = true) (hb : Zay X.K fd ps ds) (hd : Vals dvs ds) (hx : Zn5 CX X E)
    (ha : PA X (e :: es) t) (hdb : (x == ("__debug__" : Str)) = false := by decide) (he : starEach (e :: es) X.env = (false, eval e X.env) :: starEach es X.env := by rfl) (hpl : (backTo pos (starEach es X.env)).any (·.1) = false := by rfl) :
    PE X (.Call (.Name x p) (e :: es) [] pos) (Zw3 sp dvs E t) := by
  intro pins s σ H Q I h
  refine wpAny_Call_Name_kw (Zgh I hg hm ?_ hdb)
  refine PySem.W.callWith_K (h₀ := X.base) I.ok.mod.kin hk (thn (ha pos pins s σ H _ I h) fun us s1 ⟨vs, H1, I1, r, q⟩ => ⟨I1.kIn, ?_⟩) he hpl
  exact Zw4 F hr hb hd hx I1 r q
end
section
variable {X : Cx} {CX : CXT} {k : Nat} {f C : Addr} {fd : FuncData} {ps ks : List Str} {sp : Sp} {E : XK} {x m : Str} {p pos apos kpos : Pos} {e o : Expr} {es : List Expr} {kws : List Keyword} {te ta : TE} {t tk : TA} {nm : Option Str}
variable {g : List Value → List Value → List Value} {gV : List V → List V → List V}
end
structure FnScope (N P : List Str) (sc : Scope) : Prop where
  kind : sc.kind = .function
  co : sc.isCoroutine = false
  gen : sc.isGenerator = false
  nd : N.Nodup
  pre : N.take P.length = P
  par : ∀ x ∈ P, sc.names.lookup x = some .local ∨ sc.names.lookup x = some .cell
  nofree : ∀ y ∈ sc.names, y.2 ≠ .free
theorem Zi9 {kindOf : Str → Option NameKind} {x : Str} : ∀ {binds : List (Str × Value)} {m : Str → Option Value}, (∀ v, (x, v) ∉ binds) → bindL kindOf binds m x = m x
  | [], _, _ => rfl
  | (n, v) :: r, m, h => by
    unfold bindL
    rw [Zi9 fun w hw => h w (List.mem_cons_of_mem _ hw)]
    split
    · have : x ≠ n := by rintro rfl; exact h v List.mem_cons_self
      simp [this]
    · rfl
theorem Zja {kindOf : Str → Option NameKind} {x : Str} : ∀ {binds : List (Str × Value)} {m : Str → Option Value}, (∀ v, (x, v) ∉ binds) → bindC kindOf binds m x = m x
  | [], _, _ => rfl
  | (n, v) :: r, m, h => by
    unfold bindC
    rw [Zja fun w hw => h w (List.mem_cons_of_mem _ hw)]
    split
    · rfl
    · have : x ≠ n := by rintro rfl; exact h v List.mem_cons_self
      simp [this]
theorem Zjb {kindOf : Str → Option NameKind} {x : Str} {v : Value} : ∀ {P : List Str} {vs : List Value} {i : Nat} {m : Str → Option Value}, P.Nodup → P[i]? = some x → vs[i]? = some v → kindOf x = some .local →
    bindL kindOf (P.zip vs) m x = some v
  | [], _, _, _, _, h, _, _ => by simp at h
  | _ :: _, [], _, _, _, _, h, _ => by simp at h
  | p :: P, w :: vs, 0, m, nd, h1, h2, hk => by
    simp at h1 h2; subst h1; subst h2
    show bindL kindOf ((p, w) :: P.zip vs) m p = _
    unfold bindL
    rw [Zi9 fun v hv => (List.nodup_cons.mp nd).1 (List.of_mem_zip hv).1, if_pos hk]
    simp
  | p :: P, w :: vs, i + 1, m, nd, h1, h2, hk => by
    show bindL kindOf ((p, w) :: P.zip vs) m x = _
    unfold bindL
    exact Zjb (i := i) (List.nodup_cons.mp nd).2 (by simpa using h1) (by simpa using h2) hk
theorem Zjc {kindOf : Str → Option NameKind} {x : Str} {v : Value} : ∀ {P : List Str} {vs : List Value} {i : Nat} {m : Str → Option Value}, P.Nodup → P[i]? = some x → vs[i]? = some v → kindOf x ≠ some .local →
    bindC kindOf (P.zip vs) m x = some v
  | [], _, _, _, _, h, _, _ => by simp at h
  | _ :: _, [], _, _, _, _, h, _ => by simp at h
  | p :: P, w :: vs, 0, m, nd, h1, h2, hk => by
    simp at h1 h2; subst h1; subst h2
    show bindC kindOf ((p, w) :: P.zip vs) m p = _
    unfold bindC
    rw [Zja fun v hv => (List.nodup_cons.mp nd).1 (List.of_mem_zip hv).1, if_neg hk]
    simp
  | p :: P, w :: vs, i + 1, m, nd, h1, h2, hk => by
    show bindC kindOf ((p, w) :: P.zip vs) m x = _
    unfold bindC
    exact Zjc (i := i) (List.nodup_cons.mp nd).2 (by simpa using h1) (by simpa using h2) hk
noncomputable def start (N : List Str) (vs : List V) : St := vs.map some ++ List.replicate (N.length - vs.length) none
noncomputable def cxOf (CX : CXT) (P : Program) (w : World) (K : PySem.W.Frag) (mg : Str → Option Value) (base : Heap) (N : List Str) (qual : Str) (scope : Scope) (f : Addr) (cd : Value) (A : Around) (outer : List Env) (s : Shared) (H : Hp) (E : XK) : Cx where
  prog := P
  w := w
  K := K
  mg := mg
  base := base
  A := A.deeper (envOfC qual scope s.heap.objs.size f cd)
  N := N
  s₀ := s
  H₀ := H
  env := envOfC qual scope s.heap.objs.size f cd
  outer := outer
  stack := envOfC qual scope s.heap.objs.size f cd :: outer
  ex := []
  calm := true
  fn := fun _ => true
  pn := []
  xe := fun e s' => wpAny (model P w) (A.deeper (envOfC qual scope s.heap.objs.size f cd)) (leaving (envOfC qual scope s.heap.objs.size f cd) e) (fun _ s'' => CX outer H s E e s'') (fun e' s'' => CX outer H s E e' s'') s'
theorem Zly {sc : Scope} {n : Nat} {x : Str} (h : sc.names.lookup x = some .cell) : ∃ c, (cellsFrom n sc.names []).lookup x = some c := by
  have q := PySem.W.cellsFrom_some sc.names n [] (.inl h)
  exact Option.isSome_iff_exists.mp q
theorem Zn6 {CX : CXT} {P : Program} {w : World} {K : PySem.W.Frag} {mg : Str → Option Value} {base : Heap} {N ps : List Str} {qual : Str} {scope : Scope} {f : Addr} {cd : Value} {A : Around} {outer : List Env} {s s1 : Shared} {H : Hp} {E : XK} {us : List Value} {vs : List V}
    (S : FnScope N ps scope) (hd : A.handled = none) (e0 : Env0 P w K mg base A outer s H) (hl : vs.length = ps.length) (r : Vals vs us)
    (x : InCallC s s.heap.objs.size (bindL (envOfC qual scope s.heap.objs.size f cd).kindOf (ps.zip us) fun _ => none) (cellsFrom (s.heap.objs.size + 1) scope.names []) (bindC (envOfC qual scope s.heap.objs.size f cd).kindOf (ps.zip us) fun _ => none) s1) :
    Inv (cxOf CX P w K mg base N qual scope f cd A outer s H E) [] (start N vs) H s1 := by
  have hpl : ps.length ≤ N.length := by have := congrArg List.length S.pre; rw [List.length_take] at this; omega
  obtain ⟨h1, tk, rfl, hk⟩ := x.done
  have noA : ∀ b : Addr, b ∉ (cxOf CX P w K mg base N qual scope f cd A outer s H E).ex := fun b z => absurd (show b ∈ ([] : List Addr) from z) (by simp)
  refine ⟨⟨e0.mod, S.kind, rfl, rfl, Nat.le_refl _, fun y z c h1 h2 => ?_, fun y hy => ?_, fun y c _ h => ?_, fun _ => hd, Around.frames_deeper e0.frames, .inr ⟨rfl, rfl⟩, fun b z => absurd z (noA b), e0.bs, e0.bsz, fun b _ _ => noA b, fun b z => absurd z (noA b), e0.funs, e0.frf⟩,
    rfl, e0.bare, Un.kept hk, ⟨_, x.toInCall.ns, fun i y v h1 h2 h3 => ?_⟩, fun y c h => ⟨_, x.cell y c h⟩, e0.hok.fresh (Nat.le_refl _), fun y c h => ?_, fun p hp => absurd (show p ∈ ([] : List (Addr × Obj)) from hp) (by simp), e0.hok.kept hk, ?_⟩
  · exact name_of_addr x.apart (PySem.mem_of_lookup h1) (PySem.mem_of_lookup h2)
  · have hy : scope.names.lookup y = some .cell ∨ scope.names.lookup y = some .free := hy
    rcases hy with hy | hy
    · exact Zly hy
    · exact absurd rfl (S.nofree _ (PySem.mem_of_lookup hy))
  · exact Nat.le_of_lt (x.above y c (PySem.mem_of_lookup h))
  · have hi : i < vs.length := by
      unfold start at h2
      by_cases hi : i < vs.length
      · exact hi
      · rw [List.getElem?_append_right (by simpa using hi)] at h2
        rw [List.getElem?_replicate] at h2
        split at h2 <;> cases h2
    have ha : vs[i]? = some v := by
      unfold start at h2
      rw [List.getElem?_append_left (by simpa using hi), List.getElem?_map] at h2
      cases e : vs[i]? with
      | none => rw [e] at h2; cases h2
      | some a => rw [e] at h2; cases h2; rfl
    obtain ⟨u, hu, rv⟩ := r.get ha
    have hp : ps[i]? = some y := by
      rw [← S.pre, List.getElem?_take_of_lt (by omega)]; exact h1
    have ndP : ps.Nodup := by rw [← S.pre]; exact S.nd.sublist (List.take_sublist _ _)
    refine ⟨u, rv, ?_⟩
    rcases S.par y (List.mem_of_getElem? hp) with k | k
    · exact .inl ⟨k, Zjb ndP hp hu k⟩
    · obtain ⟨c, e⟩ := Zly (n := s.heap.objs.size + 1) k
      refine .inr ⟨.inl k, c, e, ?_⟩
      have q := x.cell y c e
      rw [Zjc ndP hp hu (by show scope.names.lookup y ≠ _; rw [k]; decide)] at q
      exact q
  · exact e0.hok.fresh (Nat.le_of_lt (x.above y c (PySem.mem_of_lookup h)))
  · unfold start
    show _ = N.length
    rw [List.length_append, List.length_map, List.length_replicate]
    omega
theorem Zw5 {CX : CXT} {P : Program} {w : World} {K : PySem.W.Frag} {mg : Str → Option Value} {base : Heap} {k : Nat} {f : Addr} {name qual : Str} {params : Arguments} {body : List Stmt} {scope : Scope} {dV kV doc pm cdv ct oc : Value} {an od : Option Addr}
    {osl : Array (Option Value)} {N ps : List Str} {sp : Sp} (lk : K.lookup f = some ⟨oc, od, .func (PySem.W.fnOf name qual params body scope dV kV doc pm an cdv ct), osl⟩) (hcd : PySem.W.codeIn K cdv qual = true) (S : FnScope N ps scope)
    (len : ∀ vs H Q E, sp vs H Q E → vs.length = ps.length)
    (hbody : ∀ (A : Around) (outer : List Env) (s : Shared) (H : Hp) (vs : List V) (Q : VK) (E : XK), Room k (A.deeper (envOfC qual scope s.heap.objs.size f cdv)) → sp vs H Q E →
      ∃ t, PSs (cxOf CX P w K mg base N qual scope f cdv A outer s H E) body t ∧ t { nx := fun _ H' => Q .non H', rt := Q } (start N vs) H) :
    FnOk P w K mg base CX (k + 1) f (PySem.W.fnOf name qual params body scope dV kV doc pm an cdv ct) ps sp := by
  refine ⟨len, fun A outer s H args us vs Q E hr e0 hb r hsp => ?_⟩
  have hl := len _ _ _ _ hsp
  have KX : K.In s.heap := e0.mod.kin.keeps fun b o e => (e0.bs b o e).1
  have lim : s.heap.NoLimit := e0.mod.nolimit.keeps fun b o e => (e0.bs b o e).1
  have hkind : ∀ y ∈ ps.zip us, scope.names.lookup y.1 = some .local ∨ (scope.names.lookup y.1 = some .cell ∧ ((cellsFrom (s.heap.objs.size + 1) scope.names []).lookup y.1).isSome = true) := fun ⟨n, v⟩ hy => by
    rcases S.par n (List.of_mem_zip hy).1 with q | q
    · exact .inl q
    · exact .inr ⟨q, PySem.W.cellsFrom_some _ _ _ (.inl q)⟩
  refine codeAny_call_function hr.depth (KX _ _ lk) rfl S.co S.gen rfl (PySem.W.codeRec_of KX hcd) (hb _ _ _ _ ?_)
  refine wpAny_newFunctionEnv_cells S.kind hkind fun env he s1 x => ?_
  subst he
  refine ⟨lim.keeps x.toInCall.keep, codeAny_func ?_⟩
  obtain ⟨t, ht, hq⟩ := hbody A outer s H vs Q E (hr.deeper _) hsp
  have I : Inv (cxOf CX P w K mg base N qual scope f cdv A outer s H E) [] (start N vs) H s1 := Zn6 S hr.hd e0 hl r x
  refine wpAny_mono (ht [] s1 (start N vs) H _ I hq) (fun fl s' hs => ?_) fun e s' hs => hs
  have fin : ∀ {σ' : St} {H' : Hp} {v : V} {u : Value}, Inv (cxOf CX P w K mg base N qual scope f cdv A outer s H E) [] σ' H' s' → RelV v u → Q v H' → CE outer P w H s Q u s' :=
    fun {σ' H' v u} J rv q => ⟨v, H', J.os, J.bare, J.base, J.hok, rv, q⟩
  cases fl with
  | ret u =>
    obtain ⟨v, σ', H', J, rv, q⟩ := hs
    exact fin J rv q
  | next =>
    obtain ⟨σ', H', J, q⟩ := hs
    exact fin (v := V.non) (u := Value.none) J rfl q
  | brk =>
    obtain ⟨_, _, _, q⟩ := hs
    exact False.elim q
  | cont =>
    obtain ⟨_, _, _, q⟩ := hs
    exact False.elim q
end L2
namespace L2
open PySem PySem.Spec PyProof.Rows
section
variable {X : Cx} {x : Str} {p pos : Pos} {e : Expr} {es : List Expr} {t : TA} {id T : String} {r : List V → Hp → VK → Prop}
noncomputable def tCB (r : List V → Hp → VK → Prop) (t : TA) : TE := fun σ H Q => t σ H fun vs H1 => r vs H1 Q
theorem Zf9 (hc : Zes X (.builtin id) r) (hg : Gl X x) (hm : X.mg x = none) (hv : bootBuiltins x = some (.builtin id)) (ha : PA X (e :: es) t) (hn : x ≠ "__name__" := by decide) (hdb : (x == ("__debug__" : Str)) = false := by decide)
    (he : starEach (e :: es) X.env = (false, eval e X.env) :: starEach es X.env := by rfl) (hpl : (backTo pos (starEach es X.env)).any (·.1) = false := by rfl) : PE X (.Call (.Name x p) (e :: es) [] pos) (tCB r t) := by
  intro pins s σ H Q I h
  refine wpAny_Call_Name_kw (Zlw I hg hm hv ?_ hn hdb)
  exact PyProof.Rows.callWith_builtin1 (thn (ha pos pins s σ H _ I h) fun us s1 ⟨vs, H1, I1, r1, q1⟩ => hc pins s1 σ H1 vs us Q I1 r1 q1) he hpl
theorem Zjd (hc : Zes X (.type T) r) (hg : Gl X x) (hm : X.mg x = none) (hv : bootBuiltins x = some (.type T)) (ha : PA X (e :: es) t) (hn : x ≠ "__name__" := by decide) (hdb : (x == ("__debug__" : Str)) = false := by decide)
    (he : starEach (e :: es) X.env = (false, eval e X.env) :: starEach es X.env := by rfl) (hpl : (backTo pos (starEach es X.env)).any (·.1) = false := by rfl) : PE X (.Call (.Name x p) (e :: es) [] pos) (tCB r t) := by
  intro pins s σ H Q I h
  refine wpAny_Call_Name_kw (Zlw I hg hm hv ?_ hn hdb)
  exact PyProof.Rows.callWith_type1 (thn (ha pos pins s σ H _ I h) fun us s1 ⟨vs, H1, I1, r1, q1⟩ => hc pins s1 σ H1 vs us Q I1 r1 q1) he hpl
end
end L2
namespace HT
open PySem PyProof.Rows
noncomputable def Zm3 : List Int → List Int → Bool
  | [], [] => false
  | [], _ :: _ => true
  | _ :: _, [] => false
  | x :: xs, y :: ys => if x = y then Zm3 xs ys else decide (x < y)
theorem Zv8 (x y : Int) (xs ys : List Int) : Zm3 (x :: xs) (y :: ys) = if x = y then Zm3 xs ys else decide (x < y) := rfl
theorem Zqu : Zm3 [] [] = false := rfl
theorem Zqj (y : Int) (ys : List Int) : Zm3 [] (y :: ys) = true := rfl
theorem Zqk (x : Int) (xs : List Int) : Zm3 (x :: xs) [] = false := rfl
section
open PySem.SeqAt
open PySem.AutoSeq1 (wpAny_loadPart')
open PySem.MeetsSeq PySem.MeetsSeq2 PySem.MeetsSeq3
end
section
variable {prog : Program} {w : World} {A : Around} {E : Value → Shared → Prop} {s : Shared}
noncomputable def sIx (n d : Nat) : Option Int → Nat
  | none => d
  | some v => if v < 0 then (v + (n : Int)).toNat else min v.toNat n
theorem sIx_none (n d : Nat) : sIx n d none = d := rfl
theorem sIx_nat (n d k : Nat) : sIx n d (some (k : Int)) = min k n := by
  show (if (k : Int) < 0 then ((k : Int) + (n : Int)).toNat else min (k : Int).toNat n) = min k n
  rw [if_neg (by omega), Int.toNat_natCast]
end
end HT
namespace L2
open PySem PySem.Spec PyProof.Rows
noncomputable abbrev TO := St → Hp → (Option Int → Hp → Prop) → Prop
noncomputable def PO (X : Cx) (e : Option Expr) (t : TO) : Prop :=
  ∀ (pins : List (Addr × Obj)) (s : Shared) (σ : St) (H : Hp) (Q : Option Int → Hp → Prop), Inv X pins σ H s → t σ H Q →
    wpAny (model X.prog X.w) X.A (evalPart e X.env) (fun u s' => ∃ o H', Inv X pins σ H' s' ∧ IsPart u o ∧ Q o H') X.xe s
noncomputable def Zn7 : TO := fun _ H Q => Q none H
noncomputable def Zw6 (t : TE) : TO := fun σ H Q => t σ H fun x H1 => ∃ i, x = .int i ∧ Q (some i) H1
section
variable {X : Cx} {e : Expr} {te : TE} {lo hi : Option Expr} {tl th : TO} {pos p2 : Pos}
theorem Zt1 : PO X none Zn7 := by
  intro pins s σ H Q I h
  rw [evalPart_none]
  exact wpAny_pure ⟨none, H, I, .none, h⟩
theorem Zt2 (h : PE X e te) : PO X (some e) (Zw6 te) := by
  intro pins s σ H Q I hw
  rw [evalPart_some]
  refine thn (h pins s σ H _ I hw) fun u s1 ⟨x, H1, I1, r1, q1⟩ => ?_
  obtain ⟨i, rfl, q⟩ := q1
  obtain ⟨t, rfl⟩ := r1
  exact ⟨some i, H1, I1, .int i t, q⟩
noncomputable def SlR (X : Cx) (r : V → Option Int → Option Int → Hp → VK → Prop) : Prop :=
  ∀ (pins : List (Addr × Obj)) (s : Shared) (σ : St) (H : Hp) (x : V) (v vl vu : Value) (lo hi : Option Int) (sl : Addr) (Q : VK), Inv X pins σ H s → RelV x v → s.heap.IsSliceOf sl vl vu .none → IsPart vl lo → IsPart vu hi → r x lo hi H Q →
    ∃ T id, typeLookup (.type T) "__getitem__" = pure (some (.builtin id)) ∧ s.TypeIs v T ∧ wpAny (model X.prog X.w) X.A (getItem v (.ref sl)) (EP X pins σ Q) X.xe s
theorem SlR.or {r r' : V → Option Int → Option Int → Hp → VK → Prop} (h : SlR X r) (h' : SlR X r') : SlR X (fun x lo hi H Q => r x lo hi H Q ∨ r' x lo hi H Q) := by
  intro pins s σ H x v vl vu lo hi sl Q I rx hs pl pu q
  rcases q with q | q
  · exact h pins s σ H x v vl vu lo hi sl Q I rx hs pl pu q
  · exact h' pins s σ H x v vl vu lo hi sl Q I rx hs pl pu q
noncomputable def tSl (r : V → Option Int → Option Int → Hp → VK → Prop) (te : TE) (tl th : TO) : TE := fun σ H Q => te σ H fun x H1 => tl σ H1 fun l H2 => th σ H2 fun u H3 => r x l u H3 Q
theorem Zqv {r : V → Option Int → Option Int → Hp → VK → Prop} (hr : SlR X r) (he : PE X e te) (hl : PO X lo tl) (hu : PO X hi th) : PE X (.Subscript e (.Slice lo hi none p2) pos) (tSl r te tl th) := by
  intro pins s σ H Q I h
  refine Subscript_ (thn (he pins s σ H _ I h) fun v s1 ⟨x, H1, I1, r1, q1⟩ => ?_)
  refine wpAny_Slice (thn (hl pins s1 σ H1 _ I1 q1) fun vl s2 ⟨l, H2, I2, pl, q2⟩ => thn (hu pins s2 σ H2 _ I2 q2) fun vu s3 ⟨u, H3, I3, pu, q3⟩ => ?_)
  rw [evalPart_none]
  refine wpAny_pure ?_
  have I4 : Inv X pins σ H3 { s3 with heap := s3.heap.push { cls := .type "slice", data := .fields #[vl, vu, .none] } } := I3.kept (t' := s3.toks) fun b ob q => Heap.get?_push_of_some _ q
  obtain ⟨T, id, hT, ht, hg⟩ := hr pins { s3 with heap := s3.heap.push { cls := .type "slice", data := .fields #[vl, vu, .none] } } σ H3 x v vl vu l u s3.heap.objs.size Q I4 r1 (Heap.IsSliceOf.new ..) pl pu q3
  show wpAny (model X.prog X.w) X.A (subscriptTail e (.Slice lo hi none p2) v (.ref s3.heap.objs.size)) (EP X pins σ Q) X.xe { s3 with heap := s3.heap.push { cls := .type "slice", data := .fields #[vl, vu, .none] } }
  exact tail_any (ops := [.ref s3.heap.objs.size, v]) ht hT hg (by with_unfolding_all rfl)
noncomputable def cutV (xs : List V) (lo hi : Option Int) : List V := (xs.drop (HT.sIx xs.length 0 lo)).take (HT.sIx xs.length xs.length hi - HT.sIx xs.length 0 lo)
theorem Zkt (xs : List V) (lo hi : Option Int) : (cutV xs lo hi).length ≤ xs.length := by
  unfold cutV
  rw [List.length_take, List.length_drop]
  omega
end
end L2
namespace L2
open PySem PySem.Spec PyProof.Rows
noncomputable def ixN (n : Nat) (i : Int) : Option Nat := if 0 ≤ i then (if i < n then some i.toNat else none) else if -(n : Int) ≤ i then some (i + n).toNat else none
noncomputable def atI {α : Type} (xs : List α) (i : Int) : Option α := (ixN xs.length i).bind fun j => xs[j]?
theorem Zt3 {n : Nat} {i : Int} {j : Nat} (h : ixN n i = some j) : seqIndex? i n = some j ∧ j < n ∧ -(n : Int) ≤ i ∧ i < n := by
  unfold ixN at h
  by_cases h0 : 0 ≤ i
  · rw [if_pos h0] at h
    by_cases h1 : i < n
    · rw [if_pos h1] at h
      have e : i.toNat = j := Option.some.inj h
      exact ⟨by rw [seqIndex_of h0 h1, e], by omega, by omega, h1⟩
    · rw [if_neg h1] at h; cases h
  · rw [if_neg h0] at h
    by_cases h1 : -(n : Int) ≤ i
    · rw [if_pos h1] at h
      have e : (i + n).toNat = j := Option.some.inj h
      exact ⟨by rw [seqIndex_neg (by omega) h1, e], by omega, h1, by omega⟩
    · rw [if_neg h1] at h; cases h
theorem Zku {α : Type} {xs : List α} {i : Int} {v : α} (h : atI xs i = some v) : ∃ j, seqIndex? i xs.length = some j ∧ xs[j]? = some v ∧ j < xs.length ∧ -(xs.length : Int) ≤ i ∧ i < xs.length := by
  unfold atI at h
  cases e : ixN xs.length i with
  | none => rw [e] at h; cases h
  | some j =>
    rw [e] at h
    obtain ⟨h1, h2, h3, h4⟩ := Zt3 e
    exact ⟨j, h1, h, h2, h3, h4⟩
theorem Zt4 {α : Type} {xs : List α} {j : Nat} {v : α} (h : xs[j]? = some v) : atI xs (j : Int) = some v := by
  have hj : j < xs.length := (List.getElem?_eq_some_iff.mp h).1
  have e : ixN xs.length (j : Int) = some j := by
    unfold ixN
    rw [if_pos (by omega), if_pos (by omega)]; simp
  unfold atI; rw [e]; exact h
theorem Zlz {α : Type} (xs : List α) (v : α) : atI (xs ++ [v]) (-1) = some v := by
  have hl : (xs ++ [v]).length = xs.length + 1 := by simp
  have e : ixN (xs ++ [v]).length (-1) = some xs.length := by
    unfold ixN
    rw [hl, if_neg (by decide), if_pos (by omega)]
    congr 1
    omega
  unfold atI
  rw [e]
  show (xs ++ [v])[xs.length]? = some v
  simp
noncomputable def Zn8 (b : Expr) : Prop := ∀ o i, subscripted b false o i = operate [o, i] (getItem o i)
noncomputable def IxR (X : Cx) (r : R2) : Prop :=
  ∀ (value slice : Expr) (pins : List (Addr × Obj)) (s : Shared) (σ : St) (H : Hp) (x y : V) (v u : Value) (Q : VK), Inv X pins σ H s → RelV x v → RelV y u → r x y H Q →
    subscripted slice false v u = operate [v, u] (getItem v u) → wpAny (model X.prog X.w) X.A (subscriptTail value slice v u) (EP X pins σ Q) X.xe s
noncomputable def MtR (X : Cx) (id : String) (r : V → List V → Hp → VK → Prop) : Prop :=
  ∀ (pins : List (Addr × Obj)) (s : Shared) (σ : St) (H : Hp) (x : V) (xs : List V) (v : Value) (us : List Value) (Q : VK), Inv X pins σ H s → RelV x v → Vals xs us → r x xs H Q →
    wpAny (model X.prog X.w) X.A (call (.builtin id) (v :: us)) (EP X pins σ Q) X.xe s
section
variable {X : Cx} {a b : Expr} {ta tb : TE} {pos : Pos}
theorem IxR.or {r r' : R2} (h : IxR X r) (h' : IxR X r') : IxR X (fun x y H Q => r x y H Q ∨ r' x y H Q) := by
  intro value slice pins s σ H x y v u Q I rx ry q hs
  rcases q with q | q
  · exact h value slice pins s σ H x y v u Q I rx ry q hs
  · exact h' value slice pins s σ H x y v u Q I rx ry q hs
theorem Zqw {r : R2} (hr : IxR X r) (ha : PE X a ta) (hb : PE X b tb) (hs : Zn8 b) : PE X (.Subscript a b pos) (tOp r ta tb) := by
  intro pins s σ H Q I h
  exact Subscript_ (binT ha hb I h fun v u s2 x y H2 I2 rx ry q => hr a b pins s2 σ H2 x y v u Q I2 rx ry q (hs _ _))
noncomputable def rIxL (K : PySem.W.Frag) : R2 := fun x y H Q => ∃ p xs i v, x = .ref p ∧ y = .int i ∧ SqL K H p xs ∧ atI xs i = some v ∧ Q v H
noncomputable def rIxT (K : PySem.W.Frag) : R2 := fun x y H Q => ∃ p xs i v, x = .ref p ∧ y = .int i ∧ SqT K H p xs ∧ atI xs i = some v ∧ Q v H
noncomputable def rIxS : R2 := fun x y H Q => ∃ z i c, x = .str z ∧ y = .int i ∧ z.length ≤ sizeLine ∧ atI z.cps.toList i = some c ∧ Q (.str ⟨#[c]⟩) H
theorem Zh1 : IxR X (rIxL X.K) := by
  intro value slice pins s σ H x y v u Q I rx ry h hs
  obtain ⟨p, xs, i, z, rfl, rfl, hq, he, q⟩ := h
  cases rx
  obtain ⟨t, rfl⟩ := ry
  obtain ⟨its, r, pl, hz⟩ := I.list hq
  obtain ⟨j, h1, h2, h3, h4, h5⟩ := Zku he
  obtain ⟨w, ew, rw'⟩ := r.get h2
  have hl := r.length
  have hn := Zi8
  have fin : EP X pins σ Q w s := ⟨z, H, I, rw', q⟩
  by_cases h0 : 0 ≤ i
  · have hj : i.toNat = j := by
      rw [seqIndex_of h0 h5] at h1
      exact Option.some.inj h1
    exact item_listR pl.isList h0 (by omega) (by rw [hj]; simpa using ew) fin hs
  · have hj : (i + (its.toArray.size : Int)).toNat = j := by
      rw [seqIndex_neg (by omega) h4] at h1
      rw [List.size_toArray, ← hl]
      exact Option.some.inj h1
    exact subscriptTail_builtinR (x := w) pl.isList.typeIs slot_list_getitem.lookup
      (wpAny_getItem_list_neg (Q := fun r s' => r = w ∧ EP X pins σ Q r s') pl.isList (by omega) (by rw [List.size_toArray] <;> omega) (by omega) (by rw [hj]; simpa using ew) ⟨rfl, fin⟩) hs
theorem Zw7 : IxR X (rIxT X.K) := by
  intro value slice pins s σ H x y v u Q I rx ry h hs
  obtain ⟨p, xs, i, z, rfl, rfl, hq, he, q⟩ := h
  cases rx
  obtain ⟨t, rfl⟩ := ry
  obtain ⟨its, r, pl, hz⟩ := I.tuple hq
  obtain ⟨j, h1, h2, h3, h4, h5⟩ := Zku he
  obtain ⟨w, ew, rw'⟩ := r.get h2
  have hl := r.length
  have hn := Zi8
  have fin : EP X pins σ Q w s := ⟨z, H, I, rw', q⟩
  exact subscriptTail_builtinR (x := w) pl.typeIs slot_tuple_getitem.lookup
    (getItem_tuple (j := j) (Q := fun r s' => r = w ∧ EP X pins σ Q r s') pl (by omega) (by omega) (by rw [List.size_toArray, ← hl]; exact h1) (by simpa using ew) ⟨rfl, fin⟩) hs
theorem Zw8 : IxR X rIxS := by
  intro value slice pins s σ H x y v u Q I rx ry h hs
  obtain ⟨z, i, c, rfl, rfl, hz, he, q⟩ := h
  obtain ⟨t, rfl⟩ := rx
  obtain ⟨t', rfl⟩ := ry
  obtain ⟨j, h1, h2, h3, h4, h5⟩ := Zku he
  have hl : z.cps.toList.length = z.length := by simp [Str.length]
  rw [hl] at h1 h4 h5
  have hn := Zi8
  exact tail_any (typeIs_str s z t) slot_str_getitem.lookup (getItem_str (c := c) (by
    have e1 : decide (i < -(2 ^ 63 : Int)) = false := decide_eq_false (by omega)
    have e2 : decide (i ≥ 2 ^ 63) = false := decide_eq_false (by omega)
    rw [e1, e2, Bool.or_false]) (by rw [h1]; simpa using h2) ⟨.str ⟨#[c]⟩, H, I.tok _, ⟨_, rfl⟩, q⟩) hs
noncomputable def rIx (K : PySem.W.Frag) : R2 := fun x y H Q => rIxL K x y H Q ∨ rIxT K x y H Q ∨ rIxS x y H Q
theorem Zw9 : IxR X (rIx X.K) := Zh1.or (Zw7.or Zw8)
theorem Zje (lo hi : Option Int) (n : Nat) : (sliceBounds lo hi none n).1 = ((HT.sIx n 0 lo : Nat) : Int) ∧ (sliceBounds lo hi none n).2.1 = ((HT.sIx n n hi : Nat) : Int) ∧ (sliceBounds lo hi none n).2.2 = 1 := by
  refine ⟨?_, ?_, rfl⟩
  · cases lo with
    | none => simp [sliceBounds, HT.sIx]
    | some i =>
      simp only [sliceBounds, HT.sIx, Option.getD_none, show (1 : Int) > 0 by decide, if_true]
      by_cases h : i < 0
      · simp only [h, if_true] <;> omega
      · simp only [h, if_false] <;> omega
  · cases hi with
    | none => simp [sliceBounds, HT.sIx]
    | some i =>
      simp only [sliceBounds, HT.sIx, Option.getD_none, show (1 : Int) > 0 by decide, if_true]
      by_cases h : i < 0
      · simp only [h, if_true] <;> omega
      · simp only [h, if_false] <;> omega
theorem Zh2 (its : List Value) (lo hi : Option Int) : slicePick its.toArray lo hi none = ((its.drop (HT.sIx its.length 0 lo)).take (HT.sIx its.length its.length hi - HT.sIx its.length 0 lo)).toArray := by
  obtain ⟨h1, h2, h3⟩ := Zje lo hi its.toArray.size
  unfold slicePick
  rw [h1, h2, h3]
  simp only [sliceRange_one, pick_run, List.size_toArray] <;> rfl
noncomputable def rSlL (K : PySem.W.Frag) : V → Option Int → Option Int → Hp → VK → Prop := fun x lo hi H Q => ∃ a xs, x = .ref a ∧ SqL K H a xs ∧ ∀ p, H p = none → Q (.ref p) (upd H p (.lst (cutV xs lo hi)))
theorem Zt5 : SlR X (rSlL X.K) := by
  intro pins s σ H x v vl vu lo hi sl Q I rx hs pl pu h
  obtain ⟨a, xs, rfl, hx, q⟩ := h
  cases rx
  obtain ⟨its, r, ht, hz⟩ := I.list hx
  have hlen := r.length
  refine ⟨"list", _, slot_list_getitem.lookup, ht.isList.typeIs, ?_⟩
  refine wpAny_getItem_list_slice ht.isList hs pl pu .none (by simp) ?_ (by rw [List.size_toArray] <;> omega)
  rw [Zh2, ← hlen]
  refine ⟨.ref s.heap.objs.size, _, I.laid (t' := s.toks) (o := .lst (cutV xs lo hi)) (fun b ob q => Heap.get?_push_of_some _ q) (Nat.le_refl _) ?_, rfl, q _ (I.hok.fresh (Nat.le_refl _))⟩
  exact ⟨Nat.le_trans (Zkt xs lo hi) hz, _, 0, (r.drop (HT.sIx xs.length 0 lo)).take (HT.sIx xs.length xs.length hi - HT.sIx xs.length 0 lo), Heap.get?_push_size _ rfl⟩
noncomputable def Zca : V → Bool
  | .non => true
  | .bl _ => true
  | .int _ => true
  | .str _ => true
  | _ => false
noncomputable def eqV : V → V → Bool
  | .non, .non => true
  | .bl a, .bl b => a == b
  | .bl a, .int b => (if a then 1 else 0) == b
  | .int a, .bl b => a == (if b then 1 else 0)
  | .int a, .int b => a == b
  | .str a, .str b => a == b
  | _, _ => false
theorem Zsr {A : Around} {s : Shared} {y x : V} {u v : Value} (ry : RelV y u) (rx : RelV x v) (fy : Zca y = true) (fx : Zca x = true) : SeqAt.EqAt A s u v (eqV y x) := by
  cases y with
  | non =>
    cases ry
    cases x with
    | non => cases rx; exact SeqAt.EqAt.same _
    | bl b => cases rx; exact SeqAt.EqAt.none_bool b
    | int b => obtain ⟨t, rfl⟩ := rx; exact SeqAt.EqAt.none_int b t
    | str b => obtain ⟨t, rfl⟩ := rx; exact SeqAt.EqAt.none_str b t
    | _ => exact absurd (show false = true from fx) Bool.false_ne_true
  | bl a =>
    cases ry
    cases x with
    | non => cases rx; exact SeqAt.EqAt.bool_none a
    | bl b => cases rx; exact SeqAt.EqAt.bool_bool a b
    | int b => obtain ⟨t, rfl⟩ := rx; exact SeqAt.EqAt.bool_int a b t
    | str b => obtain ⟨t, rfl⟩ := rx; exact SeqAt.EqAt.bool_str a b t
    | _ => exact absurd (show false = true from fx) Bool.false_ne_true
  | int a =>
    obtain ⟨t', rfl⟩ := ry
    cases x with
    | non => cases rx; exact SeqAt.EqAt.int_none a t'
    | bl b => cases rx; exact SeqAt.EqAt.int_bool a t' b
    | int b => obtain ⟨t, rfl⟩ := rx; exact SeqAt.EqAt.int_int a t' b t
    | str b => obtain ⟨t, rfl⟩ := rx; exact SeqAt.EqAt.int_str a t' b t
    | _ => exact absurd (show false = true from fx) Bool.false_ne_true
  | str a =>
    obtain ⟨t', rfl⟩ := ry
    cases x with
    | non => cases rx; exact SeqAt.EqAt.str_none a t'
    | bl b => cases rx; exact SeqAt.EqAt.str_bool a t' b
    | int b => obtain ⟨t, rfl⟩ := rx; exact SeqAt.EqAt.str_int a t' b t
    | str b => obtain ⟨t, rfl⟩ := rx; exact SeqAt.EqAt.str_str a t' b t
    | _ => exact absurd (show false = true from fx) Bool.false_ne_true
  | _ => exact absurd (show false = true from fy) Bool.false_ne_true
noncomputable def eqU (x : V) (u : Value) : Bool := match u with
  | .none => eqV .non x
  | .bool b => eqV (.bl b) x
  | .int i _ => eqV (.int i) x
  | .str z _ => eqV (.str z) x
  | _ => false
theorem Zss {x y : V} {u : Value} (r : RelV y u) (f : Zca y = true) : eqU x u = eqV y x := by
  cases y with
  | non => cases r; rfl
  | bl b => cases r; rfl
  | int i => obtain ⟨t, rfl⟩ := r; rfl
  | str z => obtain ⟨t, rfl⟩ := r; rfl
  | _ => exact absurd (show false = true from f) Bool.false_ne_true
theorem Zkv {x : V} : ∀ {xs : List V} {us : List Value}, Vals xs us → xs.all Zca = true → us.any (eqU x) = xs.any fun y => eqV y x
  | _, _, .nil, _ => rfl
  | y :: xs, u :: us, .cons r t, f => by
    rw [List.all_cons, Bool.and_eq_true] at f
    rw [List.any_cons, List.any_cons, Zss r f.1, Zkv t f.2]
theorem Zh3 {A : Around} {s : Shared} {x : V} {v : Value} (rx : RelV x v) (fx : Zca x = true) : ∀ {xs : List V} {us : List Value}, Vals xs us → xs.all Zca = true → ∀ u ∈ us, SeqAt.EqAt A s u v (eqU x u)
  | _, _, .nil, _ => fun u hu => by cases hu
  | y :: xs, u :: us, .cons r t, f => fun u' hu => by
    rw [List.all_cons, Bool.and_eq_true] at f
    rcases List.mem_cons.mp hu with rfl | hu
    · rw [Zss r f.1]; exact Zsr r rx f.1 fx
    · exact Zh3 rx fx t f.2 u' hu
noncomputable def inV (x : V) (xs : List V) : Bool := xs.any fun y => eqV y x
noncomputable def rIn (K : PySem.W.Frag) (neg : Bool) : R2 := fun x y H Q => ∃ p xs, y = .ref p ∧ (SqL K H p xs ∨ SqT K H p xs) ∧ Zca x = true ∧ xs.all Zca = true ∧ Q (.bl (if neg then !inV x xs else inV x xs)) H
theorem Zjf : OpR X (compareOp .In) (rIn X.K false) := by
  intro pins s σ H x y v u Q I rx ry h
  obtain ⟨p, xs, rfl, hq, fx, fs, q⟩ := h
  cases ry
  rcases hq with hq | hq
  · obtain ⟨its, r, pl, hz⟩ := I.list hq
    refine SeqAt.in_listAt (eqU x) pl.isList (fun w hw => Zh3 rx fx r fs w (by simpa using hw)) ⟨.bl _, H, I, rfl, ?_⟩
    rw [show its.toArray.any (eqU x) = its.any (eqU x) by simp, Zkv r fs]
    exact q
  · obtain ⟨its, r, pl, hz⟩ := I.tuple hq
    refine SeqAt.in_tupleAt (eqU x) pl (fun w hw => Zh3 rx fx r fs w (by simpa using hw)) ⟨.bl _, H, I, rfl, ?_⟩
    rw [show its.toArray.any (eqU x) = its.any (eqU x) by simp, Zkv r fs]
    exact q
theorem Zdy : Zes X (.builtin "len") (fun xs H Q => ∃ p ys, xs = [.ref p] ∧ (SqL X.K H p ys ∨ SqT X.K H p ys) ∧ Q (.int ys.length) H) := by
  intro pins s σ H xs us Q I r h
  obtain ⟨p, ys, rfl, hq, q⟩ := h
  obtain ⟨u, rfl, rx⟩ := Zf2 r
  cases rx
  have hn := Zi8
  rcases hq with hq | hq
  · obtain ⟨its, r', pl, hz⟩ := I.list hq
    have hlen := r'.length
    exact Calls.call_len_list pl.isList (by simp only [List.size_toArray] <;> omega) ⟨.int ys.length, H, I.tok _, ⟨s.toks + 1, by rw [List.size_toArray, hlen]⟩, q⟩
  · obtain ⟨its, r', pl, hz⟩ := I.tuple hq
    have hlen := r'.length
    exact len_tuple pl (by simp only [List.size_toArray] <;> omega) ⟨.int ys.length, H, I.tok _, ⟨s.toks + 1, by rw [List.size_toArray, hlen]⟩, q⟩
theorem Zjg : Zes X (.builtin "len") (fun xs H Q => ∃ z, xs = [.str z] ∧ z.length ≤ sizeLine ∧ Q (.int z.length) H) := by
  intro pins s σ H xs us Q I r h
  obtain ⟨z, rfl, hz, q⟩ := h
  obtain ⟨u, rfl, t, rfl⟩ := Zf2 r
  have hn := Zi8
  exact len_str (by omega) ⟨.int z.length, H, I.tok _, ⟨_, rfl⟩, q⟩
theorem Zes.or {f : Value} {r r' : List V → Hp → VK → Prop} (h : Zes X f r) (h' : Zes X f r') : Zes X f (fun xs H Q => r xs H Q ∨ r' xs H Q) := by
  intro pins s σ H xs us Q I rs q
  rcases q with q | q
  · exact h pins s σ H xs us Q I rs q
  · exact h' pins s σ H xs us Q I rs q
theorem Ze5 : Zes X (.type "tuple") (fun xs H Q => ∃ p ys, xs = [.ref p] ∧ ((SqL X.K H p ys ∧ ∀ l, H l = none → Q (.ref l) (upd H l (.tup ys))) ∨ (SqT X.K H p ys ∧ Q (.ref p) H))) := by
  intro pins s σ H xs us Q I r h
  obtain ⟨p, ys, rfl, h⟩ := h
  obtain ⟨u, rfl, rx⟩ := Zf2 r
  cases rx
  rcases h with ⟨hq, q⟩ | ⟨hq, q⟩
  · obtain ⟨its, r', pl, hz⟩ := I.list hq
    have hlen := r'.length
    refine call_tuple_list pl.isList (fun h' kp => ?_) (by simp only [List.size_toArray] <;> omega)
    have I1 : Inv X pins σ H { s with heap := h' } := I.kept (t' := s.toks) kp
    have I2 : Inv X pins σ (upd H h'.objs.size (.tup ys)) { s with heap := h'.push { cls := .type "tuple", data := .seq its.toArray } } :=
      I1.laid (t' := s.toks) (fun b o e => Heap.get?_push_of_some _ e) (Nat.le_refl _) (show Zcp X.prog X.w _ _ _ (.tup ys) from ⟨hz, its, r', IsTup.new _ _⟩)
    exact ⟨.ref h'.objs.size, _, I2, rfl, q _ (I1.hok.fresh (Nat.le_refl _))⟩
  · obtain ⟨its, r', pl, hz⟩ := I.tuple hq
    exact call_tuple_same pl ⟨.ref p, H, I, rfl, q⟩
noncomputable def tyV (K : PySem.W.Frag) (T : String) (x : V) (H : Hp) : Prop := match x with
  | .str _ => T = "str"
  | .int _ => T = "int"
  | .ref p => (T = "list" ∧ ∃ xs, SqL K H p xs) ∨ (T = "tuple" ∧ ∃ o, K.lookup p = some o ∧ o.cls = .type "tuple" ∧ o.dict = none) ∨
      (T = "dict" ∧ ((∃ kvs, HK H p kvs) ∨ ∃ kvs, HTt H p kvs)) ∨ (T = "set" ∧ ∃ S n, H p = some (.set S n))
  | _ => False
theorem Zst {pins : List (Addr × Obj)} {σ : St} {H : Hp} {s : Shared} {T : String} {x : V} {v : Value} (I : Inv X pins σ H s) (r : RelV x v) (ty : tyV X.K T x H) :
    s.TypeIs v T ∧ ∀ a, v = .ref a → ∃ ob, s.heap.get? a = some ob ∧ ob.dict = none := by
  cases x with
  | str z =>
    obtain ⟨t, rfl⟩ := r
    cases (show T = "str" from ty)
    exact ⟨typeIs_str s z t, fun _ e => nomatch e⟩
  | int i =>
    obtain ⟨t, rfl⟩ := r
    cases (show T = "int" from ty)
    exact ⟨typeIs_int s i t, fun _ e => nomatch e⟩
  | ref p =>
    cases r
    rcases ty with ⟨rfl, xs, hq⟩ | ⟨rfl, o, hk, hc, hd⟩ | ⟨rfl, hk⟩ | ⟨rfl, S, n, hk⟩
    · obtain ⟨its, _, pl, _⟩ := I.list hq
      refine ⟨pl.isList.typeIs, fun a e => ?_⟩
      cases e
      obtain ⟨o, n, e, c, hd, _⟩ := pl
      exact ⟨o, e, hd⟩
    · refine ⟨⟨o, I.kIn p o hk, hc⟩, fun a e => ?_⟩
      cases e
      exact ⟨o, I.kIn _ o hk, hd⟩
    · have z : ∃ o, s.heap.get? p = some o ∧ o.ExactDict := by
        rcases hk with ⟨kvs, ep, hk⟩ | ⟨kvs, ep, bs, hk⟩
        · obtain ⟨_, _, _, _, o, _, e, ex, _⟩ := I.hok p _ hk
          exact ⟨o, e, ex⟩
        · obtain ⟨_, _, _, _, o, _, e, ex, _⟩ := I.hok p _ hk
          exact ⟨o, e, ex⟩
      obtain ⟨o, e, ex⟩ := z
      refine ⟨⟨o, e, ex.1⟩, fun a e2 => ?_⟩
      cases e2
      exact ⟨o, e, ex.2.1⟩
    · obtain ⟨o, _, _, _, e, ex, _⟩ := I.hok p _ hk
      refine ⟨⟨o, e, ex.1⟩, fun a e2 => ?_⟩
      cases e2
      exact ⟨o, e, ex.2.1⟩
  | _ => exact False.elim ty
noncomputable def tBM0 (K : PySem.W.Frag) (T : String) (r : V → List V → Hp → VK → Prop) (to : TE) : TE := fun σ H Q => to σ H fun x H1 => tyV K T x H1 ∧ r x [] H1 Q
noncomputable def tBM (K : PySem.W.Frag) (T : String) (r : V → List V → Hp → VK → Prop) (to : TE) (t : TA) : TE := fun σ H Q => to σ H fun x H1 => tyV K T x H1 ∧ t σ H1 fun xs H2 => r x xs H2 Q
variable {o e : Expr} {es : List Expr} {to : TE} {t : TA} {name : Str} {apos cpos : Pos} {T id : String} {r : V → List V → Hp → VK → Prop}
theorem Zxa (pa : PlainAttrs T) (slot : Slot T name id) (hty : typeOf (.builtin id) = pure (.type "method_descriptor")) (hm : MtR X id r) (ho : PE X o to)
    (hbase : attributeBase o name X.env (eval o X.env) = eval o X.env := by rfl) (hline : (apos.endLine == cpos.line) = true := by rfl) : PE X (.Call (.Attribute o name apos) [] [] cpos) (tBM0 X.K T r to) := by
  intro pins s σ H Q I h
  refine wpAny_Call_method0_late hbase hline (thn (ho pins s σ H _ I h) fun v s1 ⟨x, H1, I1, r1, ty, q1⟩ => ?_)
  obtain ⟨h1, h2⟩ := Zst I1 r1 ty
  exact ⟨T, id, pa, slot, hty, h1, h2, Calls.callWith_builtin rfl (PySem.evalArgs_none (hm pins s1 σ H1 x [] v [] Q I1 r1 .nil q1))⟩
theorem Zkw (pa : PlainAttrs T) (slot : Slot T name id) (hty : typeOf (.builtin id) = pure (.type "method_descriptor")) (hm : MtR X id r) (ho : PE X o to) (ha : PA X (e :: es) t)
    (hbase : attributeBase o name X.env (eval o X.env) = eval o X.env := by rfl)
    (hfew : ((backTo cpos (starEach (e :: es) X.env)).all (fun x => !x.1) && (backToKw cpos (keywordEach [] X.env)).all (fun x => x.1.isSome)
      && decide ((e :: es).length + ([] : List Keyword).length + (if ([] : List Keyword).isEmpty then 0 else 1) < 30)) = true := by rfl)
    (hline : (apos.endLine == cpos.line) = true := by rfl) (hs : starEach (e :: es) X.env = (false, eval e X.env) :: starEach es X.env := by rfl) (hplain : (backTo cpos (starEach es X.env)).any (·.1) = false := by rfl) :
    PE X (.Call (.Attribute o name apos) (e :: es) [] cpos) (tBM X.K T r to t) := by
  intro pins s σ H Q I h
  refine wpAny_Call_method_late hbase hfew hline rfl (thn (ho pins s σ H _ I h) fun v s1 ⟨x, H1, I1, r1, ty, q1⟩ => ?_)
  obtain ⟨h1, h2⟩ := Zst I1 r1 ty
  refine ⟨T, id, pa, slot, hty, h1, h2, ?_⟩
  have hA := ha cpos pins s1 σ H1 _ I1 q1
  rw [hs] at hA ⊢
  refine Calls.callWith_builtin (by show (false || (backTo cpos (starEach es X.env)).any (·.1)) = false; rw [hplain] <;> rfl) (Calls.evalArgs_plain ?_)
  exact thn hA fun us s2 ⟨vs, H2, I2, r2, q2⟩ => hm pins s2 σ H2 x vs v us Q I2 r1 r2 q2
end
end L2
namespace L2
open PySem PySem.Spec PyProof.Rows
noncomputable def MtM (X : Cx) (id : String) (r : V → List V → Hp → VK → Prop) : Prop :=
  ∀ (pins : List (Addr × Obj)) (s : Shared) (σ : St) (H : Hp) (x : V) (xs : List V) (v : Value) (us : List Value) (Q : VK), Inv X pins σ H s → RelV x v → Vals xs us → r x xs H Q →
    wpAny (model X.prog X.w) X.A (call (.builtin id) (v :: us)) (EP X pins σ Q) X.xe s
theorem Vals.one : ∀ {x : V} {us : List Value}, Vals [x] us → ∃ u, us = [u] ∧ RelV x u
  | _, _, .cons r .nil => ⟨_, rfl, r⟩
theorem Vals.zero : ∀ {us : List Value}, Vals [] us → us = []
  | _, .nil => rfl
theorem Vals.dropLast {xs : List V} {us : List Value} (h : Vals xs us) : Vals xs.dropLast us.dropLast := by
  induction h with
  | nil => exact .nil
  | cons r t ih =>
    cases t with
    | nil => exact .nil
    | cons q t' => exact .cons r ih
theorem Zm4 {α : Type} (l : List α) : l.eraseIdx (l.length - 1) = l.dropLast := by
  induction l with
  | nil => rfl
  | cons a r ih =>
    cases r with
    | nil => rfl
    | cons b r =>
      have e : (a :: b :: r).length - 1 = ((b :: r).length - 1) + 1 := by
        have h1 : (a :: b :: r).length = r.length + 2 := rfl
        have h2 : (b :: r).length = r.length + 1 := rfl
        omega
      rw [e, List.eraseIdx_cons_succ, ih]
      all_goals rfl
section
variable {X : Cx} {pins : List (Addr × Obj)} {σ : St} {H : Hp} {s : Shared} {l b : Addr} {xs ys zs : List V}
theorem Inv.lset {its its' : List Value} {n : Nat} {f : Array Value → Array Value} {t' : Nat} (I : Inv X pins σ H s) (hH : H l = some (.lst xs))
    (e : s.heap.get? l = some { cls := .type "list", data := .seq its.toArray n }) (hf : f its.toArray = its'.toArray) (hv : Vals ys its') (hz : ys.length ≤ sizeLine) :
    Inv X pins σ (upd H l (.lst ys)) { s with heap := s.heap.update l (Obj.mapSeq f), toks := t' } := by
  have q := PySem.IsL.update e f
  rw [hf] at q
  refine I.write (x := l) (e := l) (by rw [hH]; exact trivial) (.inl rfl) (fun b' u hb hu => (Heap.get?_update_other s.heap (Obj.mapSeq f) (Ne.symm hb)).trans hu) ⟨_, q⟩ ?_
  exact ⟨hz, its', _, hv, q⟩
theorem Inv.lnew {its : List Value} {t' : Nat} (I : Inv X pins σ H s) (hv : Vals ys its) (hz : ys.length ≤ sizeLine) :
    Inv X pins σ (upd H s.heap.objs.size (.lst ys)) { s with heap := s.heap.push { cls := .type "list", data := .seq its.toArray }, toks := t' } :=
  I.laid (fun _ _ q => Heap.get?_push_of_some _ q) (Nat.le_refl _) ⟨hz, its, 0, hv, Heap.get?_push_size _ rfl⟩
theorem Inv.fresh (I : Inv X pins σ H s) : H s.heap.objs.size = none := I.hok.fresh (Nat.le_refl _)
theorem Inv.lstM (I : Inv X pins σ H s) (hH : H l = some (.lst xs)) : xs.length ≤ sizeLine ∧ ∃ (its : List Value) (n : Nat), Vals xs its ∧ xs.length = its.length ∧ s.heap.get? l = some { cls := .type "list", data := .seq its.toArray n } := by
  obtain ⟨z, its, n, r, e⟩ := I.hok l _ hH
  exact ⟨z, its, n, r, r.length, e⟩
end
section
variable {X : Cx}
noncomputable def Zdz : V → List V → Hp → VK → Prop := fun x vs H Q => ∃ l xs y, x = .ref l ∧ vs = [y] ∧ H l = some (.lst xs) ∧ xs.length < sizeLine ∧ Q .non (upd H l (.lst (xs ++ [y])))
theorem Zd0 : MtM X "list.append" Zdz := by
  intro pins s σ H x vs v us Q I rx rv h
  obtain ⟨l, xs, y, rfl, rfl, hH, hz, q⟩ := h
  cases rx
  obtain ⟨u, rfl, ru⟩ := rv.one
  obtain ⟨z, its, n, r, hl, e⟩ := I.lstM hH
  refine call_meets F.slot_list_append ⟨_, e, rfl⟩ F.entry_list_append (F.args_list_append_2 _ _) (PySem.list_append l its.toArray n u (by rw [List.size_toArray]; omega)) ⟨e, ?_⟩
  refine ⟨.non, _, I.lset (its' := its ++ [u]) hH e (by simp) (r.append (.cons ru .nil)) ?_, rfl, q⟩
  rw [List.length_append, List.length_singleton]
  omega
noncomputable def rPop : V → List V → Hp → VK → Prop := fun x vs H Q => ∃ l xs y, x = .ref l ∧ vs = [] ∧ H l = some (.lst xs) ∧ xs[xs.length - 1]? = some y ∧ Q y (upd H l (.lst xs.dropLast))
theorem Zxb : MtM X "list.pop" rPop := by
  intro pins s σ H x vs v us Q I rx rv h
  obtain ⟨l, xs, y, rfl, rfl, hH, hy, q⟩ := h
  cases rx
  have hus := rv.zero
  subst hus
  obtain ⟨z, its, n, r, hl, e⟩ := I.lstM hH
  obtain ⟨u, hu, ru⟩ := r.get hy
  have hy' : its.toArray[its.toArray.size - 1]? = some u := by
    show its.toArray[its.length - 1]? = some u
    rw [← Array.getElem?_toList, ← hl]
    exact hu
  refine call_meets F.slot_list_pop ⟨_, e, rfl⟩ F.entry_list_pop (F.args_list_pop_1 _) (MeetsSeq.list_pop_last l its.toArray n u hy' (by rw [List.size_toArray]; omega)) ⟨e, ?_⟩
  refine ⟨y, _, I.lset (its' := its.dropLast) hH e ?_ r.dropLast ?_, ru, q⟩
  · show its.toArray.eraseIdxIfInBounds (its.toArray.size - 1) = its.dropLast.toArray
    rw [List.size_toArray, List.eraseIdxIfInBounds_toArray, Zm4]
  · rw [List.length_dropLast]
    omega
end
section
variable {prog : Program} {w : World} {A : Around} {E : Value → Shared → Prop} {s : Shared}
end
section
variable {X : Cx}
end
end L2
namespace L2
open PySem PySem.Spec PyProof.Rows
section
variable {κ : Type} [DecidableEq κ]
noncomputable def valV (kvs : List (κ × V)) (k : κ) : Option V := (kvs.find? fun kv => decide (kv.1 = k)).map (·.2)
noncomputable def putK (kvs : List (κ × V)) (k : κ) (v : V) : List (κ × V) :=
  if (kvs.any fun kv => decide (kv.1 = k)) = true then kvs.map (fun kv => if kv.1 = k then (kv.1, v) else kv) else kvs ++ [(k, v)]
theorem Zqx {k : κ} : valV ([] : List (κ × V)) k = none := rfl
theorem Zga {p : κ × V} {r : List (κ × V)} {k : κ} (e : p.1 = k) : valV (p :: r) k = some p.2 := by simp [valV, List.find?_cons, e]
theorem Zgb {p : κ × V} {r : List (κ × V)} {k : κ} (e : ¬ p.1 = k) : valV (p :: r) k = valV r k := by simp [valV, List.find?_cons, e]
theorem Zh4 (k : κ) : ∀ kvs : List (κ × V), (kvs.any fun kv => decide (kv.1 = k)) = (valV kvs k).isSome
  | [] => rfl
  | p :: r => by
    rw [List.any_cons]
    by_cases e : p.1 = k
    · simp only [Zga e, decide_eq_true e, Bool.true_or, Option.isSome_some]
    · rw [Zgb e, decide_eq_false e, Bool.false_or]; exact Zh4 k r
theorem Zgj (kvs : List (κ × V)) (k : κ) (v : V) : (putK kvs k v).length ≤ kvs.length + 1 := by
  unfold putK
  split
  · rw [List.length_map]; omega
  · rw [List.length_append, List.length_cons, List.length_nil]; omega
theorem RelO.isSome_eq {o : Option V} {u : Option Value} (r : RelO o u) : o.isSome = u.isSome := by
  cases o with
  | none => cases u with
    | none => rfl
    | some _ => exact (show False from r).elim
  | some _ => cases u with
    | none => exact (show False from r).elim
    | some _ => rfl
theorem RelO.getD {o : Option V} {u : Option Value} {d : V} {d' : Value} (r : RelO o u) (rd : RelV d d') : RelV (o.getD d) (u.getD d') := by
  cases o with
  | none => cases u with
    | none => exact rd
    | some _ => exact (show False from r).elim
  | some _ => cases u with
    | none => exact (show False from r).elim
    | some _ => exact r
theorem KV.val {kvs : List (κ × V)} {vs : List (κ × Value)} (r : KV kvs vs) (k : κ) : RelO (valV kvs k) (valueAt vs k) := by
  unfold KV at r
  induction r with
  | nil => exact True.intro
  | @cons p q ps qs h t ih =>
    obtain ⟨h1, h2⟩ := h
    by_cases e : p.1 = k
    · have e' : q.1 = k := h1.symm.trans e
      have b : valueAt (q :: qs) k = some q.2 := by simp [valueAt, List.find?_cons, e']
      rw [Zga e, b]; exact h2
    · have e' : ¬ q.1 = k := fun z => e (h1.trans z)
      have b : valueAt (q :: qs) k = valueAt qs k := by simp [valueAt, List.find?_cons, e']
      rw [Zgb e, b]; exact ih
theorem KV.any {kvs : List (κ × V)} {vs : List (κ × Value)} (r : KV kvs vs) (k : κ) : (kvs.any fun kv => decide (kv.1 = k)) = vs.any fun kv => decide (kv.1 = k) := by
  unfold KV at r
  induction r with
  | nil => rfl
  | cons h t ih => rw [List.any_cons, List.any_cons, ih, h.1]
theorem KV.repl {kvs : List (κ × V)} {vs : List (κ × Value)} (r : KV kvs vs) (k : κ) {y : V} {u : Value} (ry : RelV y u) :
    KV (kvs.map fun kv => if kv.1 = k then (kv.1, y) else kv) (vs.map fun kv => if kv.1 = k then (kv.1, u) else kv) := by
  unfold KV at r ⊢
  induction r with
  | nil => exact .nil
  | @cons p q ps qs h t ih =>
    rw [List.map_cons, List.map_cons]
    refine .cons ?_ ih
    obtain ⟨h1, h2⟩ := h
    by_cases e : p.1 = k
    · rw [if_pos e, if_pos (h1.symm.trans e)]; exact ⟨h1, ry⟩
    · rw [if_neg e, if_neg (fun z => e (h1.trans z))]; exact ⟨h1, h2⟩
theorem KV.put {kvs : List (κ × V)} {vs : List (κ × Value)} (r : KV kvs vs) (k : κ) {y : V} {u : Value} (ry : RelV y u) : KV (putK kvs k y) (stored vs k u) := by
  unfold putK stored
  rw [r.any k]
  by_cases e : (vs.any fun kv => decide (kv.1 = k)) = true
  · rw [if_pos e, if_pos e]; exact r.repl k ry
  · rw [if_neg e, if_neg e]; exact Paired.snoc r ⟨rfl, ry⟩
theorem KV.length {kvs : List (κ × V)} {vs : List (κ × Value)} (r : KV kvs vs) : kvs.length = vs.length := Paired.length r
end
theorem Zm5 {P : Program} {w : World} {k : Key} {u : Value} (r : RelV (kV k) u) : (Zx P w).is k u = true := by
  cases k with
  | inl i => obtain ⟨t, e⟩ := (show ∃ t, u = Value.int i t from r); subst e; exact Zkq P w i t
  | inr x => obtain ⟨t, e⟩ := (show ∃ t, u = Value.str x t from r); subst e; exact Zkr P w x t
theorem Zjh {P : Program} {w : World} : ∀ {ks : List Key} {us : List Value}, Vals (ks.map kV) us → ItemsAre (Zx P w) ks us
  | [], _, r => by rw [List.map_nil] at r; cases r; exact .nil
  | k :: ks, _, r => by
    rw [List.map_cons] at r
    cases r with
    | cons h t => exact .cons (Zm5 h) (Zjh t)
noncomputable abbrev KT (H : Hp) : List (List Key × V) → List (List Key × Addr × Value) → Prop := Paired fun p q => p.1 = q.1 ∧ H q.2.1 = some (.tup (p.1.map kV)) ∧ RelV p.2 q.2.2
theorem KT.val {H : Hp} {kvs : List (List Key × V)} {xs : List (List Key × Addr × Value)} (r : KT H kvs xs) (k : List Key) : RelO (valV kvs k) ((atKey xs k).map (·.2)) := by
  induction r with
  | nil => exact True.intro
  | @cons p q ps qs h t ih =>
    obtain ⟨h1, _, h2⟩ := h
    by_cases e : p.1 = k
    · have e' : q.1 = k := h1.symm.trans e
      have b : atKey (q :: qs) k = some q.2 := by simp [atKey, List.find?_cons, e']
      rw [Zga e, b]; exact h2
    · have e' : ¬ q.1 = k := fun z => e (h1.trans z)
      have b : atKey (q :: qs) k = atKey qs k := by simp [atKey, List.find?_cons, e']
      rw [Zgb e, b]; exact ih
theorem KT.repl {H : Hp} {kvs : List (List Key × V)} {xs : List (List Key × Addr × Value)} (r : KT H kvs xs) (k : List Key) {y : V} {u : Value} (ry : RelV y u) :
    KT H (kvs.map fun kv => if kv.1 = k then (kv.1, y) else kv) (xs.map (putAt k u)) := by
  induction r with
  | nil => exact .nil
  | @cons p q ps qs h t ih =>
    rw [List.map_cons, List.map_cons]
    refine .cons ?_ ih
    obtain ⟨h1, h2, h3⟩ := h
    unfold putAt
    by_cases e : p.1 = k
    · rw [if_pos e, if_pos (h1.symm.trans e)]; exact ⟨h1, h2, ry⟩
    · rw [if_neg e, if_neg (fun z => e (h1.trans z))]; exact ⟨h1, h2, h3⟩
theorem KT.put {H : Hp} {kvs : List (List Key × V)} {xs : List (List Key × Addr × Value)} (r : KT H kvs xs) (k : List Key) {b : Addr} {y : V} {u : Value} (hb : H b = some (.tup (k.map kV))) (ry : RelV y u) :
    KT H (putK kvs k y) (storedH xs k b u) := by
  have e : (kvs.any fun kv => decide (kv.1 = k)) = (atKey xs k).isSome := by
    rw [Zh4, (r.val k).isSome_eq, Option.isSome_map]
  unfold putK storedH
  rw [e]
  by_cases q : (atKey xs k).isSome = true
  · rw [if_pos q, if_pos q]; exact r.repl k ry
  · rw [if_neg q, if_neg q]; exact Paired.snoc r ⟨rfl, hb, ry⟩
theorem KT.keeps {H H' : Hp} {kvs : List (List Key × V)} {xs : List (List Key × Addr × Value)} (r : KT H kvs xs) (ht : ∀ b ys, H b = some (.tup ys) → H' b = some (.tup ys)) : KT H' kvs xs :=
  Paired.mapP r fun _ _ z => ⟨z.1, ht _ _ z.2.1, z.2.2⟩
section
variable {P : Program} {w : World} {H : Hp} {h : Heap} {a : Addr}
theorem Zxc {u : HO} (ok : HOk P w H h) (e : Rd H a u) : Zcp P w H h a u := e.ok ok
theorem Zji {kvs : List (Key × V)} (ok : HOk P w H h) (e : RdK H a kvs) : kvs.length ≤ sizeLine ∧ (a == sysModules) = false ∧ ∃ vs, KV kvs vs ∧ h.DictOf (Zx P w) a vs :=
  let ⟨ep, e⟩ := e; let ⟨z, y, vs, r, d⟩ := (show Zcp P w H h a (.dK kvs ep) from Zxc ok e); ⟨z, y, vs, r, d.dictOf⟩
theorem Zxd {kvs : List (Key × V)} (ok : HOk P w H h) (e : HK H a kvs) : kvs.length ≤ sizeLine ∧ (a == sysModules) = false ∧ ∃ vs, KV kvs vs ∧ h.DictOf (Zx P w) a vs := Zji ok e.rd
theorem Zhh {ks : List Key} (ok : HOk P w H h) (e : H a = some (.tup (ks.map kV))) : (tupleKind (Zx P w)).is h ks a := by
  obtain ⟨_, its, r, o, h1, h2, n, h3⟩ := (show Zcp P w H h a (.tup (ks.map kV)) from ok a _ e)
  exact ⟨o, its.toArray, n, h1, h2, h3, by simpa using Zjh r⟩
theorem Zm6 {kvs : List (List Key × V)} (ok : HOk P w H h) (e : RdT H a kvs) : kvs.length ≤ sizeLine ∧ (a == sysModules) = false ∧
    ∃ xs, KT H kvs xs ∧ h.DictOfH (tupleKind (Zx P w)) a xs := by
  obtain ⟨ep, bs, e⟩ := e
  obtain ⟨z, y, xs, r, o, es, h1, h2, h3, h4, h5, _⟩ := (show Zcp P w H h a (.dT kvs ep bs) from Zxc ok e)
  refine ⟨z, y, xs, r, o, es, ep, h1, h2, h3, h4, fun x hx => ?_, h5⟩
  have all : ∀ {l : List (List Key × V)} {m : List (List Key × Addr × Value)}, KT H l m → ∀ x ∈ m, (tupleKind (Zx P w)).is h x.1 x.2.1 := by
    intro l m q
    induction q with
    | nil => intro x hx; exact nomatch hx
    | @cons p q ps qs hq t ih =>
      intro x hx
      rcases List.mem_cons.mp hx with e | hx
      · subst e
        exact Zhh ok (by rw [← hq.1]; exact hq.2.1)
      · exact ih x hx
  exact all r x hx
theorem Z0i {kvs : List (List Key × V)} (ok : HOk P w H h) (e : HTt H a kvs) : kvs.length ≤ sizeLine ∧ (a == sysModules) = false ∧
    ∃ xs, KT H kvs xs ∧ h.DictOfH (tupleKind (Zx P w)) a xs := Zm6 ok e.rd
end
noncomputable def DGet (H : Hp) (a : Addr) (y : V) (r : Option V) : Prop :=
  (∃ kvs k, RdK H a kvs ∧ y = kV k ∧ r = valV kvs k) ∨ ∃ kvs k b, RdT H a kvs ∧ y = .ref b ∧ H b = some (.tup (k.map kV)) ∧ r = valV kvs k
noncomputable def DPut (H : Hp) (a : Addr) (y v : V) (R : Hp → Prop) : Prop :=
  (∃ kvs k, HK H a kvs ∧ y = kV k ∧ kvs.length < sizeLine ∧ ∀ ep, R (upd H a (.dK (putK kvs k v) ep))) ∨
  ∃ kvs k b, HTt H a kvs ∧ y = .ref b ∧ H b = some (.tup (k.map kV)) ∧ kvs.length < sizeLine ∧ ∀ ep ep0 bs, H a = some (.dT kvs ep0 bs) → R (upd H a (.dT (putK kvs k v) ep (putB kvs bs k b)))
theorem DGet.k {H : Hp} {a : Addr} {kvs : List (Key × V)} {k : Key} (e : HK H a kvs) : DGet H a (kV k) (valV kvs k) := .inl ⟨kvs, k, e.rd, rfl, rfl⟩
theorem DGet.t {H : Hp} {a b : Addr} {kvs : List (List Key × V)} {k : List Key} (e : HTt H a kvs) (eb : H b = some (.tup (k.map kV))) : DGet H a (.ref b) (valV kvs k) := .inr ⟨kvs, k, b, e.rd, rfl, eb, rfl⟩
theorem DPut.k {H : Hp} {a : Addr} {kvs : List (Key × V)} {k : Key} {v : V} {R : Hp → Prop} (e : HK H a kvs) (hl : kvs.length < sizeLine) (h : ∀ ep, R (upd H a (.dK (putK kvs k v) ep))) : DPut H a (kV k) v R := .inl ⟨kvs, k, e, rfl, hl, h⟩
theorem DPut.t {H : Hp} {a b : Addr} {kvs : List (List Key × V)} {k : List Key} {v : V} {R : Hp → Prop} (e : HTt H a kvs) (eb : H b = some (.tup (k.map kV))) (hl : kvs.length < sizeLine) (h : ∀ ep ep0 bs, H a = some (.dT kvs ep0 bs) → R (upd H a (.dT (putK kvs k v) ep (putB kvs bs k b)))) :
    DPut H a (.ref b) v R := .inr ⟨kvs, k, b, e, rfl, eb, hl, h⟩
section
variable {X : Cx} {pins : List (Addr × Obj)} {σ : St} {H : Hp} {s : Shared} {a : Addr} {y v : V} {u r : Value} {o : Option V} {A : Around} {E : Value → Shared → Prop}
theorem Inv.big (I : Inv X pins σ H s) : sysModules < s.heap.objs.size := by
  have h : mainGlobals < s.heap.objs.size := (I.mod.glob.keeps I.bk).lt
  exact Nat.lt_trans (by decide) h
theorem Zn9 {Q : Value → Shared → Prop} (hu : A.units + 1 < cLine) (I : Inv X pins σ H s) (g : DGet H a y (some v)) (ry : RelV y u) (h : ∀ w' s', Inv X pins σ H s' → RelV v w' → Q w' s') :
    wpAny (model X.prog X.w) A (getItem (.ref a) u) Q E s := by
  rcases g with ⟨kvs, k, e, ey, l⟩ | ⟨kvs, k, b, e, ey, eb, l⟩
  · subst ey
    obtain ⟨z, hd, vs, rel, dd⟩ := Zji I.hok e
    obtain ⟨w', hw, rw'⟩ := RelO.some_of (v := v) (o := valueAt vs k) (by rw [l]; exact rel.val k)
    exact wpAny_getItem_of (Zm5 ry) dd.mapOf hw (h w' _ (I.tok _) rw')
  · subst ey
    cases (show u = Value.ref b from ry)
    obtain ⟨z, hd, xs, rel, dd⟩ := Zm6 I.hok e
    obtain ⟨w', hw, rw'⟩ := RelO.some_of (v := v) (o := (atKey xs k).map (·.2)) (by rw [l]; exact rel.val k)
    obtain ⟨p, hp, hp2⟩ := Option.map_eq_some_iff.mp hw
    refine wpAny_getItem_heap (tupleKind_room_in1 hu) (Zhh I.hok eb) dd hp ?_
    rw [hp2]
    exact h w' _ (I.tok _) rw'
theorem d_in {Q : Value → Shared → Prop} (hu : A.units + 1 < cLine) (I : Inv X pins σ H s) (g : DGet H a y o) (ry : RelV y u) (h : ∀ s', Inv X pins σ H s' → Q (.bool o.isSome) s') :
    wpAny (model X.prog X.w) A (compareOp .In u (.ref a)) Q E s := by
  rcases g with ⟨kvs, k, e, ey, l⟩ | ⟨kvs, k, b, e, ey, eb, l⟩
  · subst ey
    obtain ⟨z, hd, vs, rel, dd⟩ := Zji I.hok e
    refine wpAny_in_of (Zm5 ry) hd dd.mapOf ?_
    rw [← (rel.val k).isSome_eq, ← l]
    exact h _ (I.tok _)
  · subst ey
    cases (show u = Value.ref b from ry)
    obtain ⟨z, hd, xs, rel, dd⟩ := Zm6 I.hok e
    refine wpAny_in_heap (tupleKind_room_in1 hu) (Zhh I.hok eb) hd dd ?_
    have q := (rel.val k).isSome_eq
    rw [Option.isSome_map] at q
    rw [← q, ← l]
    exact h _ (I.tok _)
theorem Zoa {h' : Heap} {t' : Nat} {ob : HO} (I : Inv X pins σ H s) (mu : Mut (H a)) (hs : Heap.SameBut a s.heap h') (he : ∃ q, h'.get? a = some q) (new : Zcp X.prog X.w (upd H a ob) h' a ob) :
    Inv X pins σ (upd H a ob) { s with heap := h', toks := t' } :=
  I.write (x := a) (e := a) mu (.inl rfl) (fun b q hb z => (hs.2 b hb).trans z) he new
theorem Zsu {P : Program} {w : World} {h' : Heap} {kvs : List (Key × V)} {vs : List (Key × Value)} (z : kvs.length ≤ sizeLine) (hd : (a == sysModules) = false) (rel : KV kvs vs) (dd : h'.DictOf (Zx P w) a vs) :
    ∃ ep, ∀ H' : Hp, Zcp P w H' h' a (.dK kvs ep) := let ⟨ep, dd⟩ := dd.dictAt; ⟨ep, fun _ => ⟨z, hd, vs, rel, dd⟩⟩
theorem Zob {R : Hp → Prop} {Q : Unit → Shared → Prop} (hu : A.units + 1 < cLine) (I : Inv X pins σ H s) (g : DPut H a y v R) (ry : RelV y u) (rv : RelV v r) (h : ∀ H' s', R H' → Inv X pins σ H' s' → Q () s') :
    wpAny (model X.prog X.w) A (setItem (.ref a) u r) Q E s := by
  rcases g with ⟨kvs, k, e, ey, l, eH⟩ | ⟨kvs, k, b, e, ey, eb, l, eH⟩
  · subst ey
    obtain ⟨z, hd, vs, rel, dd⟩ := Zxd I.hok e
    have hz : vs.length ≤ sizeLine := by rw [← rel.length]; exact z
    have hl : (putK kvs k v).length ≤ sizeLine := by have := Zgj kvs k v; omega
    refine wpAny_setItem_pairs (hsz := hz) (Zm5 ry) dd fun h' dd' hs => ?_
    have he : ∃ q, h'.get? a = some q := let ⟨q, _, _, hq, _⟩ := dd'; ⟨q, hq⟩
    obtain ⟨ep, ok⟩ := Zsu hl hd (rel.put k rv) dd'
    exact h _ _ (eH ep) (Zoa I (by obtain ⟨e0, e⟩ := e; rw [e]; exact True.intro) hs he (ok _))
  · subst ey
    cases (show u = Value.ref b from ry)
    obtain ⟨z, hd, xs, rel, dd⟩ := Z0i I.hok e
    have hz : xs.length ≤ sizeLine := by rw [← Paired.length rel]; exact z
    have hl : (putK kvs k v).length ≤ sizeLine := by have := Zgj kvs k v; omega
    refine wpAny_setItem_heap (hsz := hz) (tupleKind_room_in1 hu) (Zhh I.hok eb) dd fun h' dd' hs => ?_
    obtain ⟨q, es, ep, hq, h2, h3, h4, _, h5⟩ := dd'
    obtain ⟨e0, bs, e⟩ := e
    have hb : (xs.map fun x => x.2.1) = bs := by
      obtain ⟨_, _, xs', r', _, _, w1, _, w3, w4, _, w6⟩ := (show Zcp X.prog X.w H s.heap a (.dT kvs e0 bs) from I.hok a _ e)
      obtain ⟨_, _, _, y1, _, y3, y4, _⟩ := dd
      rw [w1] at y1; cases y1
      rw [w3] at y3; cases y3
      have : xs'.map (fun x => x.2.1) = xs.map fun x => x.2.1 := by
        have z := congrArg (List.map DictEntry.key) (w4.symm.trans y4)
        rw [List.map_map, List.map_map] at z
        have inj : ∀ {l m : List (List Key × Addr × Value)}, l.map (DictEntry.key ∘ entryOfKey (tupleKind (Zx X.prog X.w))) = m.map (DictEntry.key ∘ entryOfKey (tupleKind (Zx X.prog X.w))) → (l.map fun x => x.2.1) = m.map fun x => x.2.1 := by
          intro l
          induction l with
          | nil => intro m z; cases m with
            | nil => rfl
            | cons _ _ => cases z
          | cons x l ih => intro m z; cases m with
            | nil => cases z
            | cons y m =>
              rw [List.map_cons, List.map_cons] at z ⊢
              injection z with z1 z2
              have z1' : Value.ref x.2.1 = Value.ref y.2.1 := z1
              injection z1' with z1'
              rw [z1', ih z2]
        exact inj z
      rw [← this]; exact w6
    have hb2 : ((storedH xs k b r).map fun x => x.2.1) = putB kvs bs k b := by
      have ee : (kvs.any fun kv => decide (kv.1 = k)) = (atKey xs k).isSome := by
        rw [Zh4, (rel.val k).isSome_eq, Option.isSome_map]
      unfold putB storedH
      rw [ee]
      by_cases qq : (atKey xs k).isSome = true
      · rw [if_pos qq, if_pos qq, List.map_map, ← hb]
        refine List.map_congr_left fun x _ => ?_
        show (putAt k r x).2.1 = x.2.1
        unfold putAt
        split <;> rfl
      · rw [if_neg qq, if_neg qq, List.map_append, hb]; rfl
    refine h _ _ (eH ep e0 bs e) (Zoa I (by rw [e]; exact True.intro) hs ⟨q, hq⟩ ⟨hl, hd, _, (rel.put k eb rv).keeps fun c ys ec => ?_, q, es, hq, h2, h3, h4, h5, hb2⟩)
    rw [Zv (Z0a ec e (fun z => nomatch z))]
    exact ec
end
section
variable {X : Cx} {pins : List (Addr × Obj)} {σ : St} {H : Hp} {s : Shared} {a : Addr} {kvs : List (Key × V)} {k : Key} {u : Value} {A : Around} {E : Value → Shared → Prop}
end
noncomputable def NoSl (i : Expr) : Prop := ∀ ov iv, subscripted i false ov iv = operate [ov, iv] (getItem ov iv)
theorem Zt6 {prog : Program} {w : World} {A : Around} {E : Value → Shared → Prop} {s : Shared} {env : Env} {value slice : Expr} {pos : Pos} {T id : String} {Q : Value → Shared → Prop}
    (hl : typeLookup (.type T) "__getitem__" = pure (some (.builtin id))) (hs : NoSl slice)
    (h : wpAny (model prog w) A (eval value env) (fun o s₁ => wpAny (model prog w) A (eval slice env) (fun i s₂ => s₂.TypeIs o T ∧ wpAny (model prog w) A (getItem o i) Q E s₂) E s₁) E s) :
    wpAny (model prog w) A (eval (.Subscript value slice pos) env) Q E s := by
  refine Subscript_ (wpAny_mono h (fun o s₁ h₁ => wpAny_mono h₁ (fun i s₂ h₂ => ?_) fun _ _ x => x) fun _ _ x => x)
  obtain ⟨hT, h₂⟩ := h₂
  unfold subscriptTail
  refine wpAny_bind ?_
  rw [getitemInPython_of_ne hT.not_modules]
  refine wpAny_bind (wpAny_specialOf hT hl ?_)
  have fin : wpAny (model prog w) A (subscripted slice false o i) (fun r s₃ => wpAny (model prog w) A (letTemporaryGo value o r >>= fun _ => pure r) Q E s₃) E s₂ := by
    rw [hs o i]
    exact wpAny_operating (wpAny_mono h₂ (fun r s₃ h₃ => wpAny_bind (wpAny_letTemporaryGo (wpAny_pure h₃))) fun _ _ x => x)
  first
    | exact wpAny_pure (wpAny_bind fin)
    | exact wpAny_bind (wpAny_pure (wpAny_bind fin))
    | exact wpAny_bind fin
theorem Zkx {X : Cx} {pins : List (Addr × Obj)} {σ : St} {H : Hp} {s : Shared} {a : Addr} {y : V} {o : Option V} (I : Inv X pins σ H s) (g : DGet H a y o) : s.TypeIs (.ref a) "dict" := by
  rcases g with ⟨kvs, k, e, _, _⟩ | ⟨kvs, k, b, e, _, _, _⟩
  · obtain ⟨_, _, vs, _, dd⟩ := Zji I.hok e
    exact dd.typeIs
  · obtain ⟨_, _, xs, _, dd⟩ := Zm6 I.hok e
    exact dd.typeIs
noncomputable def Z0j (td ty : TE) : TE := fun σ H Q => td σ H fun x H1 => ty σ H1 fun y H2 => ∃ a v, x = .ref a ∧ DGet H2 a y (some v) ∧ Q v H2
noncomputable def Zxe (td ty tv : TE) : TS := fun D σ H => tv σ H fun v H1 => td σ H1 fun x H2 => ty σ H2 fun y H3 => ∃ a, x = .ref a ∧ DPut H3 a y v (D.nx σ)
section
variable {X : Cx} {o i e value : Expr} {pos pos' tpos : Pos} {td ty tv : TE}
theorem Zt7 (hu : X.A.units + 1 < cLine) (ho : PE X o td) (hi : PE X i ty) (hs : NoSl i) : PE X (.Subscript o i pos) (Z0j td ty) := by
  intro pins s σ H Q I h
  refine Zt6 PySem.F.slot_dict_getitem.lookup hs (thn (ho pins s σ H _ I h) fun u s1 ⟨x, H1, I1, rx, q1⟩ => thn (hi pins s1 σ H1 _ I1 q1) fun iv s2 ⟨y, H2, I2, ry, a, v, ex, g, q2⟩ => ?_)
  subst ex
  obtain rfl : u = Value.ref a := rx
  exact ⟨Zkx I2 g, Zn9 hu I2 g ry fun w' s3 I3 rw' => ⟨v, H2, I3, rw', q2⟩⟩
theorem Zt8 (hu : X.A.units + 1 < cLine) (ho : PE X o td) (hi : PE X i ty) (hv : PE X value tv) (hs : swapsWith value (some (.Subscript o i pos')) pos.line X.env = pure false) :
    PS X (.Assign [.Subscript o i pos'] value pos) (Zxe td ty tv) := by
  intro pins s σ H D I h
  refine wpAny_Assign_Subscript (thn (hv pins s σ H _ I h) fun r s1 ⟨v, H1, I1, rv, q1⟩ => thn (ho pins s1 σ H1 _ I1 q1) fun u s2 ⟨x, H2, I2, rx, q2⟩ => thn (hi pins s2 σ H2 _ I2 q2) fun iv s3 ⟨y, H3, I3, ry, a, ex, g⟩ => ?_) hs
  subst ex
  obtain rfl : u = Value.ref a := rx
  exact Zob hu I3 g ry rv fun H4 s4 q3 I4 => ⟨σ, H4, I4, q3⟩
end
theorem Zqy {P : Program} {w : World} {H : Hp} (h : Heap) (hb : sysModules < h.objs.size) : Zcp P w H (h.push { cls := .type "dict", data := .dict #[] }) h.objs.size (.dK [] 0) :=
  ⟨Nat.zero_le _, beq_eq_false_iff_ne.mpr (Ne.symm (Nat.ne_of_lt hb)), [], .nil, _, #[], Heap.get?_push_size _ rfl, ⟨rfl, rfl, rfl⟩, rfl, fun _ he => by simp at he, Pairs.nil, List.nodup_nil⟩
noncomputable def Zsv : TE := fun _ H Q => ∀ p, H p = none → Q (.ref p) (upd H p (.dK [] 0))
section
variable {X : Cx} {pos : Pos}
theorem Zqz : PE X (.Dict [] [] pos) Zsv := fun pins s σ H Q I h =>
  wpAny_Dict_empty ⟨.ref s.heap.objs.size, _, I.laid (a := s.heap.objs.size) (o := .dK [] 0) (t' := s.toks) (fun _ _ q => Heap.get?_push_of_some _ q) (Nat.le_refl _) (Zqy s.heap I.big), rfl, h _ (I.hok.fresh (Nat.le_refl _))⟩
end
noncomputable def IsD (H : Hp) (a : Addr) : Prop := (∃ kvs, RdK H a kvs) ∨ ∃ kvs, RdT H a kvs
section
variable {X : Cx} {pins : List (Addr × Obj)} {σ : St} {H : Hp} {s : Shared} {a : Addr} {y d : V} {u r : Value} {o : Option V} {A : Around} {E : Value → Shared → Prop}
theorem Zxf {Q : Value → Shared → Prop} (hu : A.units + 1 < cLine) (I : Inv X pins σ H s) (g : DGet H a y o) (ry : RelV y u) (h : ∀ w' s', Inv X pins σ H s' → RelV (o.getD .non) w' → Q w' s') :
    wpAny (model X.prog X.w) A (call (.builtin "dict.get") [.ref a, u]) Q E s := by
  rcases g with ⟨kvs, k, e, ey, l⟩ | ⟨kvs, k, b, e, ey, eb, l⟩
  · subst ey
    obtain ⟨z, hd, vs, rel, dd⟩ := Zji I.hok e
    refine call_meetsIn PySem.F.slot_dict_get dd.typeIs PySem.F.entry_dict_get (PySem.F.args_dict_get_2 _ _) (meets_dict_get (Zx X.prog X.w) a (Zm5 ry) hd) ⟨_, dd.mapOf, h _ _ (I.tok _) ?_⟩
    rw [l]
    exact (rel.val k).getD rfl
  · subst ey
    cases (show u = Value.ref b from ry)
    obtain ⟨z, hd, xs, rel, dd⟩ := Zm6 I.hok e
    refine call_meetsIn PySem.F.slot_dict_get dd.typeIs PySem.F.entry_dict_get (PySem.F.args_dict_get_2 _ _) (meetsH_dict_get (tupleKind (Zx X.prog X.w)) a b hd) ⟨tupleKind_room_in1 hu, k, xs, Zhh I.hok eb, dd, h _ _ (I.tok _) ?_⟩
    rw [l]
    exact (rel.val k).getD rfl
theorem Zxg {Q : Value → Shared → Prop} (hu : A.units + 1 < cLine) (I : Inv X pins σ H s) (g : DGet H a y o) (ry : RelV y u) (rd : RelV d r) (h : ∀ w' s', Inv X pins σ H s' → RelV (o.getD d) w' → Q w' s') :
    wpAny (model X.prog X.w) A (call (.builtin "dict.get") [.ref a, u, r]) Q E s := by
  rcases g with ⟨kvs, k, e, ey, l⟩ | ⟨kvs, k, b, e, ey, eb, l⟩
  · subst ey
    obtain ⟨z, hd, vs, rel, dd⟩ := Zji I.hok e
    refine call_meetsIn PySem.F.slot_dict_get dd.typeIs PySem.F.entry_dict_get (PySem.F.args_dict_get_3 _ _ _) (meets_dict_get_default (Zx X.prog X.w) a (Zm5 ry) hd r) ⟨_, dd.mapOf, h _ _ (I.tok _) ?_⟩
    rw [l]
    exact (rel.val k).getD rd
  · subst ey
    cases (show u = Value.ref b from ry)
    obtain ⟨z, hd, xs, rel, dd⟩ := Zm6 I.hok e
    refine call_meetsIn PySem.F.slot_dict_get dd.typeIs PySem.F.entry_dict_get (PySem.F.args_dict_get_3 _ _ _) (meetsH_dict_get_default (tupleKind (Zx X.prog X.w)) a b hd r) ⟨tupleKind_room_in1 hu, k, xs, Zhh I.hok eb, dd, h _ _ (I.tok _) ?_⟩
    rw [l]
    exact (rel.val k).getD rd
end
section
variable {X : Cx} {o e f : Expr} {apos cpos : Pos} {td ty tx : TE}
end
section
variable {X : Cx} {pins : List (Addr × Obj)} {σ : St} {H : Hp} {s : Shared} {a : Addr} {kvs : List (Key × V)} {A : Around} {E : Value → Shared → Prop}
theorem Zq0 {Q : Value → Shared → Prop} (I : Inv X pins σ H s) (e : RdK H a kvs) (h : ∀ p ep s', H p = none → Inv X pins σ (upd H p (.dK kvs ep)) s' → Q (.ref p) s') : wpAny (model X.prog X.w) A (call (.type "dict") [.ref a]) Q E s := by
  obtain ⟨z, hd, vs, rel, dd⟩ := Zji I.hok e
  refine kt_call_dict hd dd (by rw [← rel.length]; exact z) fun h' dd' hs => ?_
  obtain ⟨ep, ok⟩ := Zsu z (beq_eq_false_iff_ne.mpr (Ne.symm (Nat.ne_of_lt I.big))) rel dd'
  refine h _ ep _ (I.hok.fresh (Nat.le_refl _)) (I.laid (a := s.heap.objs.size) (o := .dK kvs ep) (t' := s.toks) (fun b q hq => ?_) (Nat.le_refl _) (ok _))
  exact (hs.2 b (Nat.ne_of_lt (Heap.lt_size hq))).trans (Heap.get?_push_of_some _ hq)
end
section
variable {X : Cx} {pins : List (Addr × Obj)} {σ : St} {H : Hp} {s : Shared} {a : Addr} {y : V} {u : Value} {A : Around} {E : Value → Shared → Prop}
end
end L2
namespace Att
open PySem PySem.W PySem.Calls PyProof.Rows
theorem Zgk {P : Params} {h : Heap} : ∀ (ns : List Int) (vs : List Value), WellAll P h vs (ns.map WData.int) → IntsAre vs ns := by
  intro ns
  induction ns with
  | nil =>
    intro vs w
    rw [List.map_nil] at w
    cases w
    exact .nil
  | cons n ns ih =>
    intro vs w
    rw [List.map_cons] at w
    cases w with
    | cons a b =>
      cases a
      exact .cons _ _ (ih _ b)
theorem Zoc {l : OpenLaw} {n : Nat} (hn : l.most = some n) {P : Params} {h : Heap} {args : List WData} {vals : List Value}
    (hpre : l.row.toRowW.claim.pre args = true) (hwl : WellAll P h vals args) :
    ∃ a vs ns, vals = [Value.ref a] ∧ args = [WData.list (ns.map WData.int)] ∧ h.get? a = some { cls := .type "list", data := .seq vs.toArray } ∧ IntsAre vs ns ∧ ns.length ≤ n := by
  have hsh : WShape.hasAll [] args [.list .int] = true := (pre_splitW hpre).1
  have hc : l.pre.holds [] { args := args } = true := (pre_splitW hpre).2
  obtain ⟨d, r, rfl, h1, h2⟩ := hasAllW_cons hsh
  obtain rfl := hasAllW_nil h2
  obtain ⟨xs, rfl, h3⟩ := hasW_list h1
  obtain ⟨ns, rfl⟩ := items_int h3
  have hlen : ns.length ≤ n := by
    unfold OpenLaw.pre at hc
    have h4 : (WTm.not (.lt (.lit (.int (n : Int))) (.len (.arg 0)))).holds [] { args := [.list (ns.map .int)] } = true := by
      have h4 := (holds_andW hc).1
      rw [hn] at h4
      exact h4
    have h5 := condW_of h4 (w_not (w_lt w_lit (w_len_list (w_arg rfl))))
    rw [List.length_map] at h5
    refine Nat.le_of_not_lt fun q => ?_
    have q' : (n : Int) < ((ns.length : Nat) : Int) := by omega
    first
      | (rw [decide_eq_true q'] at h5; exact absurd h5 (by decide))
      | (simp at h5; omega)
  cases hwl with
  | cons w1 w2 =>
    cases w2
    cases w1 with
    | list ho hall => exact ⟨_, _, ns, rfl, rfl, ho, Zgk ns _ hall, hlen⟩
theorem Zod (l : OpenLaw) (args : List WData) : l.row.toRowW.claim.post args (.bool true) args = true :=
  postW_of (r := l.row.toRowW) (X := (true == true))
    (show WShape.has [] (.bool true) .bool = true by first | rfl | decide | simp [WShape.has, WShape.arms, WShape.armsAll])
    (show (WTm.eq .res (.lit (.bool true))).value [] { args := args, res := some (.bool true), after := args } = some (.bool (true == true)) from w_eq_bool (w_res rfl) w_lit) rfl
theorem attach_call {l : OpenLaw} {n : Nat} {q : Program} {loose : List Str} {XP : (Str → Option Value) → Heap → Prop} {YP : World → Heap → Prop} {d : DefRec}
    (hn : l.most = some n) (hdf : d.params.defaults = [])
    (call : ∀ (w : World) (s₀ s₁ : Shared) (mg mb : Str → Option Value) (fa : Addr) (o : Obj) (pm cd doc : Value) (a : Addr) (vs : List Value) (ns : List Int),
      Ground q loose [] XP w s₀ mg mb s₁.heap → YP w s₁.heap →
      s₁.heap.get? fa = some o → o.data = .func (docDef d.name d.params d.body d.scope pm cd doc) → s₁.heap.CodeRec cd d.name → mg d.name = some (.ref fa) →
      s₁.heap.get? a = some { cls := .type "list", data := .seq vs.toArray } → IntsAre vs ns → ns.length ≤ n → s₁.gens = #[] →
      codeAny (model l.prog w) callerA (.call (.ref fa) ⟨[.ref a], []⟩) (fun r s' => r = .ok (.ret (.bool true)) ∧ OldK s₁.heap s'.heap ∧ s'.os = s₁.os ∧ AllBare s'.gens) s₁) :
    WalkO q loose XP YP l.row.toRowW d [] (fun f vs => PySem.call f vs) := by
  intro w s₀ s₁ mg mb G Y fa o pm cd doc dV kV ho hd hcd hD hmg hg args vals as hpre hlay hrd hwl hlo
  obtain rfl : dV = .none := Dflts.none hD hdf
  obtain rfl : kV = .none := Dflts.noKw hD
  obtain ⟨a, vs, ns, rfl, rfl, hobj, hints, hlen⟩ := Zoc hn hpre hwl
  refine enter_call (codeAny_mono (call w s₀ s₁ mg mb fa o pm cd doc a vs ns G Y ho (fd_plain hd) hcd hmg hobj hints hlen hg) fun r s' hq => ?_)
  obtain ⟨rfl, h2, h3, h4⟩ := hq
  exact ⟨.inl ⟨.bool true, .bool true, [], rfl, fun _ => rfl, .bool true, Zod l _, fun _ => ⟨List.Pairwise.nil, fun _ hm => (nomatch hm)⟩⟩, h2, h3, h4⟩
section
variable {prog : Program} {w : World} {A : Around} {E : Value → Shared → Prop} {s : Shared} {K : Frag}
end
end Att
namespace L2
open PySem PySem.Spec PyProof.Rows
theorem Zjj : ∀ {vs : List Value} {ns : List Int}, IntsAre vs ns → Vals (ns.map V.int) vs
  | _, _, .nil => .nil
  | _, _, .cons n t h => .cons ⟨t, rfl⟩ (Zjj h)
noncomputable def Only (H : Hp) : Prop := ∀ b, H b = none ∨ ∃ o xs, H b = some (.frz o (.lst xs))
theorem Zq1 {P : Program} {w : World} {K : PySem.W.Frag} {mg mb : Str → Option Value} {CX : CXT} {k : Nat} {fa a : Addr} {fd : FuncData} {x : Str} {sp : Sp} {s₁ : Shared} {vs : List Value} {ns : List Int}
    (KX : K.In s₁.heap) (hns : s₁.heap.Ns mainGlobals mg) (hb : s₁.heap.Ns builtinsNs mb) (hbb : ∀ x : Str, x ≠ "__name__" → mb x = bootBuiltins x) (hlim : s₁.heap.NoLimit) (hg : s₁.gens = #[])
    (ha : s₁.heap.get? a = some { cls := .type "list", data := .seq vs.toArray }) (hi : IntsAre vs ns) (hl : ns.length ≤ sizeLine) (hr : Room k callerA)
    (F : ∀ base : Heap, K.In base → base.Ns mainGlobals mg → FnOk P w K mg base CX k fa fd [x] sp) (hbind : ∀ (s : Shared) (u : Value), BindsTo s fd ⟨[u], []⟩ [(x, u)])
    (hsp : ∀ H : Hp, Only H → SqL K H a (ns.map V.int) → sp [.ref a] H (fun v _ => v = .bl true) fun _ _ _ => False)
    (hCX : ∀ H e s', CX [] H s₁ (fun _ _ _ => False) e s' → False) :
    codeAny (model P w) callerA (.call (.ref fa) ⟨[.ref a], []⟩) (fun r s' => r = .ok (.ret (.bool true)) ∧ OldK s₁.heap s'.heap ∧ s'.os = s₁.os ∧ AllBare s'.gens) s₁ := by
  have rv := Zjj hi
  have lenV := hi.length
  -- from an abstract heap in which nothing but the script may be tracked
  have core : ∀ H : Hp, Only H → SqL K H a (ns.map V.int) → HOk P w H s₁.heap → (∀ b, H b ≠ none → b = a) → (H a ≠ none → K.lookup a = none) →
      codeAny (model P w) callerA (.call (.ref fa) ⟨[.ref a], []⟩) (fun r s' => r = .ok (.ret (.bool true)) ∧ OldK s₁.heap s'.heap ∧ s'.os = s₁.os ∧ AllBare s'.gens) s₁ := by
    intro H hO hS hok hA hK
    have base_of : ∀ {b : Addr} {o : Obj}, s₁.heap.get? b = some o → H b = none → (hidT s₁.heap H).get? b = some o := fun e n => Zql e n
    have noA : ∀ {b : Addr} {o : Obj} {es : Array DictEntry} {ep : Nat}, s₁.heap.get? b = some o → o.data = .dict es ep → H b = none := fun {b o es ep} e d => by
      cases q : H b with
      | none => rfl
      | some u =>
        have e' : b = a := hA b (by rw [q]; simp)
        subst e'
        rw [ha] at e; cases e
        have d' : Data.seq vs.toArray _ = Data.dict es ep := d
        cases d'
    have nsK : ∀ {b : Addr} {m : Str → Option Value}, s₁.heap.Ns b m → (hidT s₁.heap H).Ns b m := fun {b m} ⟨o, es, ep, e, d, r⟩ => ⟨o, es, ep, base_of e (noA e d), d, r⟩
    have hKb : K.In (hidT s₁.heap H) := fun b o e => base_of (KX b o e) (by
      cases q : H b with
      | none => rfl
      | some u =>
        have e' : b = a := hA b (by rw [q]; simp)
        subst e'
        rw [hK (by rw [q]; simp)] at e; cases e)
    have hM : Mod K mg (hidT s₁.heap H) := ⟨hKb, nsK hns, ⟨mb, nsK hb, hbb⟩, let ⟨mc, h1, h2⟩ := hlim; ⟨mc, nsK h1, h2⟩⟩
    have e0 : Env0 P w K mg (hidT s₁.heap H) callerA [] s₁ H := ⟨rfl, hM, fun b o e => Zto e, Nat.le_of_eq (Znt _ _), trivial, fun b hb => absurd (show b ∈ ([] : List Addr) from hb) (by simp), hok, .of_eq hg⟩
    refine codeAny_mono ((F _ hKb (nsK hns)).run callerA [] s₁ H ⟨[.ref a], []⟩ [.ref a] [.ref a] _ _ hr e0 (hbind s₁ (.ref a)) (.cons rfl .nil) (hsp H hO hS)) fun r s' h => ?_
    cases r with
    | error e => exact (hCX H e s' h).elim
    | ok fl =>
      cases fl with
      | next => exact False.elim h
      | brk => exact False.elim h
      | cont => exact False.elim h
      | ret u =>
        obtain ⟨v, H', os, bare, un, hok', r', q⟩ := h
        have q' : v = .bl true := q
        subst q'
        obtain rfl : u = Value.bool true := r'
        refine ⟨rfl, OldK.of_keep fun b o e => ?_, os, bare⟩
        cases q : H b with
        | none => exact un.keep b o e q (by intro z; exact absurd (show b ∈ ([] : List Addr) from z) (by simp)) (by simp)
        | some u =>
          rcases hO b with z | ⟨ob, xs, z⟩
          · rw [q] at z; cases z
          · have z2 := un.frzs b ob _ z
            obtain ⟨e1, _⟩ := hok b _ z
            obtain ⟨e2, _⟩ := hok' b _ z2
            rw [e] at e1; cases e1
            exact e2
  cases hk : K.lookup a with
  | some o =>
    -- the script is one of the module's own objects
    have e := KX a o hk
    rw [ha] at e
    cases e
    refine core (fun _ => none) (fun _ => .inl rfl) (.inr ⟨_, vs.toArray, _, hk, rfl, rfl, rfl, by rw [List.size_toArray, lenV]; exact hl, by simpa using rv⟩) (fun b u z => by have z' : (none : Option HO) = some u := z; cases z') (fun b z => absurd rfl z) fun z => absurd rfl z
  | none =>
    refine core (fun b => if b = a then some (.frz { cls := .type "list", data := .seq vs.toArray } (.lst (ns.map V.int))) else none) (fun b => ?_) (.inl (.inr ⟨{ cls := .type "list", data := .seq vs.toArray }, if_pos rfl⟩)) (fun b u z => ?_) (fun b z => ?_) fun _ => hk
    · by_cases hb : b = a
      · exact .inr ⟨_, _, if_pos hb⟩
      · exact .inl (if_neg hb)
    · by_cases hb : b = a
      · have z' := (if_pos hb).symm.trans z
        cases z'
        subst hb
        exact ⟨ha, by rw [List.length_map]; exact hl, vs, _, rv, ha⟩
      · have z' := (if_neg hb).symm.trans z
        cases z'
    · by_cases hb : b = a
      · exact hb
      · exact absurd (if_neg hb) z
end L2
namespace L2
open PySem PySem.Spec PyProof.Rows
noncomputable abbrev KOf {K : PySem.W.Frag} {h : Heap} (_ : K.In h) : PySem.W.Frag := K
theorem Zt9 {l : PySem.W.OpenLaw} {n k : Nat} {q : Program} {loose : List Str} {XP : (Str → Option Value) → Heap → Prop} {YP : World → Heap → Prop} {d : DefRec} {K : Params → PySem.W.Frag} {CX : World → CXT} {sp : World → Sp} {x : Str}
    (hn : l.most = some n) (hn2 : n ≤ sizeLine) (hdf : d.params.defaults = []) (hr : Room k callerA)
    (hY : ∀ (w : World) (h : Heap), YP w h → (K w.params).In h)
    (F : ∀ (w : World) (mg : Str → Option Value) (fa : Addr) (h : Heap), (K w.params).In h → h.Ns mainGlobals mg → mg d.name = some (.ref fa) →
      ∃ fd : FuncData, (∀ (s : Shared) (u : Value), BindsTo s fd ⟨[u], []⟩ [(x, u)]) ∧
        ∀ base : Heap, (K w.params).In base → base.Ns mainGlobals mg → FnOk l.prog w (K w.params) mg base (CX w) k fa fd [x] (sp w))
    (hsp : ∀ (w : World) (H : Hp) (a : Addr) (ns : List Int), ns.length ≤ n → Only H → SqL (K w.params) H a (ns.map V.int) → sp w [.ref a] H (fun v _ => v = .bl true) fun _ _ _ => False)
    (hCX : ∀ (w : World) (H : Hp) (s : Shared) (e : Value) (s' : Shared), CX w [] H s (fun _ _ _ => False) e s' → False) :
    PySem.W.WalkO q loose XP YP l.row.toRowW d [] (fun f vs => PySem.call f vs) := by
  refine Att.attach_call hn hdf fun w s₀ s₁ mg mb fa o pm cd doc a vs ns G Y ho hd hcd hmg hobj hints hlen hg => ?_
  have KX := hY w _ Y
  obtain ⟨fd, hb, hF⟩ := F w mg fa _ KX G.T.g hmg
  exact Zq1 KX G.T.g G.T.b G.T.builtins G.T.nolimit hg hobj hints (Nat.le_trans hlen hn2) hr hF hb (fun H hO hS => hsp w H a ns hlen hO hS) fun H e s' => hCX w H s₁ e s'
theorem Zq2 {l : PySem.W.OpenLaw} {n k : Nat} {q : Program} {loose : List Str} {XP : (Str → Option Value) → Heap → Prop} {YP : World → Heap → Prop} {d : DefRec} {K : Params → PySem.W.Frag} {CX : CXT} {sp : PySem.W.Frag → Sp} {x : Str}
    (hn : l.most = some n) (hn2 : n ≤ sizeLine) (hdf : d.params.defaults = []) (hr : Room k callerA)
    (hY : ∀ (w : World) (h : Heap), YP w h → (K w.params).In h)
    (F : ∀ (w : World) (mg : Str → Option Value) (fa : Addr) (h : Heap), (K w.params).In h → h.Ns mainGlobals mg → mg d.name = some (.ref fa) →
      ∃ fd : FuncData, (∀ (s : Shared) (u : Value), BindsTo s fd ⟨[u], []⟩ [(x, u)]) ∧
        ∀ base : Heap, (K w.params).In base → base.Ns mainGlobals mg → FnOk l.prog w (K w.params) mg base CX k fa fd [x] (sp (K w.params)))
    (hsp : ∀ (K : PySem.W.Frag) (H : Hp) (a : Addr) (ns : List Int), ns.length ≤ n → Only H → SqL K H a (ns.map V.int) → sp K [.ref a] H (fun v _ => v = .bl true) fun _ _ _ => False)
    (hCX : ∀ (H : Hp) (s : Shared) (e : Value) (s' : Shared), CX [] H s (fun _ _ _ => False) e s' → False) :
    PySem.W.WalkO q loose XP YP l.row.toRowW d [] (fun f vs => PySem.call f vs) :=
  Zt9 (K := K) (CX := fun _ => CX) (sp := fun w => sp (K w.params)) hn hn2 hdf hr hY F (fun w H a ns h1 h2 h3 => hsp (K w.params) H a ns h1 h2 h3) fun _ H s e s' => hCX H s e s'
end L2
namespace L2
open PySem PySem.Spec PyProof.Rows
noncomputable def Z2 (s : Stmt) : Arguments := match s with
  | .FunctionDef _ a _ _ _ _ _ _ _ _ => a
  | _ => { posonlyargs := [], args := [], vararg := none, kwonlyargs := [], kw_defaults := [], kwarg := none, defaults := [] }
noncomputable def Zy (s : Stmt) : List Stmt := match s with
  | .FunctionDef _ _ b _ _ _ _ _ _ _ => b
  | _ => []
noncomputable def Zh (s : Stmt) : Scope := match s with
  | .FunctionDef _ _ _ _ _ _ sc _ _ _ => sc
  | _ => { kind := .function, names := [], isGenerator := false, isCoroutine := false }
noncomputable abbrev CX0 : CXT := fun _ _ _ _ _ _ => False
noncomputable abbrev E0 : XK := fun _ _ _ => False
theorem Z0k {X : Cx} : Zn5 CX0 X E0 := fun _ _ _ _ _ _ _ h => h.elim
structure Fun (K : PySem.W.Frag) (x qual : Str) (st : Stmt) (f : Addr) (fd : FuncData) : Prop where
  ex : ∃ (oc : Value) (od : Option Addr) (kV doc pm : Value) (an : Option Addr) (cdv ct : Value) (osl : Array (Option Value)),
    fd = PySem.W.fnOf x qual (Z2 st) (Zy st) (Zh st) .none kV doc pm an cdv ct ∧ K.lookup f = some ⟨oc, od, .func fd, osl⟩ ∧ PySem.W.codeIn K cdv qual = true
  kp : PySem.W.keepIn K (.ref f) = true
section
variable {P : Program} {w : World} {K : PySem.W.Frag} {mg : Str → Option Value} {base : Heap}
theorem Fun.ok {x qual : Str} {st : Stmt} {f : Addr} {fd : FuncData} {N ps : List Str} {k : Nat} {sp : Sp} (F : Fun K x qual st f fd) (S : FnScope N ps (Zh st)) (len : ∀ vs H Q E, sp vs H Q E → vs.length = ps.length)
    (hbody : ∀ (cdv : Value) (A : Around) (outer : List Env) (s : Shared) (H : Hp) (vs : List V) (Q : VK) (E : XK), Room k (A.deeper (envOfC qual (Zh st) s.heap.objs.size f cdv)) → sp vs H Q E →
      ∃ t, PSs (cxOf CX0 P w K mg base N qual (Zh st) f cdv A outer s H E).nox (Zy st) t ∧ t { nx := fun _ H' => Q .non H', rt := Q } (start N vs) H) : FnOk P w K mg base CX0 (k + 1) f fd ps sp := by
  obtain ⟨oc, od, kV, doc, pm, an, cdv, ct, osl, rfl, lk, hcd⟩ := F.ex
  refine Zw5 lk hcd S len fun A outer s H vs Q E hr hsp => ?_
  obtain ⟨t, h, q⟩ := hbody cdv A outer s H vs Q E hr hsp
  exact ⟨t, h.nox, q⟩
theorem Fun.binds {x qual : Str} {st : Stmt} {f : Addr} {fd : FuncData} {ps : List Str} (F : Fun K x qual st f fd)
    (h : ∀ (kV doc pm : Value) (an : Option Addr) (cdv ct : Value) (us : List Value), us.length = ps.length → bindArgs (PySem.W.fnOf x qual (Z2 st) (Zy st) (Zh st) .none kV doc pm an cdv ct) ⟨us, []⟩ = pure (ps.zip us)) : Zay K fd ps [] := by
  obtain ⟨oc, od, kV, doc, pm, an, cdv, ct, osl, rfl, lk, hcd⟩ := F.ex
  exact .all (h kV doc pm an cdv ct)
theorem Zbk {x qual : Str} {st : Stmt} {f : Addr} {oc : Value} {od an : Option Addr} {osl : Array (Option Value)} {kV doc pm cdv ct : Value} (l : K.lookup f = some ⟨oc, od, .func (PySem.W.fnOf x qual (Z2 st) (Zy st) (Zh st) .none kV doc pm an cdv ct), osl⟩)
    (c : PySem.W.codeIn K cdv qual = true) (k : PySem.W.keepIn K (.ref f) = true) : Fun K x qual st f (PySem.W.fnOf x qual (Z2 st) (Zy st) (Zh st) .none kV doc pm an cdv ct) := ⟨⟨oc, od, kV, doc, pm, an, cdv, ct, osl, rfl, l, c⟩, k⟩
end
theorem Zdh {A : Around} {k : Nat} (hr : Room k A) : A.units + 1 < cLine := Nat.lt_of_le_of_lt (Nat.add_le_add_left (by decide : 1 ≤ 64) _) hr.units
section
variable {X : Cx}
end
noncomputable def Same (H H' : Hp) : Prop := ∀ b o, H b = some o → H' b = some o
theorem Same.refl (H : Hp) : Same H H := fun _ _ h => h
theorem Same.trans {H H1 H2 : Hp} (a : Same H H1) (b : Same H1 H2) : Same H H2 := fun c o h => b c o (a c o h)
theorem Same.free {H H' : Hp} (e : Same H H') {l : Addr} (h : H' l = Option.none) : H l = Option.none := by
  cases q : H l with
  | none => rfl
  | some o =>
    rw [e l o q] at h
    cases h
section
variable {κ : Type} [DecidableEq κ]
end
end L2
namespace L2
open PySem PySem.Spec PyProof.Rows
theorem PE.imp {X : Cx} {e : Expr} {t t' : TE} (h : PE X e t) (w : ∀ σ H Q, t' σ H Q → t σ H Q) : PE X e t' := fun pins s σ H Q I q => h pins s σ H Q I (w σ H Q q)
theorem PT.imp {X : Cx} {e : Expr} {t t' : TT} (h : PT X e t) (w : ∀ σ H Q, t' σ H Q → t σ H Q) : PT X e t' := fun pins s σ H Q I q => h pins s σ H Q I (w σ H Q q)
theorem PW.imp {X : Cx} {e : Expr} {t t' : TT} (h : PW X e t) (w : ∀ σ H Q, t' σ H Q → t σ H Q) : PW X e t' := fun wh pins s σ H Q I q => h wh pins s σ H Q I (w σ H Q q)
theorem PA.imp {X : Cx} {e : List Expr} {t t' : TA} (h : PA X e t) (w : ∀ σ H Q, t' σ H Q → t σ H Q) : PA X e t' := fun pos pins s σ H Q I q => h pos pins s σ H Q I (w σ H Q q)
theorem PS.imp {X : Cx} {e : Stmt} {t t' : TS} (h : PS X e t) (w : ∀ D σ H, t' D σ H → t D σ H) : PS X e t' := fun pins s σ H D I q => h pins s σ H D I (w D σ H q)
theorem PSs.imp {X : Cx} {e : List Stmt} {t t' : TS} (h : PSs X e t) (w : ∀ D σ H, t' D σ H → t D σ H) : PSs X e t' := fun pins s σ H D I q => h pins s σ H D I (w D σ H q)
theorem PG.imp {X : Cx} {e : Expr} {t t' : TG} (h : PG X e t) (w : ∀ v σ H Q, t' v σ H Q → t v σ H Q) : PG X e t' := fun pins s σ H v u Q I r q => h pins s σ H v u Q I r (w v σ H Q q)
theorem PGs.imp {X : Cx} {e : List Expr} {t t' : TGs} (h : PGs X e t) (w : ∀ v σ H Q, t' v σ H Q → t v σ H Q) : PGs X e t' := fun pins s σ H vs us Q I r q => h pins s σ H vs us Q I r (w vs σ H Q q)
theorem PI.imp {X : Cx} {tg e : Expr} {t t' : TI} (h : PI X tg e t) (w : ∀ σ H R, t' σ H R → t σ H R) : PI X tg e t' := fun pins s σ H R I q => h pins s σ H R I (w σ H R q)
noncomputable def clOf (cells : List (Str × Addr)) : List (Str × NameKind) → List (Str × Addr) → List (Str × Addr)
  | [], cs => cs
  | (n, k) :: r, cs => clOf cells r (if k = .free then (n, (cells.lookup n).getD 0) :: cs else cs)
theorem Zfg {env : Env} : ∀ (names : List (Str × NameKind)) (cs : List (Str × Addr)), (∀ y ∈ names, y.2 = .free → ∃ c, env.cells.lookup y.1 = some c) →
    (forIn names cs (fun x r => if (x.2 == NameKind.free) = true then do let a ← cellOf env x.1; pure (ForInStep.yield ((x.1, a) :: r)) else pure (ForInStep.yield r)) : Sem (List (Str × Addr))) = pure (clOf env.cells names cs)
  | [], cs, _ => by rw [List.forIn_nil]; rfl
  | (n, k) :: r, cs, h => by
    rw [List.forIn_cons]
    by_cases hk : k = .free
    · obtain ⟨c, hc⟩ := h (n, k) List.mem_cons_self hk
      subst hk
      have e1 : cellOf env n = pure c := by unfold cellOf; rw [hc]
      show ((if (NameKind.free == NameKind.free) = true then (cellOf env n >>= fun a => pure (ForInStep.yield ((n, a) :: cs))) else pure (ForInStep.yield cs)) >>= fun s => _) = _
      rw [if_pos (show (NameKind.free == NameKind.free) = true by decide), e1]
      show (forIn r ((n, c) :: cs) _ : Sem (List (Str × Addr))) = _
      rw [Zfg r _ fun y hy => h y (List.mem_cons_of_mem _ hy)]
      show _ = pure (clOf env.cells r (if NameKind.free = NameKind.free then (n, (env.cells.lookup n).getD 0) :: cs else cs))
      rw [if_pos rfl, hc]
      rfl
    · have hb : (k == NameKind.free) = false := by simpa using hk
      show ((if (k == NameKind.free) = true then (cellOf env n >>= fun a => pure (ForInStep.yield ((n, a) :: cs))) else pure (ForInStep.yield cs)) >>= fun s => _) = _
      rw [hb, if_neg Bool.false_ne_true]
      show (forIn r cs _ : Sem (List (Str × Addr))) = _
      rw [Zfg r _ fun y hy => h y (List.mem_cons_of_mem _ hy)]
      show _ = pure (clOf env.cells r (if k = NameKind.free then _ else cs))
      rw [if_neg hk]
theorem Zdo {scope : Scope} {env : Env} (h : ∀ y ∈ scope.names, y.2 = .free → ∃ c, env.cells.lookup y.1 = some c) : closureFor scope env = pure (clOf env.cells scope.names []) := by
  simp only [closureFor]
  rw [Zfg scope.names [] h]
  rfl
theorem Zl0 {cells : List (Str × Addr)} {x : Str} {c : Addr} : ∀ {names : List (Str × NameKind)} {cs : List (Str × Addr)}, (∀ y ∈ names, y.2 = .free → ∃ c, cells.lookup y.1 = some c) →
    (cs.lookup x = some c → cells.lookup x = some c) → (clOf cells names cs).lookup x = some c → cells.lookup x = some c
  | [], _, _, h0, e => h0 e
  | (n, k) :: r, cs, h, h0, e => by
    refine Zl0 (names := r) (fun y hy => h y (List.mem_cons_of_mem _ hy)) ?_ e
    intro e'
    by_cases hk : k = .free
    · rw [if_pos hk] at e'
      obtain ⟨c', hc⟩ := h (n, k) List.mem_cons_self hk
      rw [hc] at e'
      by_cases hx : x == n
      · simp only [List.lookup_cons, hx] at e'
        cases e'
        have : x = n := by simpa using hx
        rw [this]; exact hc
      · have hx' : (x == n) = false := by simpa using hx
        simp only [List.lookup_cons, hx'] at e'
        exact h0 e'
    · rw [if_neg hk] at e'; exact h0 e'
theorem Zjk {cells : List (Str × Addr)} {x : Str} : ∀ {names : List (Str × NameKind)} {cs : List (Str × Addr)}, (∃ c, cs.lookup x = some c) → ∃ c, (clOf cells names cs).lookup x = some c
  | [], _, h => h
  | (n, k) :: r, cs, ⟨c, h⟩ => by
    refine Zjk (names := r) ?_
    by_cases hk : k = .free
    · rw [if_pos hk]
      by_cases hx : x == n
      · exact ⟨(cells.lookup n).getD 0, by simp only [List.lookup_cons, hx]⟩
      · have hx' : (x == n) = false := by simpa using hx
        exact ⟨c, by simp only [List.lookup_cons, hx']; exact h⟩
    · rw [if_neg hk]; exact ⟨c, h⟩
theorem Zgc {cells : List (Str × Addr)} {x : Str} : ∀ {names : List (Str × NameKind)} {cs : List (Str × Addr)}, (x, NameKind.free) ∈ names → ∃ c, (clOf cells names cs).lookup x = some c
  | [], _, h => nomatch h
  | (n, k) :: r, cs, h => by
    rcases List.mem_cons.mp h with e | e
    · cases e
      refine Zjk (names := r) ⟨(cells.lookup x).getD 0, ?_⟩
      rw [if_pos rfl]
      simp [List.lookup_cons]
    · exact Zgc (names := r) e
noncomputable def rlF (env : Env) : Str × NameKind → Str × NameKind := fun (n, k) => if (k == NameKind.free && env.scope.kind == .function && env.kindOf n == some .cell) then (n, NameKind.cell) else (n, k)
theorem Zky (env : Env) (p : Str × NameKind) : (rlF env p).1 = p.1 := by
  obtain ⟨n, k⟩ := p
  unfold rlF
  dsimp only
  split <;> rfl
theorem Zdp {f : Str × NameKind → Str × NameKind} (h : ∀ p, (f p).1 = p.1) (x : Str) : ∀ names : List (Str × NameKind), (names.map f).lookup x = (names.lookup x).map fun k => (f (x, k)).2
  | [] => rfl
  | (n, k) :: r => by
    have ih := Zdp h x r
    have e : f (n, k) = (n, (f (n, k)).2) := Prod.ext (h (n, k)) rfl
    rw [List.map_cons, e, List.lookup_cons, List.lookup_cons]
    cases hx : x == n with
    | true =>
      have : x = n := by simpa using hx
      subst this
      rfl
    | false => exact ih
theorem Zhi {x : Str} {k : NameKind} : ∀ {names : List (Str × NameKind)}, names.lookup x = some k → (x, k) ∈ names
  | [], h => by simp at h
  | (n, k') :: r, h => by
    rw [List.lookup_cons] at h
    cases hx : x == n with
    | true =>
      rw [hx] at h
      have : x = n := by simpa using hx
      subst this
      cases h
      exact List.mem_cons_self
    | false => rw [hx] at h; exact List.mem_cons_of_mem _ (Zhi h)
theorem Zd1 {env : Env} {names : List (Str × NameKind)} {x : Str} {kk : NameKind} (hn : ∀ y ∈ names, y.2 ≠ .cell) (hk : kk = .cell ∨ kk = .free) (h : (names.map (rlF env)).lookup x = some kk) : (x, NameKind.free) ∈ names := by
  rw [Zdp (Zky env)] at h
  obtain ⟨k, h1, h2⟩ := Option.map_eq_some_iff.mp h
  have hm := Zhi h1
  have hc : k ≠ .cell := hn _ hm
  by_cases hf : k = .free
  · subst hf; exact hm
  · exfalso
    have hb : (k == NameKind.free) = false := by simpa using hf
    unfold rlF at h2
    simp only [hb, Bool.false_and, Bool.false_eq_true, if_false] at h2
    rcases hk with e | e
    · exact hc (h2.trans e)
    · exact hf (h2.trans e)
inductive BSrc where
  | own | cap (j : Nat) | acc
noncomputable def Zxh (σ : St) (acc : Addr) : BSrc → Option V
  | .own => none
  | .cap j => (σ[j]?).join
  | .acc => some (.ref acc)
noncomputable def bSt (src : List BSrc) (σ : St) (acc : Addr) : St := src.map (Zxh σ acc)
noncomputable abbrev Cx.block (X : Cx) (N' : List Str) (scope : Scope) (C : Addr) (s₀ : Shared) (H₀ : Hp) (ex : List Addr) : Cx :=
  { X with N := N', env := compEnvC scope (clOf X.env.cells scope.names []) C X.env, s₀ := s₀, H₀ := H₀, outer := X.stack, stack := X.stack, ex := ex, fn := fun _ => false, pn := [], xe := fun _ _ => False }
structure CompScope (X : Cx) (N' : List Str) (scope : Scope) (src : List BSrc) : Prop where
  kind : scope.kind = .function
  nocell : ∀ y ∈ scope.names, y.2 ≠ .cell
  names : ∀ y ∈ scope.names, y.2 = .local → scope.names.lookup y.1 = some .local
  free : ∀ y ∈ scope.names, y.2 = .free → X.env.kindOf y.1 = some .cell ∨ X.env.kindOf y.1 = some .free
  len : src.length = N'.length
  cap : ∀ (k j : Nat) (x : Str), src[k]? = some (.cap j) → N'[k]? = some x → X.N[j]? = some x ∧ (X.env.kindOf x = some .cell ∨ X.env.kindOf x = some .free) ∧ scope.names.lookup x = some .free
  acc : ∀ (k : Nat) (x : Str), src[k]? = some .acc → N'[k]? = some x → scope.names.lookup x = none
theorem Zet {env : Env} {names : List (Str × NameKind)} {x : Str} (h : names.lookup x = none) : (names.map (rlF env)).lookup x = none := by
  rw [Zdp (Zky env), h]; rfl
theorem Zeu {env : Env} {names : List (Str × NameKind)} {x : Str} (h : names.lookup x = some .free) : (names.map (rlF env)).lookup x = some .cell ∨ (names.map (rlF env)).lookup x = some .free := by
  rw [Zdp (Zky env), h]
  unfold rlF
  dsimp only [Option.map]
  split
  · exact .inl rfl
  · exact .inr rfl
section
variable {X : Cx} {N' : List Str} {scope : Scope} {src : List BSrc} {pins : List (Addr × Obj)} {σ : St} {H : Hp} {s : Shared} {C acc : Addr} {fp : List Addr}
theorem Zgl {h1 : Heap} {tk : Nat} (S : CompScope X N' scope src) (I : Inv X pins σ H s) (hC : C = s.heap.objs.size) (hf : ∀ b ∈ fp, FpOk X pins H b) (hfo : ∀ b ∈ fp, ∃ o, s.heap.get? b = some o)
    (hns : h1.Ns C fun _ => none) (hk : ∀ b o, s.heap.get? b = some o → h1.get? b = some o) :
    Inv (X.block N' scope C s H fp) [] (bSt src σ acc) H { s with heap := h1, toks := tk } := by
  have cellf : ∀ y ∈ scope.names, y.2 = .free → ∃ c, X.env.cells.lookup y.1 = some c := fun y hy e => I.ok.has y.1 (S.free y hy e)
  have sub : ∀ x c, (clOf X.env.cells scope.names []).lookup x = some c → X.env.cells.lookup x = some c := fun x c e => Zl0 cellf (fun h => by simp at h) e
  have gt : ∀ b, b < s.heap.objs.size → b ≠ C := fun b hb e => by rw [e, hC] at hb; exact Nat.lt_irrefl _ hb
  refine ⟨⟨I.ok.mod, S.kind, I.ok.glob, I.ok.blt, by rw [hC]; exact Nat.le_refl _, fun x y c h1 h2 => I.ok.inj x y c (sub x c h1) (sub y c h2), fun x hx => ?_, fun x c h => absurd h Bool.false_ne_true, I.ok.hd, I.ok.frames, .inl rfl, fun b hb => ?_, I.bs,
    Nat.le_trans I.ok.bsz I.sz, fun b o e hb => ?_, fun b hb hs => ?_, I.stack, I.stkFree⟩, rfl, I.bare, Un.kept hk, ⟨_, hns, fun i x v e1 e2 e3 => ?_⟩, fun x c e => ?_, ?_, fun x c e => I.freeC x c (sub x c e), fun p hp => ?_, I.hok.kept hk, ?_⟩
  · rcases hx with hx | hx
    · exact Zgc (Zd1 S.nocell (.inl rfl) hx)
    · exact Zgc (Zd1 S.nocell (.inr rfl) hx)
  · obtain ⟨f0, f1, f2, f3, f4, f5⟩ := hf b hb
    refine ⟨?_, fun x c e => f4 x c (sub x c e)⟩
    show b ≠ C
    obtain ⟨o, ho⟩ := hfo b hb
    exact gt b (Heap.lt_size ho)
  · obtain ⟨f0, f1, f2, f3, f4, f5⟩ := hf b hb
    rcases f3 with z | z
    · exact I.ok.noex b o e z
    · exact absurd (Nat.lt_of_lt_of_le (Heap.lt_size e) (Nat.le_trans I.ok.bsz z)) (Nat.lt_irrefl _)
  · obtain ⟨f0, f1, f2, f3, f4, f5⟩ := hf b hb
    rcases List.mem_cons.mp (I.stkSub b hs) with z | z
    · exact f1 z
    · exact f2 z
  · have hsrc : ∃ q, src[i]? = some q := by
      cases q : src[i]? with
      | some q0 => exact ⟨q0, rfl⟩
      | none =>
        have e2' : (bSt src σ acc)[i]? = some (some v) := e2
        unfold bSt at e2'
        rw [List.getElem?_map, q] at e2'; cases e2'
    obtain ⟨q, hq⟩ := hsrc
    have e2' : (bSt src σ acc)[i]? = some (some v) := e2
    unfold bSt at e2'
    rw [List.getElem?_map, hq] at e2'
    have e2'' : Zxh σ acc q = some v := Option.some.inj e2'
    cases q with
    | own => cases e2''
    | acc =>
      exfalso
      have hno := Zet (env := X.env) (S.acc i x hq e1)
      have hno' : (relabel scope X.env).names.lookup x = none := hno
      have e3' : Vis (relabel scope X.env) x := e3
      rcases e3' with z | z | z
      · rw [hno'] at z; cases z
      · rw [hno'] at z; cases z
      · rw [hno'] at z; cases z
    | cap j =>
      obtain ⟨hj, hkind, hfr⟩ := S.cap i j x hq e1
      have hσ : σ[j]? = some (some v) := by
        have e4 : (σ[j]?).join = some v := e2''
        cases r : σ[j]? with
        | none => rw [r] at e4; cases e4
        | some o => rw [r] at e4; cases o with
          | none => cases e4
          | some w' => cases e4; rfl
      obtain ⟨m, hn, hl⟩ := I.loc
      obtain ⟨u, ru, l⟩ := hl j x v hj hσ (by rcases hkind with z | z; exact .inr (.inl z); exact .inr (.inr z))
      refine ⟨u, ru, ?_⟩
      rcases l with ⟨z, _⟩ | ⟨_, c, hc, hcell⟩
      · rcases hkind with y | y
        · rw [y] at z; cases z
        · rw [y] at z; cases z
      · have e3' : Vis (relabel scope X.env) x := e3
        have fin : ∀ kk, kk = .cell ∨ kk = .free → (relabel scope X.env).names.lookup x = some kk → Look (X.block N' scope C s H fp).env h1 (fun _ => none) x u := fun kk hkk hx => by
          obtain ⟨c', hc'⟩ := Zgc (cells := X.env.cells) (cs := []) (Zd1 S.nocell hkk hx)
          have := sub x c' hc'
          rw [hc] at this; cases this
          obtain ⟨oc, hoc, hocd⟩ := hcell
          refine .inr ⟨?_, c, hc', oc, hk c oc hoc, hocd⟩
          rcases hkk with y | y
          · subst y; exact .inl hx
          · subst y; exact .inr hx
        rcases e3' with z | z | z
        · exfalso
          have z' : (relabel scope X.env).names.lookup x = some .local := z
          rcases Zeu (env := X.env) hfr with y | y
          · have y' : (relabel scope X.env).names.lookup x = some .cell := y
            rw [z'] at y'; cases y'
          · have y' : (relabel scope X.env).names.lookup x = some .free := y
            rw [z'] at y'; cases y'
        · exact fin .cell (.inl rfl) z
        · exact fin .free (.inr rfl) z
  · obtain ⟨v, oc, hoc, hocd⟩ := I.cell x c (sub x c e)
    exact ⟨v, oc, hk c oc hoc, hocd⟩
  · show H C = none
    rw [hC]; exact I.hok.fresh (Nat.le_refl _)
  · have hp' : p ∈ ([] : List (Addr × Obj)) := by simpa using hp
    exact nomatch hp'
  · show (bSt src σ acc).length = N'.length
    unfold bSt
    rw [List.length_map]; exact S.len
noncomputable def Zua (src : List BSrc) (wi : TI) (g : TG) (tt : TT) (te : TE) : TE := fun σ H Q => wi σ H fun J H1 => ∀ acc, H1 acc = none →
  ∃ W : Nat → Nat → St → Hp → Prop, (∃ m, W 0 m (bSt src σ acc) (upd H1 acc (.lst []))) ∧ ∀ i m σ' H, W i m σ' H → (J.stop i H ∧ Q (.ref acc) H) ∨
    (J.go i H ∧ ∀ x H', J.yld i H x H' → g x σ' H' fun σ2 H2 => tt σ2 H2 fun b H3 => if b = true then te σ2 H3 fun y H4 => Zdz (.ref acc) [y] H4 fun _ H5 => ∃ m', m' < m ∧ W (i + 1) m' σ2 H5 else ∃ m', m' < m ∧ W (i + 1) m' σ2 H3)
noncomputable def PTs (X : Cx) (ifs : List Expr) (t : TT) : Prop :=
  ∀ (pins : List (Addr × Obj)) (s : Shared) (σ : St) (H : Hp) (Q : Bool → Hp → Prop), Inv X pins σ H s → t σ H Q →
    wpAny (model X.prog X.w) X.A (forIn ifs true fun c r => if r = true then do let ok ← isTrue c X.env (eval c X.env); pure (ForInStep.yield ok) else pure (ForInStep.yield r)) (TP X pins σ Q) X.xe s
noncomputable def Z0l : TT := fun _ H Q => Q true H
theorem Zub : PTs X [] Z0l := fun _ s σ H Q I h => wpAny_tests_nil ⟨H, I, h⟩
theorem Zuc {c : Expr} {t : TT} (h : PT X c t) : PTs X [c] t := fun pins s σ H Q I q => wpAny_tests_one (h pins s σ H Q I q)
theorem Zoe {prog : Program} {w : World} {A : Around} {s : Shared} {elt target iter : Expr} {ifs : List Expr} {scope : Scope} {pos : Pos} {it acc : Value} {env : Env} {R : Result → Shared → Prop} (I : Nat → Shared → Prop)
    (turn : ∀ n s, I n s → wpAny (model prog w) A (pyNext it) (fun r s₁ => match r with
      | none => R (.ok .next) s₁
      | some v => wpAny (model prog w) A (letOwnedTupleGo target it v) (fun _ s₀ => wpAny (model prog w) A (assign target env v) (fun _ s₂ =>
          wpAny (model prog w) A (forIn ifs true fun c r => if r = true then do let ok ← isTrue c env (eval c env); pure (ForInStep.yield ok) else pure (ForInStep.yield r)) (fun ok s₃ => if ok = true then wpAny (model prog w) A (eval elt env) (fun x s₄ =>
            wpAny (model prog w) A (call (.builtin "list.append") [acc, x]) (fun _ s₅ => ∃ m, m < n ∧ I m s₅) (fun _ _ => False) s₄) (fun _ _ => False) s₃
            else ∃ m, m < n ∧ I m s₃) (fun _ _ => False) s₂)
          (fun _ _ => False) s₀) (fun _ _ => False) s₁) (fun _ _ => False) s)
    (n : Nat) (h : I n s) : codeAny (model prog w) A (.compLoop (.ListComp elt [⟨target, iter, ifs, 0⟩] scope pos) 0 it acc env) R s := by
  refine codeAny_loop rfl I (fun n s hI => ?_) n h
  show wpAny _ A ((compTurn (.ListComp elt [⟨target, iter, ifs, 0⟩] scope pos) 0 it acc env).onRaise (fun x => do noteFrame x env; theTreesLotGoes x)) _ _ s
  refine wpAny_noted ?_
  rw [compTurn_list]
  refine wpAny_bind (wpAny_standAt (wpAny_bind (wpAny_mono (turn n s hI) (fun r s₁ h₁ => ?_) fun _ _ f => f.elim)))
  cases r with
  | none => exact wpAny_pure h₁
  | some v =>
    refine wpAny_bind (wpAny_mono h₁ (fun _ s₀ h₀' => ?_) fun _ _ f => f.elim)
    refine wpAny_bind (wpAny_mono h₀' (fun _ s₂ h₂ => ?_) fun _ _ f => f.elim)
    refine wpAny_bind (wpAny_mono h₂ (fun okb s₃ h₃ => ?_) fun _ _ f => f.elim)
    cases okb with
    | false => exact wpAny_pure ⟨rfl, h₃⟩
    | true => exact wpAny_bind (wpAny_bind (wpAny_mono h₃ (fun x s₄ h₄ => wpAny_bind (wpAny_mono h₄ (fun _ s₅ h₅ => wpAny_pure (wpAny_pure ⟨rfl, h₅⟩)) fun _ _ f => f.elim)) fun _ _ f => f.elim))
theorem Zhj {tg elt iter : Expr} {ifs : List Expr} {pos : Pos} {g : TG} {tt : TT} {te : TE} {it : Addr} {tn : Nat → Heap → Prop} {J : It} {Q : VK} {RR : Value → Addr → Result → Shared → Prop} {E : Value → Shared → Prop}
    (hc : X.calm = true) (S : CompScope X N' scope src)
    (hg : ∀ (C : Addr) (s₀ : Shared) (H₀ : Hp) (ex : List Addr), PG (X.block N' scope C s₀ H₀ ex) tg g)
    (ht : ∀ (C : Addr) (s₀ : Shared) (H₀ : Hp) (ex : List Addr), PTs (X.block N' scope C s₀ H₀ ex) ifs tt)
    (he : ∀ (C : Addr) (s₀ : Shared) (H₀ : Hp) (ex : List Addr), PE (X.block N' scope C s₀ H₀ ex) elt te)
    (I : Inv X pins σ H s) (T : Turn X.prog X.w X.K tg J fp it tn) (st : tn 0 s.heap) (hf : ∀ b ∈ fp, FpOk X pins H b)
    (q : ∀ acc, H acc = none → ∃ W : Nat → Nat → St → Hp → Prop, (∃ m, W 0 m (bSt src σ acc) (upd H acc (.lst []))) ∧ ∀ i m σ' H, W i m σ' H → (J.stop i H ∧ Q (.ref acc) H) ∨
      (J.go i H ∧ ∀ x H', J.yld i H x H' → g x σ' H' fun σ2 H2 => tt σ2 H2 fun b H3 => if b = true then te σ2 H3 fun y H4 => Zdz (.ref acc) [y] H4 fun _ H5 => ∃ m', m' < m ∧ W (i + 1) m' σ2 H5 else ∃ m', m' < m ∧ W (i + 1) m' σ2 H3))
    (hRR : ∀ (acc C : Addr) (s' : Shared) (H' : Hp) (m : Str → Option Value), Inv X pins σ H' s' → Q (.ref acc) H' → s'.heap.Ns C m → H' C = none → C ≠ X.env.locals → X.s₀.heap.objs.size ≤ C → (∀ x c, X.env.cells.lookup x = some c → c ≠ C) → (∀ p ∈ X.pn ++ pins, p.1 ≠ C) →
      RR (.ref acc) C (.ok .next) s') :
    wpAny (model X.prog X.w) X.A (newList []) (fun acc s₃ => wpAny (model X.prog X.w) X.A (newFunctionEnv scope X.env.globals (clOf X.env.cells scope.names []) [] X.env.qual none .none (some X.env)) (fun cenv s₄ =>
      codeAny (model X.prog X.w) X.A (.compStart (.ListComp elt [⟨tg, iter, ifs, 0⟩] scope pos) 0 (.ref it) acc { cenv with scope := relabel scope X.env }) (RR acc cenv.locals) s₄) E s₃) E s := by
  have hfo : ∀ b ∈ fp, ∃ o, s.heap.get? b = some o := fun b hb => let ⟨o, e, _⟩ := T.obj 0 _ st b hb; ⟨o, e⟩
  refine wpAny_newObj_type (wpAny_newFunctionEnv S.nocell (by intro y hy; simp at hy) (fun h₁ hns₁ hsb₁ => ?_) S.kind)
  dsimp only at hns₁ hsb₁ ⊢
  have hacc : H s.heap.objs.size = none := I.hok.fresh (Nat.le_refl _)
  have I3 : Inv X pins σ (upd H s.heap.objs.size (.lst [])) { s with heap := s.heap.push { cls := .type "list", dict := none, data := .seq ([] : List Value).toArray } } := I.lnew (t' := s.toks) (its := []) (ys := []) .nil (Nat.zero_le _)
  have hf3 : ∀ b ∈ fp, FpOk X pins (upd H s.heap.objs.size (.lst [])) b := fun b hb => by
    obtain ⟨f0, f⟩ := hf b hb
    obtain ⟨o, ho⟩ := hfo b hb
    exact ⟨by rw [Zv (Nat.ne_of_lt (Heap.lt_size ho))]; exact f0, f⟩
  have hfo3 : ∀ b ∈ fp, ∃ o, (s.heap.push { cls := .type "list", dict := none, data := .seq ([] : List Value).toArray }).get? b = some o := fun b hb => let ⟨o, e⟩ := hfo b hb; ⟨o, Heap.get?_push_of_some _ e⟩
  obtain ⟨W, ⟨m0, w0⟩, turn⟩ := q _ hacc
  generalize hH2 : s.heap.push { cls := .type "list", dict := none, data := .seq ([] : List Value).toArray } = H2 at hns₁ hsb₁ I3 hfo3 ⊢
  have keep : ∀ b o, H2.get? b = some o → h₁.get? b = some o := fun b o e => hsb₁.extBut b o (Nat.ne_of_lt (Heap.lt_size e)) (Heap.get?_push_of_some _ e)
  have J0 := Zgl (N' := N') (scope := scope) (src := src) (acc := s.heap.objs.size) (tk := s.toks + ([] : List (Str × Value)).length) (C := H2.objs.size) S I3 rfl hf3 hfo3 (show h₁.Ns H2.objs.size (fun _ => none) from hns₁) keep
  have st1 : tn 0 h₁ := T.keep 0 s.heap h₁ st fun b hb o e => keep b o (by rw [← hH2]; exact Heap.get?_push_of_some _ e)
  have cne : H2.objs.size ≠ X.env.locals := Nat.ne_of_gt I3.lt
  have csz : X.s₀.heap.objs.size ≤ H2.objs.size := I3.sz
  have ccell : ∀ x c, X.env.cells.lookup x = some c → c ≠ H2.objs.size := fun x c e z => by
    obtain ⟨v, oc, hoc, _⟩ := I3.cell x c e
    exact absurd (Heap.lt_size hoc) (by rw [z]; exact Nat.lt_irrefl _)
  have cpin : ∀ p ∈ X.pn ++ pins, p.1 ≠ H2.objs.size := fun p hp z => absurd (Heap.lt_size (I3.pin p hp).1) (by rw [z]; exact Nat.lt_irrefl _)
  have loop : ∀ s₃ : Shared, s₃ = { s with heap := h₁, toks := s.toks + ([] : List (Str × Value)).length } →
      codeAny (model X.prog X.w) X.A (.compLoop (.ListComp elt [⟨tg, iter, ifs, 0⟩] scope pos) 0 (.ref it) (.ref s.heap.objs.size) (compEnvC scope (clOf X.env.cells scope.names []) H2.objs.size X.env)) (RR (.ref s.heap.objs.size) H2.objs.size) s₃ := by
    rintro s₃ rfl
    refine Zoe (fun n s' => ∃ i σ' H', Inv (X.block N' scope H2.objs.size { s with heap := H2 } (upd H s.heap.objs.size (.lst [])) fp) [] σ' H' s' ∧ tn i s'.heap ∧ (∀ b ∈ fp, H' b = none) ∧ W i n σ' H') ?_ m0 ⟨0, _, _, J0, st1, fun b hb => (hf3 b hb).1, w0⟩
    rintro n s4 ⟨i, σ4, H4, J4, st4, fr4, w4⟩
    have fok : ∀ {H' : Hp}, (∀ b ∈ fp, H' b = none) → ∀ b ∈ fp, FpOk (X.block N' scope H2.objs.size { s with heap := H2 } (upd H s.heap.objs.size (.lst [])) fp) [] H' b := fun {H'} hn b hb => by
      obtain ⟨f0, f1, f2, f3, f4, f5⟩ := hf3 b hb
      refine ⟨hn b hb, ?_, fun z => J4.ok.exfs b hb z, .inl hb, fun x c e => (J4.ok.exf b hb).2 x c e, fun p hp => ?_⟩
      · exact (J4.ok.exf b hb).1
      · have hp' : p ∈ ([] : List (Addr × Obj)) := by simpa using hp
        exact nomatch hp'
    rcases turn i n σ4 H4 w4 with ⟨stop, qn⟩ | ⟨go, step⟩
    · refine thn (T.done (X.block N' scope H2.objs.size { s with heap := H2 } (upd H s.heap.objs.size (.lst [])) fp) rfl rfl rfl hc i [] s4 σ4 H4 _ J4 (fok fr4) st4 stop) fun r s5 ⟨hr, J5⟩ => ?_
      subst hr
      obtain ⟨m5, hn5, _⟩ := J5.loc
      have I5 : Inv X pins σ H4 s5 := I3.call' (ch := fp) J5.os J5.base J5.hok J5.bare fun b hb => by
        obtain ⟨f0, f1, f2, f3, f4, f5⟩ := hf3 b hb
        exact ⟨f3, f1, f4, f5⟩
      exact hRR _ _ s5 H4 m5 I5 qn hn5 J5.free cne csz ccell cpin
    · refine thn (T.item (X.block N' scope H2.objs.size { s with heap := H2 } (upd H s.heap.objs.size (.lst [])) fp) rfl rfl rfl hc i [] s4 σ4 H4 _ J4 (fok fr4) st4 go) fun r s5 ⟨u, hr, h5⟩ => ?_
      subst hr
      refine thn h5 fun _ s6 ⟨x, H6, J6, r6, y6, st6, fr6⟩ => ?_
      have J6' := J6.pinned (fok fr6) (T.obj _ _ st6)
      have again : ∀ {σ7 : St} {H7 : Hp} {s7 : Shared}, Inv (X.block N' scope H2.objs.size { s with heap := H2 } (upd H s.heap.objs.size (.lst [])) fp) ([] ++ Zhg fp s6.heap) σ7 H7 s7 → (∃ m', m' < n ∧ W (i + 1) m' σ7 H7) →
          ∃ m, m < n ∧ ∃ i σ' H', Inv (X.block N' scope H2.objs.size { s with heap := H2 } (upd H s.heap.objs.size (.lst [])) fp) [] σ' H' s7 ∧ tn i s7.heap ∧ (∀ b ∈ fp, H' b = none) ∧ W i m σ' H' := fun {σ7 H7 s7} J7 ⟨m', hm, w7⟩ => by
        refine ⟨m', hm, i + 1, σ7, H7, J7.unpinned, T.keep _ _ _ st6 fun b hb o e => (J7.pin (b, o) (List.mem_append_right _ (List.mem_append_right _ (Zcw hb e)))).1, fun b hb => ?_, w7⟩
        obtain ⟨o, e, d⟩ := T.obj _ _ st6 b hb
        exact (J7.pin (b, o) (List.mem_append_right _ (List.mem_append_right _ (Zcw hb e)))).2.1
      refine thn (hg _ _ _ _ _ s6 σ4 H6 x u _ J6' r6 (step x H6 y6)) fun _ s7 ⟨σ7, H7, J7, q7⟩ => ?_
      refine thn (ht _ _ _ _ _ s7 σ7 H7 _ J7 q7) fun b s8 ⟨H8, J8, q8⟩ => ?_
      cases b with
      | false => rw [if_neg Bool.false_ne_true] at q8 ⊢; exact again J8 q8
      | true =>
        rw [if_pos rfl] at q8 ⊢
        refine thn (he _ _ _ _ _ s8 σ7 H8 _ J8 q8) fun y s9 ⟨vy, H9, J9, r9, q9⟩ => ?_
        refine thn (Zd0 _ s9 σ7 H9 (.ref s.heap.objs.size) [vy] (.ref s.heap.objs.size) [y] _ J9 rfl (.cons r9 .nil) q9) fun _ s10 ⟨_, H10, J10, _, q10⟩ => again J10 q10
  exact codeAny_compStart_list (loop _ rfl) (T.self X.A 0 _ _ _ st1 (loop _ rfl))
theorem Zud {tg elt iter : Expr} {ifs : List Expr} {pos : Pos} {wi : TI} {g : TG} {tt : TT} {te : TE} (hc : X.calm = true) (S : CompScope X N' scope src) (hi : PI X tg iter wi)
    (hg : ∀ (C : Addr) (s₀ : Shared) (H₀ : Hp) (ex : List Addr), PG (X.block N' scope C s₀ H₀ ex) tg g)
    (ht : ∀ (C : Addr) (s₀ : Shared) (H₀ : Hp) (ex : List Addr), PTs (X.block N' scope C s₀ H₀ ex) ifs tt)
    (he : ∀ (C : Addr) (s₀ : Shared) (H₀ : Hp) (ex : List Addr), PE (X.block N' scope C s₀ H₀ ex) elt te)
    (hs : ∀ x, foldedSetIterable iter X.env x = pure x := by intro _; rfl) : PE X (.ListComp elt [⟨tg, iter, ifs, 0⟩] scope pos) (Zua src wi g tt te) := by
  intro pins s σ H Q I h
  rw [eval_ListComp]
  refine wpAny_comprehension_free (use := none) rfl hs (Zdo fun y hy e => I.ok.has y.1 (S.free y hy e)) S.kind S.names (thn (hi pins s σ H _ I h) fun v s1 h1 => thn h1 fun itv s2 h2 => ?_)
  obtain ⟨it, fp, tn, J, H2, e, I2, T, st2, f2, q⟩ := h2
  subst e
  refine Zhj hc S hg ht he I2 T st2 f2 q fun acc C s' H' m I' q' hn hC c1 c2 c3 c4 => ⟨m, hn, fun h' hs' => ?_⟩
  exact ⟨.ref acc, H', I'.turned (t' := s'.toks) (fun b o hb e => (hs'.2 b hb).trans e) hC c1 (.inr c2) c3 c4, rfl, q'⟩
theorem Zm7 {tg elt iter : Expr} {ifs : List Expr} {pos spos py : Pos} {wi : TI} {g : TG} {tt : TT} {te : TE} {i : Nat} {y : Str} (hc : X.calm = true) (S : CompScope X N' scope src) (hi : PI X tg iter wi)
    (hg : ∀ (C : Addr) (s₀ : Shared) (H₀ : Hp) (ex : List Addr), PG (X.block N' scope C s₀ H₀ ex) tg g)
    (ht : ∀ (C : Addr) (s₀ : Shared) (H₀ : Hp) (ex : List Addr), PTs (X.block N' scope C s₀ H₀ ex) ifs tt)
    (he : ∀ (C : Addr) (s₀ : Shared) (H₀ : Hp) (ex : List Addr), PE (X.block N' scope C s₀ H₀ ex) elt te)
    (hN : X.N.Nodup) (hiy : X.N[i]? = some y) (hx : X.env.scope.names.lookup y = some .local)
    (hsw : swapsWith (.ListComp elt [⟨tg, iter, ifs, 0⟩] scope pos) (some (.Name y py)) spos.line X.env = pure true)
    (hs : ∀ x, foldedSetIterable iter X.env x = pure x := by intro _; rfl) : PS X (.Assign [.Name y py] (.ListComp elt [⟨tg, iter, ifs, 0⟩] scope pos) spos) (tAsg (Zua src wi g tt te) (Zi6 i)) := by
  intro pins s σ H D I h
  rw [exec_Assign_Name_used _ _ _ _ hsw]
  refine wpAny_bind (wpAny_standAt (wpAny_bind ?_))
  show wpAny _ X.A (do let _ ← comprehension (.ListComp elt [⟨tg, iter, ifs, 0⟩] scope pos) scope X.env _ (newList []) false (eval iter X.env) (some (assign (.Name y py) X.env))) _ _ s
  refine wpAny_bind (wpAny_mono (wpAny_comprehension_free (use := some (assign (.Name y py) X.env)) (Q := fun _ s' => SP X pins D .next s') rfl hs (Zdo fun y hy e => I.ok.has y.1 (S.free y hy e)) S.kind S.names
    (thn (hi pins s σ H _ I h) fun v s1 h1 => thn h1 fun itv s2 h2 => ?_)) (fun _ s' hq => wpAny_pure (wpAny_pure hq)) fun _ _ e => e)
  obtain ⟨it, fp, tn, J, H2, e, I2, T, st2, f2, q⟩ := h2
  subst e
  refine Zhj (Q := fun x H1 => Zi6 i x σ H1 D.nx) hc S hg ht he I2 T st2 f2 q fun acc C s' H' m I' q' hn hC c1 c2 c3 c4 => ?_
  refine wpAny_assign_Name (Zi5 I' hN hiy (.inl hx) (v := .ref acc) (u := .ref acc) rfl (fun s'' I'' ⟨a, hsb, ha⟩ => ?_) (.inr hx))
  have hCa : C ≠ a := by
    rcases ha with z | z
    · rw [z]; exact c1
    · exact Ne.symm (c3 _ _ z)
  refine ⟨m, hn.sameBut hsb hCa, fun h' hs' => ?_⟩
  exact ⟨_, H', I''.turned (t' := s''.toks) (fun b o hb e => (hs'.2 b hb).trans e) hC c1 (.inr c2) c3 c4, q'⟩
end
end L2
namespace L2
open PySem PySem.Spec PyProof.Rows
structure Raised (h : Heap) (e : Addr) (cls : Value) (dx tb : Option Addr) : Prop where
  obj : ∃ oe vs, h.get? e = some oe ∧ oe.cls = cls ∧ oe.dict = dx ∧ oe.data = .fields vs ∧ vs[1]? = some (match tb with | none => .none | some T => .ref T)
  tr : ∀ T, tb = some T → T ≠ e ∧ ∃ oT ts fl, h.get? T = some oT ∧ oT.data = .fields ts ∧ ts[3]? = some fl
noncomputable def tbl' : Option Addr → List Addr
  | none => []
  | some T => [T]
structure Noted (l : List Addr) (h h' : Heap) (e : Addr) (cls : Value) (dx tb : Option Addr) (T : Addr) : Prop where
  keep : ∀ b o, b ≠ e → b ∉ tbl' tb → b ∉ l → h.get? b = some o → h'.get? b = some o
  slot : ∀ b o, b ∈ l → h.get? b = some o → ∃ sl, h'.get? b = some { o with slots := sl }
  new : h.get? T = none ∨ some T = tb
  r : Raised h' e cls dx (some T)
section
variable {M : Model} {A : Around} {E : Value → Shared → Prop} {s : Shared} {base : Heap} {env : Env} {outer : List Env} {L e : Addr} {cls : Value} {dx tb : Option Addr} {Q : Unit → Shared → Prop}
theorem Zq3 (o : Obj) (f : Array Value → Array Value) : (o.mapFields f).dict = o.dict := by
  obtain ⟨c, d, dt, sl⟩ := o
  cases dt <;> rfl
theorem Zjl {oe : Obj} {vs : Array Value} {head : Value} {hadNext : Bool} (hf : A.frames = some (env :: outer)) (ff : s.heap.FunFrames base (env :: outer)) (hL : env.frame = some L)
    (h1 : s.heap.get? e = some oe) (h3 : oe.data = .fields vs) (hz : 1 < vs.size) (he : e ∉ frs (env :: outer))
    (h : ∀ h' T, (∀ b o, b ≠ e → b ∉ frs (env :: outer) → s.heap.get? b = some o → h'.get? b = some o) → (∀ b o, b ≠ e → b ∈ frs (env :: outer) → s.heap.get? b = some o → ∃ sl, h'.get? b = some { o with slots := sl }) → s.heap.get? T = none → T ≠ e →
      h'.get? e = some (oe.mapFields (·.setIfInBounds 1 (.ref T))) → (∃ oT ts fl, h'.get? T = some oT ∧ oT.data = .fields ts ∧ ts[3]? = some fl) → Q () { s with heap := h' }) :
    wpAny M A (do let a ← frameOf env; let pl ← entryPlaceOf L hadNext; let b ← EntryCells.newEntry head a .none (rawInt L) .none pl; setField (.ref e) 1 b) Q E s := by
  refine wpAny_bind (wpAny_frameOf_fun hf ff hL fun g1 sl1 => wpAny_bind (wpAny_entryPlaceOf fun pl ip => ?_))
  unfold EntryCells.newEntry newFields
  have e1 : g1.get? e = some oe := (sl1.2.1 e he).trans h1
  refine wpAny_bind (wpAny_newObj_type (wpAny_setField (Heap.get?_push_of_some _ e1) h3 hz ?_) (ip.sizeOk5 _ _ _ _ _))
  have ne : g1.objs.size ≠ e := Nat.ne_of_gt (Heap.lt_size e1)
  have kp : ∀ b o, b ≠ e → g1.get? b = some o → ((g1.push { cls := .type "traceback", dict := none, data := .fields ([head, .ref L, .none, rawInt L, .none] ++ (if pl.isEmpty then List.replicate 6 Value.none else pl)).toArray }).update e (Obj.mapFields (·.setIfInBounds 1 (Value.ref g1.objs.size)))).get? b = some o := fun b o nb q => by
    rw [Heap.get?_update_other _ _ (Ne.symm nb)]
    exact Heap.get?_push_of_some _ q
  refine h _ g1.objs.size (fun b o nb nf q => kp b o nb ((sl1.2.1 b nf).trans q)) (fun b o nb hb q => ?_) (Heap.get?_none_of_le (by rw [sl1.1]; exact Nat.le_refl _)) ne ?_ ?_
  · obtain ⟨sl, q1⟩ := sl1.2.2 b o q
    exact ⟨sl, kp b _ nb q1⟩
  · exact Heap.get?_update_self _ (Heap.get?_push_of_some _ e1) (Obj.isFreed_of_fields (Obj.data_mapFields h3 _))
  · refine ⟨_, _, rawInt L, (Heap.get?_update_other _ _ (Ne.symm ne)).trans (Heap.get?_push_size g1 rfl), rfl, ?_⟩
    simp
theorem Zh5 (hf : A.frames = some (env :: outer)) (ff : s.heap.FunFrames base (env :: outer)) (hL : env.frame = some L) (r : Raised s.heap e cls dx tb)
    (h : ∀ h' T, Noted (frs (env :: outer)) s.heap h' e cls dx tb T → Q () { s with heap := h' }) : wpAny M A (noteFrame (.ref e) env) Q E s := by
  obtain ⟨oe, vs, h1, h2, hd, h3, h5⟩ := r.obj
  have norec : ∀ b o ws, s.heap.get? b = some o → o.data = .fields ws → b ∉ frs (env :: outer) := fun b o ws q qd hm => by
    obtain ⟨_, o', q1, q2⟩ := ff.mem hm
    rw [q] at q1; cases q1
    exact q2 ws qd
  have he := norec e oe vs h1 h3
  have hz : 1 < vs.size := (Array.getElem?_eq_some_iff.mp h5).1
  have obj' : ∀ (h' : Heap) (T : Addr), h'.get? e = some (oe.mapFields (·.setIfInBounds 1 (.ref T))) → ∃ oe vs, h'.get? e = some oe ∧ oe.cls = cls ∧ oe.dict = dx ∧ oe.data = .fields vs ∧ vs[1]? = some (.ref T) := fun h' T q =>
    ⟨_, _, q, (Obj.cls_mapFields _ _).trans h2, (Zq3 _ _).trans hd, Obj.data_mapFields h3 _, by simp [hz]⟩
  unfold noteFrame
  simp only [hL]
  refine wpAny_bind (wpAny_field h1 h3 h5 ?_)
  cases tb with
  | none =>
    rw [if_neg (by decide)]
    exact Zjl hf ff hL h1 h3 hz he fun h' T k1 k2 k3 k4 k5 k6 => h h' T ⟨fun b o n1 _ n3 q => k1 b o n1 n3 q, fun b o hb q => k2 b o (fun z => he (z ▸ hb)) hb q, .inl k3, obj' h' T k5, fun T' z => by cases z; exact ⟨k4, k6⟩⟩
  | some T0 =>
    obtain ⟨r1, oT, ts, fl, r2, r3, r4⟩ := r.tr T0 rfl
    have hT := norec T0 oT ts r2 r3
    rw [if_pos (show (Value.ref T0 != Value.none) = true from by simp)]
    refine wpAny_bind (wpAny_field r2 r3 r4 ?_)
    by_cases hfl : (fl == rawInt L) = true
    · rw [if_pos hfl]
      exact wpAny_pure (h s.heap T0 ⟨fun _ _ _ _ _ q => q, fun b o _ q => ⟨o.slots, q⟩, .inr rfl, r⟩)
    · rw [if_neg hfl]
      have oth : ∀ b, b ≠ T0 → (s.heap.update T0 (Obj.mapFields (·.setIfInBounds 3 Value.none))).get? b = s.heap.get? b := fun b hb => Heap.get?_update_other _ _ (Ne.symm hb)
      have sz3 := (Array.getElem?_eq_some_iff.mp r4).1
      have atT : (s.heap.update T0 (Obj.mapFields (·.setIfInBounds 3 Value.none))).get? T0 = some (oT.mapFields (·.setIfInBounds 3 Value.none)) := Heap.get?_update_self _ r2 (Obj.isFreed_of_fields (Obj.data_mapFields r3 _))
      refine wpAny_bind (wpAny_setField r2 r3 sz3 (Zjl (base := base) hf (ff.of_keeps fun b o q nf => ⟨o, (oth b fun z => nf ts (by rw [z, r2] at q; cases q; exact r3)).trans q, rfl⟩) hL ((oth e (Ne.symm r1)).trans h1) h3 hz he fun h' T k1 k2 k3 k4 k5 k6 => ?_))
      refine h h' T ⟨fun b o n1 n2 n3 q => k1 b o n1 n3 ((oth b fun z => n2 (by rw [z]; exact List.mem_singleton.mpr rfl)).trans q), fun b o hb q => k2 b o (fun z => he (z ▸ hb)) hb ((oth b fun z => hT (z ▸ hb)).trans q), ?_, obj' h' T k5, fun T' z => by cases z; exact ⟨k4, k6⟩⟩
      by_cases z : T = T0
      · exact .inr (by rw [z])
      · exact .inl ((oth T z).symm.trans k3)
theorem Zef {T : Addr} {fr : Option Addr} {l : List Addr} (r : Raised s.heap e cls dx (some T)) (hn : ∀ b o ws, s.heap.get? b = some o → o.data = .fields ws → b ∉ l)
    (h : ∀ h', Noted l s.heap h' e cls dx (some T) T → Q () { s with heap := h' }) : wpAny M A (setFlight (.ref e) fr) Q E s := by
  obtain ⟨oe, vs, h1, h2, hd, h3, h5⟩ := r.obj
  obtain ⟨r1, oT, ts, fl, r2, r3, r4⟩ := r.tr T rfl
  have sz3 := (Array.getElem?_eq_some_iff.mp r4).1
  unfold setFlight
  refine wpAny_bind (wpAny_field h1 h3 h5 ?_)
  rw [if_pos (show (Value.ref T != Value.none) = true from by simp)]
  have oth : ∀ b, b ≠ T → (s.heap.update T (Obj.mapFields (·.setIfInBounds 3 (fr.elim .none fun f => rawInt f)))).get? b = s.heap.get? b := fun b hb => Heap.get?_update_other _ _ (Ne.symm hb)
  refine wpAny_setField r2 r3 sz3 (h _ ⟨fun b o n1 n2 n3 q => (oth b fun z => n2 (by rw [z]; exact List.mem_singleton.mpr rfl)).trans q, fun b o hb q => ⟨o.slots, (oth b fun z => hn T oT ts r2 r3 (z ▸ hb)).trans q⟩, .inr rfl, ⟨oe, vs, (oth e (Ne.symm r1)).trans h1, h2, hd, h3, h5⟩, fun T' z => ?_⟩)
  cases z
  exact ⟨r1, _, _, fr.elim .none fun f => rawInt f, Heap.get?_update_self _ r2 (Obj.isFreed_of_fields (Obj.data_mapFields r3 _)), Obj.data_mapFields r3 _, by simp [sz3]⟩
theorem Noted.trans {l : List Addr} {h h1 h2 : Heap} {T T' : Addr} (a : Noted l h h1 e cls dx tb T) (b : Noted l h1 h2 e cls dx (some T) T') (hT : T ∉ l) (hT0 : ∀ T0, tb = some T0 → h.get? T = none ∨ T = T0) : Noted l h h2 e cls dx tb T' := by
  have nT : ∀ b o, b ∉ tbl' tb → h.get? b = some o → b ≠ T := fun b o n q z => by
    rcases a.new with k | k
    · rw [z, k] at q; cases q
    · rw [← k] at n; exact n (by rw [z]; exact List.mem_singleton.mpr rfl)
  refine ⟨fun c o n1 n2 n3 q => b.keep c o n1 (fun z => nT c o n2 q (List.mem_singleton.mp z)) n3 (a.keep c o n1 n2 n3 q), fun c o hc q => ?_, ?_, b.r⟩
  · obtain ⟨sl, q1⟩ := a.slot c o hc q
    obtain ⟨sl', q2⟩ := b.slot c _ hc q1
    exact ⟨sl', q2⟩
  · rcases b.new with k | k
    · by_cases hm : some T' = tb
      · exact .inr hm
      · refine .inl ?_
        cases z : h.get? T' with
        | none => rfl
        | some o =>
          exfalso
          by_cases hl : T' ∈ l
          · obtain ⟨sl, q1⟩ := a.slot T' o hl z
            rw [k] at q1; cases q1
          · by_cases he : T' = e
            · obtain ⟨oe, vs, q1, _⟩ := a.r.obj
              rw [← he, k] at q1; cases q1
            · have := a.keep T' o he (fun y => hm (by cases tb with
                | none => cases y
                | some T0 => rw [List.mem_singleton.mp y])) hl z
              rw [k] at this; cases this
    · cases k
      rcases a.new with k | k
      · exact .inl k
      · exact .inr k
theorem Zg9 (hf : A.frames = some (env :: outer)) (ff : s.heap.FunFrames base (env :: outer)) (hL : env.frame = some L) (r : Raised s.heap e cls dx tb)
    (h : ∀ h' T, Noted (frs (env :: outer)) s.heap h' e cls dx tb T → Q () { s with heap := h' }) : wpAny M A (leaving env (.ref e)) Q E s := by
  have norec : ∀ b o ws, s.heap.get? b = some o → o.data = .fields ws → b ∉ frs (env :: outer) := fun b o ws q qd hm => by
    obtain ⟨_, o', q1, q2⟩ := ff.mem hm
    rw [q] at q1; cases q1
    exact q2 ws qd
  unfold leaving
  refine wpAny_bind (Zh5 hf ff hL r fun h1 T1 n1 => ?_)
  have norec1 : ∀ b o ws, h1.get? b = some o → o.data = .fields ws → b ∉ frs (env :: outer) := fun b o ws q qd hm => by
    obtain ⟨_, o', q1, q2⟩ := ff.mem hm
    obtain ⟨sl, q3⟩ := n1.slot b o' hm q1
    rw [q] at q3; cases q3
    exact q2 ws qd
  refine Zef (s := { s with heap := h1 }) n1.r norec1 fun h2 n2 => ?_
  obtain ⟨_, oT, ts, fl, r2, r3, _⟩ := n1.r.tr T1 rfl
  exact h h2 T1 (n1.trans n2 (norec1 T1 oT ts r2 r3) fun T0 z => by
    rcases n1.new with k | k
    · exact .inl k
    · rw [z] at k; cases k; exact .inr rfl)
end
end L2
namespace L2
open PySem PySem.Spec PyProof.Rows
noncomputable def CX1 (P : Program) (w : World) : CXT := fun outer H s E e s' => ∃ (a : Addr) (cls : Value) (dx : Option Addr) (T : Addr) (H' : Hp), e = .ref a ∧ s'.os = s.os ∧ AllBare s'.gens ∧ Un (frs outer) [] H H' s.heap s'.heap ∧ HOk P w H' s'.heap ∧
  Raised s'.heap a cls dx (some T) ∧ s.heap.get? a = none ∧ s.heap.get? T = none ∧ H' a = none ∧ H' T = none ∧ E cls dx H'
noncomputable def Zjm (X : Cx) (EX : XK) : Prop := ∀ (pins : List (Addr × Obj)) (σ : St) (H : Hp) (s : Shared) (e : Addr) (cls : Value) (dx tb : Option Addr), Inv X pins σ H s → Raised s.heap e cls dx tb → X.s₀.heap.get? e = none → H e = none →
  (∀ T, tb = some T → X.s₀.heap.get? T = none ∧ H T = none) → EX cls dx H → X.xe (.ref e) s
theorem Zcp.has {P : Program} {w : World} {H : Hp} {h : Heap} {a : Addr} : ∀ {o : HO}, Zcp P w H h a o → ∃ u, h.get? a = some u := by
  intro o
  induction o with
  | lst xs => intro ⟨_, _, _, _, e⟩; exact ⟨_, e⟩
  | tup xs => intro ⟨_, _, _, _, e, _⟩; exact ⟨_, e⟩
  | dK kvs ep => intro ⟨_, _, _, _, o, _, e, _⟩; exact ⟨_, e⟩
  | dT kvs ep bs => intro ⟨_, _, _, _, o, _, e, _⟩; exact ⟨_, e⟩
  | set S n => intro ⟨o, _, _, _, e, _⟩; exact ⟨_, e⟩
  | ins C dx fs => intro ⟨_, _, _, e, _⟩; exact ⟨_, e⟩
  | own y => intro ⟨_, e⟩; exact ⟨_, e⟩
  | xd fs => intro ⟨_, ⟨_, _, _, e, _⟩, _⟩; exact ⟨_, e⟩
  | rng lo hi => intro ⟨_, _, _, e⟩; exact ⟨_, e⟩
  | frz ob u _ => intro ⟨e, _⟩; exact ⟨_, e⟩
  | tbl ps => intro e; exact ⟨_, (show h.get? a = some _ from e)⟩
  | met f y => intro e; exact ⟨_, (show h.get? a = some _ from e)⟩
  | ext φ => intro ⟨_, ⟨_, e⟩, _⟩; exact ⟨_, e⟩
theorem HOk.gone {P : Program} {w : World} {H : Hp} {h : Heap} (ok : HOk P w H h) {a : Addr} (n : h.get? a = none) : H a = none := by
  cases e : H a with
  | none => rfl
  | some o =>
    obtain ⟨u, q⟩ := (ok a o e).has
    rw [n] at q; cases q
theorem Zof {P : Program} {w : World} {H : Hp} {h h' : Heap} (ok : HOk P w H h) (k : ∀ b o, H b ≠ none → h.get? b = some o → h'.get? b = some o) : HOk P w H h' := fun a o e =>
  (ok a o e).stay (fun b u hb q => k b u (by rcases hb with hb | hb <;> rw [hb] <;> simp [e]) q) (fun _ z => z) fun _ _ z => z
theorem Zq4 {env : Env} {l : List Env} {b : Addr} (h : b ∈ frs l) : b ∈ frs (env :: l) := by
  unfold frs at h ⊢
  obtain ⟨x, hx, e⟩ := List.mem_filterMap.mp h
  exact List.mem_filterMap.mpr ⟨x, List.mem_cons_of_mem _ hx, e⟩
theorem Zd2 {P : Program} {w : World} {K : PySem.W.Frag} {mg : Str → Option Value} {base : Heap} {N : List Str} {qual : Str} {scope : Scope} {f : Addr} {cd : Value} {A : Around} {outer : List Env} {s : Shared} {H : Hp} {E : XK} :
    Zjm (cxOf (CX1 P w) P w K mg base N qual scope f cd A outer s H E) E := by
  intro pins σ H1 s1 e cls dx tb I r he heH hT q
  have hf := I.ok.frames
  have ff := I.stack
  have hfr : (cxOf (CX1 P w) P w K mg base N qual scope f cd A outer s H E).env.frame = some (cxOf (CX1 P w) P w K mg base N qual scope f cd A outer s H E).env.locals := by
    rcases I.ok.stk with z | z
    · have := congrArg List.length z
      exact absurd this (by show outer.length + 1 ≠ outer.length; omega)
    · exact z.2
  have sf := I.stkFree
  have he' : s.heap.get? e = none := he
  have up : Un (frs outer) [] H H1 s.heap s1.heap := I.base
  refine Zg9 hf ff hfr r fun h' T ⟨k1, k2, k3, r'⟩ => ?_
  have hT' : s.heap.get? T = none ∧ H1 T = none := by
    rcases k3 with k3 | k3
    · refine ⟨?_, I.hok.gone k3⟩
      cases z : s.heap.get? T with
      | none => rfl
      | some o =>
        obtain ⟨o', q'⟩ := up.there T o z (by simp)
        rw [k3] at q'; cases q'
    · exact hT T k3.symm
  have old : ∀ b o, s.heap.get? b = some o → b ≠ e ∧ b ∉ tbl' tb := fun b o qb => by
    refine ⟨(fun z => by rw [z, he'] at qb; cases qb), fun z => ?_⟩
    cases tb with
    | none => cases z
    | some T0 =>
      have := (hT T0 rfl).1
      rw [List.mem_singleton.mp z] at qb
      have this' : s.heap.get? T0 = none := this
      rw [this'] at qb; cases qb
  have loc : ∀ b o, s.heap.get? b = some o → b ∉ frs outer → b ∉ frs ((cxOf (CX1 P w) P w K mg base N qual scope f cd A outer s H E).env :: outer) := fun b o qb hb hm => by
    unfold frs at hm
    rw [List.filterMap_cons, hfr] at hm
    rcases List.mem_cons.mp hm with z | z
    · have := I.ok.above
      have h2 := Heap.lt_size qb
      rw [z] at h2
      exact absurd h2 (Nat.not_lt.mpr this)
    · exact hb z
  refine ⟨e, cls, dx, T, H1, rfl, I.os, I.bare, ⟨fun b o qb n hb hx => ?_, fun b o qb n hb hx => ?_, fun b o qb n hx => up.free b o qb n hx, fun b o qb hx => ?_, up.tups, up.frzs, up.tbls⟩, ?_, r', he', hT'.1, heH, hT'.2, q⟩
  · obtain ⟨o1, o2⟩ := old b o qb
    exact k1 b o o1 o2 (loc b o qb hb) (up.keep b o qb n hb hx)
  · obtain ⟨sl, q1⟩ := up.slot b o qb n hb hx
    obtain ⟨sl', q2⟩ := k2 b _ (Zq4 hb) q1
    exact ⟨sl', q2⟩
  · obtain ⟨o', q1⟩ := up.there b o qb hx
    obtain ⟨o1, o2⟩ := old b o qb
    by_cases b1 : b ∈ frs ((cxOf (CX1 P w) P w K mg base N qual scope f cd A outer s H E).env :: outer)
    · obtain ⟨sl, z⟩ := k2 b o' b1 q1; exact ⟨_, z⟩
    · exact ⟨o', k1 b o' o1 o2 b1 q1⟩
  · refine Zof I.hok fun b o hb qb => k1 b o (fun z => hb (by rw [z]; exact heH)) (fun z => ?_) (fun z => hb (sf b z)) qb
    cases tb with
    | none => cases z
    | some T0 => exact hb (by rw [List.mem_singleton.mp z]; exact (hT T0 rfl).2)
end L2
namespace L2
open PySem PySem.Spec PyProof.Rows
abbrev VEB : List Value := [.type "ValueError", .type "Exception", .type "BaseException", .type "object"]
theorem Zm8 {h h' : Heap} {bmB : List Value} (k : ∀ b o, h.get? b = some o → h'.get? b = some o) : ∀ {bm : List Value}, OwnTail h bmB bm → OwnTail h' bmB bm := by
  intro bm t
  induction t with
  | base => exact .base
  | own e n m _ ih => exact .own (k _ _ e) (n.keeps k) m ih
noncomputable def Zsw (EX : XK) (C : Addr) (t : TA) : TS := fun _ σ H => t σ H fun vs H1 => vs.length ≤ sizeLine ∧ EX (.ref C) none H1
theorem Zq5 {X : Cx} {EX : XK} {x : Str} {C : Addr} {np cpos pos : Pos} {a : Expr} {t : TA} (th : Zjm X EX) (hc : X.calm = true) (hex : X.ex = []) (oc : OwnCls x C VEB "ValueError.__new__" X.mg X.base) (hg : Gl X x) (ha : PA X [a] t)
    (he : starEach [a] X.env = (false, eval a X.env) :: starEach [] X.env := by rfl) (hpl : ((backTo cpos (starEach [a] X.env)).any fun x => x.1) = false := by rfl)
    (hbk : ∃ y rest, backTo cpos (starEach [a] X.env) = (false, y) :: rest := by exact ⟨_, _, rfl⟩)
    (hbm : ∀ h bm, OwnTail h VEB bm → bm.contains (.type "BaseException") = true) (hd : (x == ("__debug__" : Str)) = false := by decide) : PS X (.Raise (some (.Call (.Name x np) [a] [] cpos)) none pos) (Zsw EX C t) := by
  intro pins s σ H D I h
  obtain ⟨hb, bm, N, nm, q, bs, hdct, sn, sub, ab, col, dd, k0, k1, k2, k3, k5, mN, o1, o2, o3, o4⟩ := oc
  refine wpAny_Raise_call_subU (C := C) (Bn := "ValueError") (B := "ValueError") (nm := nm) (q := q) (N := N) (bs := bs) (bm := bm) (hdct := hdct) (sn := sn) (sub := sub) (ab := ab) (col := col) (dd := dd) (k0 := k0) (k1 := k1) (k2 := k2) (k3 := k3) (k5 := k5) (mN := mN) PySem.F.excBase_ValueError (by decide) PySem.F.excBase_ValueError (hbm _ _ o4) (I.ok.hd hc) hpl o3 ?_
  refine Zgh I hg hb ⟨rfl, ?_⟩ hd
  obtain ⟨y, rest, hy⟩ := hbk
  rw [hy]
  refine Calls.evalArgs_plain ?_
  rw [← hy]
  refine thn (ha cpos pins s σ H _ I h) fun us s2 ⟨vs, H2, I2, r2, zl, q2⟩ => ⟨rfl, (by rw [← r2.length]; exact zl), I2.bk _ _ o1, o2.keeps I2.bk, Zm8 I2.bk o4, fun h' e m => ?_⟩
  · obtain ⟨T, m1, m2, m3⟩ := m.there
    have I3 : Inv X pins σ H2 { s2 with heap := h' } := I2.kept (t' := s2.toks) m.keeps
    refine th pins σ H2 _ e (.ref C) none none I3 ⟨⟨_, _, m1, rfl, rfl, rfl, rfl⟩, fun T' z => nomatch z⟩ ?_ ?_ (fun T' z => nomatch z) q2
    · cases z : X.s₀.heap.get? e with
      | none => rfl
      | some o =>
        obtain ⟨o', z'⟩ := I2.base.there e o z (by rw [hex]; simp)
        rw [m.new] at z'; cases z'
    · exact HOk.gone I2.hok m.new
end L2
namespace L2
open PySem PySem.Spec PyProof.Rows
noncomputable abbrev EXT := Value → Option Addr → St → Hp → Prop
noncomputable def Zdi (X : Cx) (EX : EXT) : Prop := ∀ (pins : List (Addr × Obj)) (σ : St) (H : Hp) (s : Shared) (e : Addr) (cls : Value) (dx : Option Addr) (T : Addr), Inv X pins σ H s → Raised s.heap e cls dx (some T) → X.s₀.heap.get? e = none → H e = none →
  X.s₀.heap.get? T = none → H T = none → (∀ p ∈ X.pn ++ pins, p.1 ≠ e ∧ p.1 ≠ T) → (e ≠ X.env.locals ∧ T ≠ X.env.locals) → (∀ x c, X.env.cells.lookup x = some c → c ≠ e ∧ c ≠ T) → EX cls dx σ H → X.xe (.ref e) s
theorem Zjm.t {X : Cx} {EX : XK} (h : Zjm X EX) : Zdi X fun cls od _ H => EX cls od H := fun pins σ H s e cls dx T I r h1 h2 h3 h4 _ _ _ q => h pins σ H s e cls dx (some T) I r h1 h2 (fun T' z => by cases z; exact ⟨h3, h4⟩) q
theorem Zue {X : Cx} {EX : EXT} (th : Zdi X EX) (hex : X.ex = []) {pins : List (Addr × Obj)} {σ : St} {H : Hp} {s s' : Shared} {e : Value} (I : Inv X pins σ H s) (h : CX1 X.prog X.w X.stack H s (fun cls od H' => EX cls od σ H') e s') : X.xe e s' := by
  obtain ⟨a, cls, dx, T, H', he, os, bare, un, hok, r, n1, n2, n3, n4, q⟩ := h
  subst he
  have I' : Inv X pins σ H' s' := I.call' (ch := []) os un hok bare (fun b hb => nomatch hb)
  have old : ∀ b, s.heap.get? b = none → X.s₀.heap.get? b = none := fun b hb => by
    cases z : X.s₀.heap.get? b with
    | none => rfl
    | some o =>
      obtain ⟨o', z'⟩ := I.base.there b o z (by rw [hex]; simp)
      rw [hb] at z'; cases z'
  have pin : ∀ b, s.heap.get? b = none → ∀ p ∈ X.pn ++ pins, p.1 ≠ b := fun b hb p hp z => by
    have := (I.pin p hp).1
    rw [z, hb] at this; cases this
  have loc : ∀ b, s.heap.get? b = none → b ≠ X.env.locals := fun b hb z => by
    obtain ⟨m, ⟨o, es, ep, ho, _⟩, _⟩ := id I.loc
    rw [z, ho] at hb; cases hb
  have cel : ∀ b, s.heap.get? b = none → ∀ x c, X.env.cells.lookup x = some c → c ≠ b := fun b hb x c hc z => by
    obtain ⟨v, o, ho, _⟩ := I.cell x c hc
    rw [z, hb] at ho; cases ho
  exact th pins σ H' s' a cls dx T I' r (old a n1) n3 (old T n2) n4 (fun p hp => ⟨pin a n1 p hp, pin T n2 p hp⟩) ⟨loc a n1, loc T n2⟩ (fun x c hc => ⟨cel a n1 x c hc, cel T n2 x c hc⟩) q
noncomputable def Zjn (X : Cx) (EX : EXT) : Prop := ∀ (pins : List (Addr × Obj)) (σ : St) (H : Hp) (s : Shared) (e : Value) (s' : Shared), Inv X pins σ H s → CX1 X.prog X.w X.stack H s (fun cls od H' => EX cls od σ H') e s' → X.xe e s'
theorem Zdi.pass {X : Cx} {EX : EXT} (th : Zdi X EX) (hex : X.ex = []) : Zjn X EX := fun _ _ _ _ _ _ I h => Zue th hex I h
noncomputable def Zsx (sp : Sp) (EX : EXT) (t : TA) : TE := fun σ H Q => t σ H fun vs H1 => sp vs H1 Q fun cls od H' => EX cls od σ H'
theorem Zq6 {X : Cx} {EX : EXT} {k : Nat} {f : Addr} {fd : FuncData} {ps : List Str} {sp : Sp} {x : Str} {p pos : Pos} {e : Expr} {es : List Expr} {t : TA} (F : FnOk X.prog X.w X.K X.mg X.base (CX1 X.prog X.w) k f fd ps sp) (hr : Room k X.A) (hg : Gl X x) (hm : X.mg x = some (.ref f)) (hk : PySem.W.keepIn X.K (.ref f) = true) (hb : Zay X.K fd ps [])
    (th : Zjn X EX) (ha : PA X (e :: es) t) (hdb : (x == ("__debug__" : Str)) = false := by decide) (he : starEach (e :: es) X.env = (false, eval e X.env) :: starEach es X.env := by rfl) (hpl : (backTo pos (starEach es X.env)).any (·.1) = false := by rfl) :
    PE X (.Call (.Name x p) (e :: es) [] pos) (Zsx sp EX t) := by
  intro pins s σ H Q I h
  refine wpAny_Call_Name_kw (Zgh I hg hm ?_ hdb)
  refine PySem.W.callWith_K (h₀ := X.base) I.ok.mod.kin hk (thn (ha pos pins s σ H _ I h) fun us s1 ⟨vs, H1, I1, r, q⟩ => ⟨I1.kIn, ?_⟩) he hpl
  have hl : (us ++ []).length = ps.length := by rw [List.append_nil, ← r.length]; exact F.len _ _ _ _ q
  have bb := hb s1 us I1.kIn hl
  rw [List.append_nil] at bb
  refine wpAny_call (codeAny_mono (F.run X.A X.stack s1 H1 ⟨us, []⟩ us vs Q _ hr I1.env0 bb r q) fun r' s' hq => ?_)
  cases r' with
  | error e => exact th _ _ _ _ _ _ I1 hq
  | ok fl =>
    cases fl with
    | ret u => exact I1.after hq
    | next => exact False.elim hq
    | brk => exact False.elim hq
    | cont => exact False.elim hq
end L2
namespace L2
open PySem PySem.Spec PyProof.Rows
structure Air (X : Cx) (pins : List (Addr × Obj)) (H : Hp) (s : Shared) (e : Addr) (cls : Value) (dx : Option Addr) (T : Addr) : Prop where
  r : Raised s.heap e cls dx (some T)
  e0 : X.s₀.heap.get? e = none
  eH : H e = none
  t0 : X.s₀.heap.get? T = none
  tH : H T = none
  pe : ∀ p ∈ X.pn ++ pins, p.1 ≠ e ∧ p.1 ≠ T
  le : e ≠ X.env.locals ∧ T ≠ X.env.locals
  ce : ∀ x c, X.env.cells.lookup x = some c → c ≠ e ∧ c ≠ T
section
variable {X : Cx} {pins : List (Addr × Obj)} {σ : St} {H : Hp} {s : Shared} {e T : Addr} {cls : Value} {dx : Option Addr}
theorem Inv.air {h' : Heap} {T' : Addr} (I : Inv X pins σ H s) (a : Air X pins H s e cls dx T) (hex : X.ex = []) (k1 : ∀ b o, b ≠ e → b ≠ T → b ∉ frs X.stack → s.heap.get? b = some o → h'.get? b = some o)
    (k2 : ∀ b o, b ∈ frs X.stack → s.heap.get? b = some o → ∃ sl, h'.get? b = some { o with slots := sl }) (r' : Raised h' e cls dx (some T')) (hT : s.heap.get? T' = none ∨ T' = T) :
    Inv X pins σ H { s with heap := h' } ∧ Air X pins H { s with heap := h' } e cls dx T' := by
  have old : ∀ b o, X.s₀.heap.get? b = some o → b ≠ e ∧ b ≠ T := fun b o q => ⟨(fun z => by rw [z, a.e0] at q; cases q), (fun z => by rw [z, a.t0] at q; cases q)⟩
  have nl : ∀ b o, X.s₀.heap.get? b = some o → b ≠ X.env.locals := fun b o q => Nat.ne_of_lt (Nat.lt_of_lt_of_le (Heap.lt_size q) I.ok.above)
  have nst : ∀ b, b ≠ X.env.locals → b ∉ X.fs → b ∉ frs X.stack := fun b h1 h2 z => (List.mem_cons.mp (I.stkSub b z)).elim h1 h2
  have any : ∀ b o, b ≠ e → b ≠ T → s.heap.get? b = some o → ∃ sl, h'.get? b = some { o with slots := sl } := fun b o n1 n2 q => by
    by_cases hb : b ∈ frs X.stack
    · exact k2 b o hb q
    · exact ⟨o.slots, k1 b o n1 n2 hb q⟩
  have cellK : ∀ x c, X.env.cells.lookup x = some c → ∀ v, s.heap.IsCell c v → h'.IsCell c v := fun x c ec v ⟨o, ho, hd⟩ => by
    obtain ⟨sl, q⟩ := any c o (a.ce x c ec).1 (a.ce x c ec).2 ho
    exact ⟨_, q, hd⟩
  refine ⟨⟨I.ok, I.os, I.bare, ⟨fun b o q n hb hx => ?_, fun b o q n hb hx => ?_, I.base.free, fun b o q hx => ?_, I.base.tups, I.base.frzs, I.base.tbls⟩, ?_, fun x c ec => ?_, I.free, I.freeC, fun p hp => ?_, ?_, I.len⟩, ⟨r', a.e0, a.eH, ?_, ?_, fun p hp => ⟨(a.pe p hp).1, ?_⟩, ⟨a.le.1, ?_⟩, fun x c ec => ⟨(a.ce x c ec).1, ?_⟩⟩⟩
  · exact k1 b o (old b o q).1 (old b o q).2 (nst b (nl b o q) hb) (I.base.keep b o q n hb hx)
  · obtain ⟨sl, q1⟩ := I.base.slot b o q n hb hx
    obtain ⟨sl', q2⟩ := any b _ (old b o q).1 (old b o q).2 q1
    exact ⟨sl', q2⟩
  · obtain ⟨o', q1⟩ := I.base.there b o q hx
    obtain ⟨sl', q2⟩ := any b _ (old b o q).1 (old b o q).2 q1
    exact ⟨_, q2⟩
  · obtain ⟨m, ⟨o, es, ep, ho, rr⟩, hl⟩ := I.loc
    obtain ⟨sl, q2⟩ := any _ o (Ne.symm a.le.1) (Ne.symm a.le.2) ho
    refine ⟨m, ⟨_, es, ep, q2, rr⟩, fun i x v e1 e2 e3 => ?_⟩
    obtain ⟨u, r, l⟩ := hl i x v e1 e2 e3
    refine ⟨u, r, ?_⟩
    rcases l with l | ⟨k, c, ec, z⟩
    · exact .inl l
    · exact .inr ⟨k, c, ec, cellK x c ec _ z⟩
  · obtain ⟨v, z⟩ := I.cell x c ec
    exact ⟨v, cellK x c ec v z⟩
  · obtain ⟨q, n, ne, nf, d⟩ := I.pin p hp
    exact ⟨k1 p.1 p.2 (a.pe p hp).1 (a.pe p hp).2 (nst _ ne nf) q, n, ne, nf, d⟩
  · exact Zof I.hok fun b o hb q => k1 b o (fun z => hb (by rw [z]; exact a.eH)) (fun z => hb (by rw [z]; exact a.tH)) (fun z => hb (I.stkFree b z)) q
  · rcases hT with hT | hT
    · cases z : X.s₀.heap.get? T' with
      | none => rfl
      | some o =>
        obtain ⟨o', q⟩ := I.base.there T' o z (by rw [hex]; simp)
        rw [hT] at q; cases q
    · rw [hT]; exact a.t0
  · rcases hT with hT | hT
    · exact I.hok.gone hT
    · rw [hT]; exact a.tH
  · rcases hT with hT | hT
    · intro z
      have := (I.pin p hp).1
      rw [z, hT] at this; cases this
    · rw [hT]; exact (a.pe p hp).2
  · rcases hT with hT | hT
    · intro z
      obtain ⟨m, ⟨o, es, ep, ho, _⟩, _⟩ := I.loc
      rw [← z, hT] at ho; cases ho
    · rw [hT]; exact a.le.2
  · rcases hT with hT | hT
    · intro z
      obtain ⟨v, o, ho, _⟩ := I.cell x c ec
      rw [z, hT] at ho; cases ho
    · rw [hT]; exact (a.ce x c ec).2
theorem Inv.noted {h' : Heap} {T' : Addr} (I : Inv X pins σ H s) (a : Air X pins H s e cls dx T) (hex : X.ex = []) (n : Noted (frs X.stack) s.heap h' e cls dx (some T) T') : Inv X pins σ H { s with heap := h' } ∧ Air X pins H { s with heap := h' } e cls dx T' :=
  I.air a hex (fun b o n1 n2 n3 q => n.keep b o n1 (fun z => n2 (List.mem_singleton.mp z)) n3 q) n.slot n.r (by
    rcases n.new with k | k
    · exact .inl k
    · cases k; exact .inr rfl)
theorem Zdq {M : Model} {A : Around} {E : Value → Shared → Prop} {Q : Shared → Prop} (I : Inv X pins σ H s) (a : Air X pins H s e cls dx T) (hex : X.ex = []) (hA : A.frames = some X.stack) (hst : X.stack = X.env :: X.outer) (hfr : X.env.frame = some X.env.locals)
    (k : ∀ h' T', Inv X pins σ H { s with heap := h' } → Air X pins H { s with heap := h' } e cls dx T' → Q { s with heap := h' }) :
    wpAny M A (noteFrame (.ref e) X.env) (fun _ s2 => wpAny M A (setFlight (.ref e) none) (fun _ s3 => Q s3) E s2) E s ∧ wpAny M A (setFlight (.ref e) none) (fun _ s3 => Q s3) E s := by
  have nor : ∀ {σ : St} {H : Hp} {s : Shared}, Inv X pins σ H s → ∀ b o ws, s.heap.get? b = some o → o.data = .fields ws → b ∉ frs X.stack := fun {σ H s} I b o ws q qd hm => by
    obtain ⟨_, o', q1, q2⟩ := I.stack.mem hm
    rw [q] at q1; cases q1
    exact q2 ws qd
  constructor
  · have ff : s.heap.FunFrames X.base (X.env :: X.outer) := by rw [← hst]; exact I.stack
    refine Zh5 (by rw [hA, hst]) ff hfr a.r fun h1 T1 n1 => ?_
    rw [← hst] at n1
    obtain ⟨I1, a1⟩ := I.noted a hex n1
    refine Zef (s := { s with heap := h1 }) a1.r (nor I1) fun h2 n2 => ?_
    obtain ⟨I2, a2⟩ := I1.noted a1 hex n2
    exact k h2 T1 I2 a2
  · refine Zef a.r (nor I) fun h2 n2 => ?_
    obtain ⟨I2, a2⟩ := I.noted a hex n2
    exact k h2 T I2 a2
end
noncomputable abbrev Cx.inTry (X : Cx) (pn : List (Addr × Obj)) (xe : Value → Shared → Prop) : Cx := { X with pn := pn, xe := xe }
noncomputable abbrev Cx.inSuite (X : Cx) (a : Addr) : Cx := { X with A := X.A.mark (some (.ref a)), calm := false, xe := fun _ _ => False }
section
variable {X : Cx} {pins : List (Addr × Obj)} {σ : St} {H : Hp} {s : Shared} {e T : Addr} {cls : Value} {dx : Option Addr} {xe : Value → Shared → Prop}
theorem Cx.Ok.tryIn {pn : List (Addr × Obj)} (k : X.Ok) : (X.inTry pn xe).Ok := ⟨k.mod, k.kind, k.glob, k.blt, k.above, k.inj, k.has, k.cab, k.hd, k.frames, k.stk, k.exf, k.bs, k.bsz, k.noex, k.exfs, k.funs, k.frf⟩
theorem Cx.Ok.suiteIn (k : X.Ok) : (X.inSuite e).Ok := ⟨k.mod, k.kind, k.glob, k.blt, k.above, k.inj, k.has, k.cab, (fun h => nomatch h), k.frames, k.stk, k.exf, k.bs, k.bsz, k.noex, k.exfs, k.funs, k.frf⟩
theorem Inv.tryIn (I : Inv X pins σ H s) : Inv (X.inTry (X.pn ++ pins) xe) [] σ H s := ⟨I.ok.tryIn, I.os, I.bare, I.base, I.loc, I.cell, I.free, I.freeC, (fun p hp => I.pin p (by simpa using hp)), I.hok, I.len⟩
theorem Inv.tryOut {pins' : List (Addr × Obj)} (k : X.Ok) (I : Inv (X.inTry (X.pn ++ pins) xe) pins' σ H s) : Inv X pins σ H s := ⟨k, I.os, I.bare, I.base, I.loc, I.cell, I.free, I.freeC, (fun p hp => I.pin p (List.mem_append_left _ hp)), I.hok, I.len⟩
theorem Inv.suiteIn (I : Inv X pins σ H s) : Inv (X.inSuite e) pins σ H s := ⟨I.ok.suiteIn, I.os, I.bare, I.base, I.loc, I.cell, I.free, I.freeC, I.pin, I.hok, I.len⟩
theorem Inv.suiteOut (k : X.Ok) (I : Inv (X.inSuite e) pins σ H s) : Inv X pins σ H s := ⟨k, I.os, I.bare, I.base, I.loc, I.cell, I.free, I.freeC, I.pin, I.hok, I.len⟩
theorem SP.out {D : Ends} {f : Flow} (k : X.Ok) (h : SP (X.inSuite e) pins D f s) : SP X pins D f s := by
  cases f with
  | next => obtain ⟨σ', H', I, q⟩ := h; exact ⟨σ', H', I.suiteOut k, q⟩
  | brk => obtain ⟨σ', H', I, q⟩ := h; exact ⟨σ', H', I.suiteOut k, q⟩
  | cont => obtain ⟨σ', H', I, q⟩ := h; exact ⟨σ', H', I.suiteOut k, q⟩
  | ret u => obtain ⟨v, σ', H', I, q⟩ := h; exact ⟨v, σ', H', I.suiteOut k, q⟩
theorem SP.outT {D : Ends} {f : Flow} (k : X.Ok) (h : SP (X.inTry (X.pn ++ pins) xe) [] D f s) : SP X pins D f s := by
  cases f with
  | next => obtain ⟨σ', H', I, q⟩ := h; exact ⟨σ', H', I.tryOut k, q⟩
  | brk => obtain ⟨σ', H', I, q⟩ := h; exact ⟨σ', H', I.tryOut k, q⟩
  | cont => obtain ⟨σ', H', I, q⟩ := h; exact ⟨σ', H', I.tryOut k, q⟩
  | ret u => obtain ⟨v, σ', H', I, q⟩ := h; exact ⟨v, σ', H', I.tryOut k, q⟩
noncomputable def Zgm (a C : Addr) (dx : Option Addr) : Heap → Prop := fun h => ∃ o, h.get? a = some o ∧ o.cls = .ref C ∧ o.dict = dx ∧ PySem.W.notCls o = true
theorem Inv.track {C : Addr} (I : Inv X pins σ H s) (a : Air X pins H s e (.ref C) dx T) : Inv X pins σ (upd H e (.ext (Zgm e C dx))) s := by
  obtain ⟨oe, vs, h1, h2, hdx, h3, h5⟩ := a.r.obj
  have hnc : PySem.W.notCls oe = true := by unfold PySem.W.notCls; rw [h3]
  refine ⟨I.ok, I.os, I.bare, ⟨I.base.keep, I.base.slot, fun b o q n hx => ?_, I.base.there, fun b xs q => ?_, fun b o u q => ?_, fun b ps q => ?_⟩, I.loc, I.cell, ?_, fun x c ec => ?_, fun p hp => ?_, fun b u q => ?_, I.len⟩
  · rw [Zv (fun z => by rw [z, a.e0] at q; cases q)]; exact I.base.free b o q n hx
  · have := I.base.tups b xs q
    rw [Zv (fun z => by rw [z, a.eH] at this; cases this)]; exact this
  · have := I.base.frzs b o u q
    rw [Zv (fun z => by rw [z, a.eH] at this; cases this)]; exact this
  · obtain ⟨m, this⟩ := I.base.tbls b ps q
    exact ⟨m, by rw [Zv (fun z => by rw [z, a.eH] at this; cases this)]; exact this⟩
  · rw [Zv (Ne.symm a.le.1)]; exact I.free
  · rw [Zv (a.ce x c ec).1]; exact I.freeC x c ec
  · obtain ⟨q, n, r⟩ := I.pin p hp
    exact ⟨q, by rw [Zv (a.pe p hp).1]; exact n, r⟩
  · by_cases hb : b = e
    · subst hb
      rw [Zah] at q; cases q
      exact ⟨⟨oe, h1, h2, hdx, hnc⟩, ⟨oe, h1⟩, fun g1 g2 ⟨o, z1, z2⟩ k => ⟨o, k o z1, z2⟩⟩
    · rw [Zv hb] at q
      exact (I.hok b u q).stay (fun c v _ z => z) (fun c z => by rw [Zv (fun y => by rw [y, a.eH] at z; cases z)]; exact z) fun c xs z => by rw [Zv (fun y => by rw [y, a.eH] at z; cases z)]; exact z
theorem Zh6 {M : Model} {A : Around} {E : Value → Shared → Prop} {i : Nat} {n : Str} {pos : Pos} {Q : Unit → Shared → Prop} (I : Inv X pins σ H s) (hN : X.N.Nodup) (hi : X.N[i]? = some n) (hk : X.env.kindOf n = some .local)
    (h : ∀ s', Inv X pins (σ.set i none) H s' → Q () s') : wpAny M A (do bindName X.env n .none; unbindBehindTheSuite X.env n pos) Q E s := by
  obtain ⟨m, hn, hl⟩ := id I.loc
  have hcls : (X.env.scope.kind == .class || (X.env.scope.kind == .module && X.env.locals != X.env.globals)) = false := by rw [I.ok.kind]; rfl
  refine wpAny_nameGoes_keeps hk hn hcls fun h' u hn' hs => ?_
  obtain ⟨oL, _, _, hoL, _⟩ := id hn
  have cne := I.cne
  have nl : ∀ b o, X.s₀.heap.get? b = some o → b ≠ X.env.locals := fun b o q => Nat.ne_of_lt (Nat.lt_of_lt_of_le (Heap.lt_size q) I.ok.above)
  refine h _ ⟨I.ok, I.os, I.bare, ⟨fun b o q n hb hx => ?_, fun b o q n hb hx => ?_, I.base.free, fun b o q hx => ?_, I.base.tups, I.base.frzs, I.base.tbls⟩, ⟨_, hn', fun j y v' e1 e2 e3 => ?_⟩, fun y c ec => ?_, I.free, I.freeC, fun p hp => ?_, fun b ob q => ?_, by simpa using I.len⟩
  · exact (hs.2 b (nl b o q)).trans (I.base.keep b o q n hb hx)
  · obtain ⟨sl, e1⟩ := I.base.slot b o q n hb hx
    exact ⟨sl, (hs.2 b (nl b o q)).trans e1⟩
  · obtain ⟨o', e1⟩ := I.base.there b o q hx
    exact ⟨o', (hs.2 b (nl b o q)).trans e1⟩
  · by_cases hj : j = i
    · subst hj
      have : j < σ.length := by
        have := (List.getElem?_eq_some_iff.mp e2).1
        simpa using this
      rw [List.getElem?_set_self this] at e2; cases e2
    · rw [List.getElem?_set_ne (Ne.symm hj)] at e2
      obtain ⟨u', r', q⟩ := hl j y v' e1 e2 e3
      refine ⟨u', r', ?_⟩
      rcases q with ⟨k, z⟩ | ⟨k, c, z, z'⟩
      · refine .inl ⟨k, ?_⟩
        have : y ≠ n := fun z => hj (Zhz hN e1 (z ▸ hi))
        simp [this, z]
      · exact .inr ⟨k, c, z, z'.sameBut hs (cne y c z)⟩
  · obtain ⟨w', z⟩ := I.cell y c ec
    exact ⟨w', z.sameBut hs (cne y c ec)⟩
  · obtain ⟨q, n, ne, nf, d⟩ := I.pin p hp
    exact ⟨(hs.2 p.1 ne).trans q, n, ne, nf, d⟩
  · refine (I.hok b ob q).stay (fun c w' hc z => (hs.2 c ?_).trans z) (fun _ z => z) fun _ _ z => z
    rintro rfl
    rcases hc with hc | hc
    · rw [← hc, I.free] at q; cases q
    · rw [I.free] at hc; cases hc
end
end L2
namespace L2
open PySem PySem.Spec PyProof.Rows
theorem Zjo {M : Model} {A : Around} {E : Value → Shared → Prop} {s : Shared} {K : PySem.W.Frag} {e C B : Addr} {b : Bool} {Q : Bool → Shared → Prop} (X : K.In s.heap) {dx : Option Addr} (he : Zgm e C dx s.heap) (hty : PySem.W.typeIn K (.ref B) = some (.type "type"))
    (hcl : PySem.W.isClsIn K B = true) (hB : PySem.W.mroIn K B (.type "BaseException") = some true) (hm : PySem.W.mroIn K C (.ref B) = some b) (h : Q b s) : wpAny M A (excMatches (.ref e) (.ref B)) Q E s := by
  obtain ⟨hp, g, d, tk, os⟩ := s
  obtain ⟨o, h1, h2, _⟩ := he
  have lt : PySem.W.Looks M hp (typeOf (.ref B)) (.type "type") := PySem.W.looks_typeIn X hty
  have li : PySem.W.Looks M hp (isType (.ref B)) true := by
    unfold PySem.W.isClsIn PySem.W.clsIn at hcl
    split at hcl
    · rename_i ho
      intro A' Q' E' s' k q
      unfold isType loadHead
      exact wpAny_bind (wpAny_loadPart (k _ _ (X _ _ ho)) (wpAny_pure q))
    · cases hcl
  have lb := PySem.W.looks_mroIn (M := M) X hB
  have lm := PySem.W.looks_mroIn (M := M) X hm
  have le : PySem.W.Looks M hp (typeOf (.ref e)) (.ref C) := h2 ▸ (PySem.W.Looks.ld h1).andThen .now
  have lx : PySem.W.Looks M hp (isExcClass (.ref B)) true := by
    unfold isExcClass
    exact li.andThen lb
  have l0 : PySem.W.Looks M hp (isInstance (.ref B) (.type "tuple")) false := by
    unfold isInstance
    exact lt.andThen (.of_pure tc_notTuple)
  unfold excMatches
  refine wpAny_bind (l0.at ?_)
  dsimp only
  rw [if_neg Bool.false_ne_true]
  refine wpAny_bind (wpAny_pure ?_)
  refine wpAny_bind ?_
  rw [List.forIn_cons]
  refine wpAny_bind (wpAny_bind (lx.at ?_))
  rw [if_neg (by decide)]
  refine wpAny_pure ?_
  dsimp only
  rw [List.forIn_nil]
  refine wpAny_pure ?_
  refine wpAny_bind (le.at ?_)
  refine wpAny_bind ?_
  rw [List.forIn_cons]
  refine wpAny_bind (wpAny_bind (lm.at ?_))
  cases b with
  | true =>
    rw [if_pos rfl]
    exact wpAny_pure (wpAny_pure (wpAny_pure h))
  | false =>
    rw [if_neg Bool.false_ne_true]
    refine wpAny_pure ?_
    dsimp only
    rw [List.forIn_nil]
    exact wpAny_pure (wpAny_pure h)
structure Hd where
  x : Str
  np : Pos
  nm : Option (Str × Nat)
  b0 : Stmt
  suite : List Stmt
  pos : Pos
  B : Addr
  t : TS
noncomputable def Hd.ast (h : Hd) : ExceptHandler := .ExceptHandler (some (.Name h.x h.np)) (h.nm.map (·.1)) (h.b0 :: h.suite) h.pos
noncomputable def Ends.but (D : Ends) (i : Nat) : Ends := { nx := fun σ H => D.nx (σ.set i none) H, bk := fun σ H => D.bk (σ.set i none) H, ct := fun σ H => D.ct (σ.set i none) H, rt := D.rt }
noncomputable def Hd.run (h : Hd) (C : Addr) (dx : Option Addr) (D : Ends) (σ : St) (H : Hp) : Prop := match h.nm with
  | none => h.t D σ H
  | some (_, i) => ∀ a, H a = none → h.t (D.but i) (σ.set i (some (.ref a))) (upd H a (.ext (Zgm a C dx)))
noncomputable def Zm9 (K : PySem.W.Frag) (C : Addr) : List Hd → Option Hd
  | [] => none
  | h :: r => match PySem.W.mroIn K C (.ref h.B) with
    | some true => some h
    | some false => Zm9 K C r
    | none => none
structure Hd.Ok (X : Cx) (h : Hd) : Prop where
  gl : Gl X h.x
  mg : X.mg h.x = some (.ref h.B)
  ty : PySem.W.typeIn X.K (.ref h.B) = some (.type "type")
  cl : PySem.W.isClsIn X.K h.B = true
  bs : PySem.W.mroIn X.K h.B (.type "BaseException") = some true
  db : (h.x == ("__debug__" : Str)) = false
  nm : ∀ n i, h.nm = some (n, i) → X.N.Nodup ∧ X.N[i]? = some n ∧ Loc X.env.scope n ∧ X.env.kindOf n = some .local ∧ X.env.scope.names.lookup n = some .local
  su : ∀ a, PSs (X.inSuite a) (h.b0 :: h.suite) h.t
section
variable {X : Cx} {pins : List (Addr × Obj)} {σ : St} {H : Hp} {s : Shared} {e T C : Addr} {dx : Option Addr} {D : Ends}
theorem Air.at' (a : Air X pins H s e (.ref C) dx T) : Zgm e C dx s.heap := by
  obtain ⟨oe, vs, h1, h2, h3, h4, _⟩ := a.r.obj
  exact ⟨oe, h1, h2, h3, by unfold PySem.W.notCls; rw [h4]⟩
theorem Zjp (hex : X.ex = []) (hst : X.stack = X.env :: X.outer) (hfr : X.env.frame = some X.env.locals) {h : Hd} (I : Inv X pins σ H s) (a : Air X pins H s e (.ref C) dx T) (q : h.run C dx D σ H) :
    ∀ {hs : List Hd}, (∀ h ∈ hs, h.Ok X) → Zm9 X.K C hs = some h → wpAny (model X.prog X.w) X.A (handleBy (.ref e) X.env (hs.map Hd.ast)) (SP X pins D) X.xe s
  | [], _, p => nomatch p
  | g :: r, ok, p => by
    have kg := ok g List.mem_cons_self
    show wpAny _ _ (handleBy (.ref e) X.env (.ExceptHandler (some (.Name g.x g.np)) (g.nm.map (·.1)) (g.b0 :: g.suite) g.pos :: r.map Hd.ast)) _ _ s
    have Is : Inv (X.inSuite e) pins σ H s := I.suiteIn
    refine wpAny_handleBy_cons (codeAny_handlers_test (Zgh (X := X.inSuite e) Is kg.gl kg.mg ?_ kg.db)) (by intro z; cases z)
    unfold Zm9 at p
    split at p
    · rename_i hm
      cases p
      refine Zjo I.kIn a.at' kg.ty kg.cl kg.bs hm ?_
      show codeAny _ _ _ _ s
      unfold Hd.run at q
      split at q
      · rename_i hn
        rw [hn]
        refine codeAny_handlers_suite ?_
        refine (Zdq (M := model X.prog X.w) (A := X.A.mark (some (.ref e))) I a hex I.ok.frames hst hfr fun h' T' I' a' => ?_).2
        refine wpAny_mono (kg.su e pins _ σ H D I'.suiteIn q) (fun f s2 z => ?_) fun _ _ z => z.elim
        exact SP.out I.ok z
      · rename_i n i hn
        rw [hn]
        obtain ⟨n1, n2, n3, n4, n5⟩ := kg.nm n i hn
        refine codeAny_handlers_suite_as ?_
        refine (Zdq (M := model X.prog X.w) (A := X.A.mark (some (.ref e))) I a hex I.ok.frames hst hfr fun h' T' I' a' => ?_).2
        refine Zh0 (X := X.inSuite e) (v := .ref e) (i := i) (I'.track a').suiteIn n1 n2 n3 rfl (fun s2 I2 => ?_) (.inr n5)
        refine wpAny_mono (kg.su e pins _ _ _ (D.but i) I2 (q e a.eH)) (fun f s3 z => ?_) fun _ _ z => z.elim
        show wpAny _ X.A _ _ _ s3
        cases f with
        | next =>
          obtain ⟨σ', H', I3, z⟩ := z
          exact Zh6 (I3.suiteOut I.ok) n1 n2 n4 fun s4 I4 => ⟨_, H', I4, z⟩
        | brk =>
          obtain ⟨σ', H', I3, z⟩ := z
          exact Zh6 (I3.suiteOut I.ok) n1 n2 n4 fun s4 I4 => ⟨_, H', I4, z⟩
        | cont =>
          obtain ⟨σ', H', I3, z⟩ := z
          exact Zh6 (I3.suiteOut I.ok) n1 n2 n4 fun s4 I4 => ⟨_, H', I4, z⟩
        | ret u =>
          obtain ⟨v, σ', H', I3, z⟩ := z
          exact Zh6 (I3.suiteOut I.ok) n1 n2 n4 fun s4 I4 => ⟨v, _, H', I4, z⟩
    · rename_i hm
      refine Zjo I.kIn a.at' kg.ty kg.cl kg.bs hm ?_
      exact Zjp hex hst hfr I a q (fun h hh => ok h (List.mem_cons_of_mem _ hh)) p
    · cases p
noncomputable def tTry (K : PySem.W.Frag) (tb : EXT → TS) (hs : List Hd) : TS := fun D σ H => tb (fun cls dx σ' H' => ∃ C h, cls = .ref C ∧ Zm9 K C hs = some h ∧ h.run C dx D σ' H') D σ H
theorem Zxi {body : List Stmt} {tb : EXT → TS} {h0 : Hd} {hs : List Hd} {pos : Pos} (hb : ∀ pn xe EX, Zdi (X.inTry pn xe) EX → PSs (X.inTry pn xe) body (tb EX)) (ok : ∀ h ∈ h0 :: hs, h.Ok X) (hex : X.ex = [])
    (hst : X.stack = X.env :: X.outer) (hfr : X.env.frame = some X.env.locals) : PS X (.Try body ((h0 :: hs).map Hd.ast) [] [] pos) (tTry X.K tb (h0 :: hs)) := by
  intro pins s σ H D I h
  refine wpAny_Try_except (h₀ := h0.ast) (hs := hs.map Hd.ast) ?_
  refine wpAny_mono (hb (X.pn ++ pins) _ _ ?_ [] s σ H D I.tryIn h) (fun f s1 z => ?_) fun _ _ z => z
  · intro pins' σ' H' s' e cls dx T I' r e0 eH t0 tH pe le ce ⟨C, g, ec, hp, q⟩
    subst ec
    have I2 : Inv X pins σ' H' s' := I'.tryOut I.ok
    have a : Air X pins H' s' e (.ref C) dx T := ⟨r, e0, eH, t0, tH, fun p hp => pe p (List.mem_append_left _ hp), le, ce⟩
    exact (Zdq (M := model X.prog X.w) (A := X.A) I2 a hex I.ok.frames hst hfr fun h' T' I3 a3 => Zjp hex hst hfr I3 a3 q ok hp).1
  · have z' := SP.outT I.ok z
    cases f with
    | next => exact PySem.wpAny_execs_nil z'
    | brk => exact z'
    | cont => exact z'
    | ret u => exact z'
end
end L2
namespace L2
open PySem PySem.Spec PySem.Calls PyProof.Rows Builtin.ObjectAttr Builtin.Getset_descriptor
section
variable {prog : Program} {w : World} {A : Around} {E : Value → Shared → Prop} {s : Shared} {K : PySem.W.Frag} {x C : Addr} {dx : Option Addr}
end
section
variable {X : Cx}
end
end L2
namespace L2
open PySem PySem.Spec PyProof.Rows
theorem Zog {e : Value} {env env' : Env} (h : env'.frame = env.frame) : noteFrame e env' = noteFrame e env := by
  unfold noteFrame PySem.frameOf
  rw [h]
section
variable {X : Cx} {pins : List (Addr × Obj)} {σ : St} {H : Hp} {s s' : Shared}
theorem Zxj {EX : EXT} {e : Value} (hex : X.ex = []) (I : Inv X pins σ H s) (h : CX1 X.prog X.w X.stack H s (fun cls od H' => EX cls od σ H') e s') :
    ∃ (a : Addr) (cls : Value) (dx : Option Addr) (T : Addr) (H' : Hp), e = .ref a ∧ Inv X pins σ H' s' ∧ Air X pins H' s' a cls dx T ∧ EX cls dx σ H' ∧ s'.os = s.os ∧ AllBare s'.gens ∧ Un (frs X.stack) [] H H' s.heap s'.heap ∧ HOk X.prog X.w H' s'.heap ∧ s.heap.get? a = none ∧ s.heap.get? T = none := by
  obtain ⟨a, cls, dx, T, H', he, os, bare, un, hok, r, n1, n2, n3, n4, q⟩ := h
  have I' : Inv X pins σ H' s' := I.call' (ch := []) os un hok bare (fun b hb => nomatch hb)
  have old : ∀ b, s.heap.get? b = none → X.s₀.heap.get? b = none := fun b hb => by
    cases z : X.s₀.heap.get? b with
    | none => rfl
    | some o =>
      obtain ⟨o', z'⟩ := I.base.there b o z (by rw [hex]; simp)
      rw [hb] at z'; cases z'
  have pin : ∀ b, s.heap.get? b = none → ∀ p ∈ X.pn ++ pins, p.1 ≠ b := fun b hb p hp z => by
    have := (I.pin p hp).1
    rw [z, hb] at this; cases this
  have loc : ∀ b, s.heap.get? b = none → b ≠ X.env.locals := fun b hb z => by
    obtain ⟨m, ⟨o, es, ep, ho, _⟩, _⟩ := id I.loc
    rw [z, ho] at hb; cases hb
  have cel : ∀ b, s.heap.get? b = none → ∀ x c, X.env.cells.lookup x = some c → c ≠ b := fun b hb x c hc z => by
    obtain ⟨v, o, ho, _⟩ := I.cell x c hc
    rw [z, hb] at ho; cases ho
  exact ⟨a, cls, dx, T, H', he, I', ⟨r, old a n1, n3, old T n2, n4, fun p hp => ⟨pin a n1 p hp, pin T n2 p hp⟩, ⟨loc a n1, loc T n2⟩, fun x c hc => ⟨cel a n1 x c hc, cel T n2 x c hc⟩⟩, q, os, bare, un, hok, n1, n2⟩
end
theorem Zna {prog : Program} {w : World} {A : Around} {s : Shared} {elt target iter : Expr} {ifs : List Expr} {scope : Scope} {pos : Pos} {it acc : Value} {env : Env} {R : Result → Shared → Prop} (I : Nat → Shared → Prop)
    (turn : ∀ n s, I n s → wpAny (model prog w) A (pyNext it) (fun r s₁ => match r with
      | none => R (.ok .next) s₁
      | some v => wpAny (model prog w) A (letOwnedTupleGo target it v) (fun _ s₀ => wpAny (model prog w) A (assign target env v) (fun _ s₂ =>
          wpAny (model prog w) A (forIn ifs true fun c r => if r = true then do let ok ← isTrue c env (eval c env); pure (ForInStep.yield ok) else pure (ForInStep.yield r)) (fun ok s₃ => if ok = true then wpAny (model prog w) A (eval elt env) (fun x s₄ =>
            wpAny (model prog w) A (call (.builtin "list.append") [acc, x]) (fun _ s₅ => ∃ m, m < n ∧ I m s₅) (fun _ _ => False) s₄) (notedBy (model prog w) A env fun x s' => R (.error x) s') s₃
            else ∃ m, m < n ∧ I m s₃) (fun _ _ => False) s₂)
          (fun _ _ => False) s₀) (fun _ _ => False) s₁) (fun _ _ => False) s)
    (n : Nat) (h : I n s) : codeAny (model prog w) A (.compLoop (.ListComp elt [⟨target, iter, ifs, 0⟩] scope pos) 0 it acc env) R s := by
  refine codeAny_loop rfl I (fun n s hI => ?_) n h
  show wpAny _ A ((compTurn (.ListComp elt [⟨target, iter, ifs, 0⟩] scope pos) 0 it acc env).onRaise (fun x => do noteFrame x env; theTreesLotGoes x)) _ _ s
  refine wpAny_noted ?_
  rw [compTurn_list]
  refine wpAny_bind (wpAny_standAt (wpAny_bind (wpAny_mono (turn n s hI) (fun r s₁ h₁ => ?_) fun _ _ f => f.elim)))
  cases r with
  | none => exact wpAny_pure h₁
  | some v =>
    refine wpAny_bind (wpAny_mono h₁ (fun _ s₀ h₀' => ?_) fun _ _ f => f.elim)
    refine wpAny_bind (wpAny_mono h₀' (fun _ s₂ h₂ => ?_) fun _ _ f => f.elim)
    refine wpAny_bind (wpAny_mono h₂ (fun okb s₃ h₃ => ?_) fun _ _ f => f.elim)
    cases okb with
    | false => exact wpAny_pure ⟨rfl, h₃⟩
    | true => exact wpAny_bind (wpAny_bind (wpAny_mono h₃ (fun x s₄ h₄ => wpAny_bind (wpAny_mono h₄ (fun _ s₅ h₅ => wpAny_pure (wpAny_pure ⟨rfl, h₅⟩)) fun _ _ f => f.elim)) fun _ _ f => f))
noncomputable abbrev Cx.blockX (X : Cx) (N' : List Str) (scope : Scope) (C : Addr) (s₀ : Shared) (H₀ : Hp) (ex : List Addr) (xe : Value → Shared → Prop) : Cx :=
  { X with N := N', env := compEnvC scope (clOf X.env.cells scope.names []) C X.env, s₀ := s₀, H₀ := H₀, outer := X.stack, stack := X.stack, ex := ex, fn := fun _ => false, pn := [], xe := xe }
section
variable {X : Cx} {N' : List Str} {scope : Scope} {src : List BSrc} {pins : List (Addr × Obj)} {σ : St} {H : Hp} {s : Shared} {C acc : Addr} {fp : List Addr}
theorem Inv.blockX {C : Addr} {s₀ : Shared} {H₀ : Hp} {ex : List Addr} {xe : Value → Shared → Prop} {ps : List (Addr × Obj)} {τ : St} {G : Hp} {u : Shared} (I : Inv (X.block N' scope C s₀ H₀ ex) ps τ G u) : Inv (X.blockX N' scope C s₀ H₀ ex xe) ps τ G u := by
  have k := I.ok
  exact ⟨⟨k.mod, k.kind, k.glob, k.blt, k.above, k.inj, k.has, k.cab, k.hd, k.frames, k.stk, k.exf, k.bs, k.bsz, k.noex, k.exfs, k.funs, k.frf⟩, I.os, I.bare, I.base, I.loc, I.cell, I.free, I.freeC, I.pin, I.hok, I.len⟩
theorem Inv.unblockX {C : Addr} {s₀ : Shared} {H₀ : Hp} {ex : List Addr} {xe : Value → Shared → Prop} {ps : List (Addr × Obj)} {τ : St} {G : Hp} {u : Shared} (I : Inv (X.blockX N' scope C s₀ H₀ ex xe) ps τ G u) : Inv (X.block N' scope C s₀ H₀ ex) ps τ G u := by
  have k := I.ok
  exact ⟨⟨k.mod, k.kind, k.glob, k.blt, k.above, k.inj, k.has, k.cab, k.hd, k.frames, k.stk, k.exf, k.bs, k.bsz, k.noex, k.exfs, k.funs, k.frf⟩, I.os, I.bare, I.base, I.loc, I.cell, I.free, I.freeC, I.pin, I.hok, I.len⟩
theorem Zkz {tg elt iter : Expr} {ifs : List Expr} {pos : Pos} {g : TG} {tt : TT} {te : EXT → TE} {EX : EXT} {it : Addr} {tn : Nat → Heap → Prop} {J : It} {Q : VK} {RR : Value → Addr → Result → Shared → Prop} {E : Value → Shared → Prop}
    (hc : X.calm = true) (hex : X.ex = []) (hst : X.stack = X.env :: X.outer) (hfr : X.env.frame = some X.env.locals) (S : CompScope X N' scope src)
    (hg : ∀ (C : Addr) (s₀ : Shared) (H₀ : Hp) (ex : List Addr), PG (X.block N' scope C s₀ H₀ ex) tg g)
    (ht : ∀ (C : Addr) (s₀ : Shared) (H₀ : Hp) (ex : List Addr), PTs (X.block N' scope C s₀ H₀ ex) ifs tt)
    (he : ∀ (C : Addr) (s₀ : Shared) (H₀ : Hp) (ex : List Addr) (xe : Value → Shared → Prop) (EX : EXT), Zjn (X.blockX N' scope C s₀ H₀ ex xe) EX → PE (X.blockX N' scope C s₀ H₀ ex xe) elt (te EX))
    (I : Inv X pins σ H s) (T : Turn X.prog X.w X.K tg J fp it tn) (st : tn 0 s.heap) (hf : ∀ b ∈ fp, FpOk X pins H b)
    (q : ∀ acc, H acc = none → ∃ W : Nat → Nat → St → Hp → Prop, (∃ m, W 0 m (bSt src σ acc) (upd H acc (.lst []))) ∧ ∀ i m σ' H, W i m σ' H → (J.stop i H ∧ Q (.ref acc) H) ∨
      (J.go i H ∧ ∀ x H', J.yld i H x H' → g x σ' H' fun σ2 H2 => tt σ2 H2 fun b H3 => if b = true then te (fun cls od _ H' => EX cls od σ H') σ2 H3 fun y H4 => Zdz (.ref acc) [y] H4 fun _ H5 => ∃ m', m' < m ∧ W (i + 1) m' σ2 H5 else ∃ m', m' < m ∧ W (i + 1) m' σ2 H3))
    (hRR : ∀ (acc C : Addr) (s' : Shared) (H' : Hp) (m : Str → Option Value), Inv X pins σ H' s' → Q (.ref acc) H' → s'.heap.Ns C m → H' C = none → C ≠ X.env.locals → X.s₀.heap.objs.size ≤ C → (∀ x c, X.env.cells.lookup x = some c → c ≠ C) → (∀ p ∈ X.pn ++ pins, p.1 ≠ C) →
      RR (.ref acc) C (.ok .next) s')
    (hRE : ∀ (acc C : Addr) (s' : Shared) (H' : Hp) (m : Str → Option Value) (a : Addr) (cls : Value) (dx : Option Addr) (T : Addr), Inv X pins σ H' s' → Air X pins H' s' a cls dx T → EX cls dx σ H' → s'.heap.Ns C m → H' C = none → C ≠ X.env.locals → X.s₀.heap.objs.size ≤ C → (∀ x c, X.env.cells.lookup x = some c → c ≠ C) → (∀ p ∈ X.pn ++ pins, p.1 ≠ C) → C ≠ a → C ≠ T →
      RR (.ref acc) C (.error (.ref a)) s') :
    wpAny (model X.prog X.w) X.A (newList []) (fun acc s₃ => wpAny (model X.prog X.w) X.A (newFunctionEnv scope X.env.globals (clOf X.env.cells scope.names []) [] X.env.qual none .none (some X.env)) (fun cenv s₄ =>
      codeAny (model X.prog X.w) X.A (.compStart (.ListComp elt [⟨tg, iter, ifs, 0⟩] scope pos) 0 (.ref it) acc { cenv with scope := relabel scope X.env }) (RR acc cenv.locals) s₄) E s₃) E s := by
  have hfo : ∀ b ∈ fp, ∃ o, s.heap.get? b = some o := fun b hb => let ⟨o, e, _⟩ := T.obj 0 _ st b hb; ⟨o, e⟩
  refine wpAny_newObj_type (wpAny_newFunctionEnv S.nocell (by intro y hy; simp at hy) (fun h₁ hns₁ hsb₁ => ?_) S.kind)
  dsimp only at hns₁ hsb₁ ⊢
  have hacc : H s.heap.objs.size = none := I.hok.fresh (Nat.le_refl _)
  have I3 : Inv X pins σ (upd H s.heap.objs.size (.lst [])) { s with heap := s.heap.push { cls := .type "list", dict := none, data := .seq ([] : List Value).toArray } } := I.lnew (t' := s.toks) (its := []) (ys := []) .nil (Nat.zero_le _)
  have hf3 : ∀ b ∈ fp, FpOk X pins (upd H s.heap.objs.size (.lst [])) b := fun b hb => by
    obtain ⟨f0, f⟩ := hf b hb
    obtain ⟨o, ho⟩ := hfo b hb
    exact ⟨by rw [Zv (Nat.ne_of_lt (Heap.lt_size ho))]; exact f0, f⟩
  have hfo3 : ∀ b ∈ fp, ∃ o, (s.heap.push { cls := .type "list", dict := none, data := .seq ([] : List Value).toArray }).get? b = some o := fun b hb => let ⟨o, e⟩ := hfo b hb; ⟨o, Heap.get?_push_of_some _ e⟩
  obtain ⟨W, ⟨m0, w0⟩, turn⟩ := q _ hacc
  generalize hH2 : s.heap.push { cls := .type "list", dict := none, data := .seq ([] : List Value).toArray } = H2 at hns₁ hsb₁ I3 hfo3 ⊢
  have keep : ∀ b o, H2.get? b = some o → h₁.get? b = some o := fun b o e => hsb₁.extBut b o (Nat.ne_of_lt (Heap.lt_size e)) (Heap.get?_push_of_some _ e)
  have J0 := Zgl (N' := N') (scope := scope) (src := src) (acc := s.heap.objs.size) (tk := s.toks + ([] : List (Str × Value)).length) (C := H2.objs.size) S I3 rfl hf3 hfo3 (show h₁.Ns H2.objs.size (fun _ => none) from hns₁) keep
  have st1 : tn 0 h₁ := T.keep 0 s.heap h₁ st fun b hb o e => keep b o (by rw [← hH2]; exact Heap.get?_push_of_some _ e)
  have cne : H2.objs.size ≠ X.env.locals := Nat.ne_of_gt I3.lt
  have csz : X.s₀.heap.objs.size ≤ H2.objs.size := I3.sz
  have ccell : ∀ x c, X.env.cells.lookup x = some c → c ≠ H2.objs.size := fun x c e z => by
    obtain ⟨v, oc, hoc, _⟩ := I3.cell x c e
    exact absurd (Heap.lt_size hoc) (by rw [z]; exact Nat.lt_irrefl _)
  have cpin : ∀ p ∈ X.pn ++ pins, p.1 ≠ H2.objs.size := fun p hp z => absurd (Heap.lt_size (I3.pin p hp).1) (by rw [z]; exact Nat.lt_irrefl _)
  have loop : ∀ s₃ : Shared, s₃ = { s with heap := h₁, toks := s.toks + ([] : List (Str × Value)).length } →
      codeAny (model X.prog X.w) X.A (.compLoop (.ListComp elt [⟨tg, iter, ifs, 0⟩] scope pos) 0 (.ref it) (.ref s.heap.objs.size) (compEnvC scope (clOf X.env.cells scope.names []) H2.objs.size X.env)) (RR (.ref s.heap.objs.size) H2.objs.size) s₃ := by
    rintro s₃ rfl
    refine Zna (fun n s' => ∃ i σ' H', Inv (X.block N' scope H2.objs.size { s with heap := H2 } (upd H s.heap.objs.size (.lst [])) fp) [] σ' H' s' ∧ tn i s'.heap ∧ (∀ b ∈ fp, H' b = none) ∧ W i n σ' H') ?_ m0 ⟨0, _, _, J0, st1, fun b hb => (hf3 b hb).1, w0⟩
    rintro n s4 ⟨i, σ4, H4, J4, st4, fr4, w4⟩
    have fok : ∀ {H' : Hp}, (∀ b ∈ fp, H' b = none) → ∀ b ∈ fp, FpOk (X.block N' scope H2.objs.size { s with heap := H2 } (upd H s.heap.objs.size (.lst [])) fp) [] H' b := fun {H'} hn b hb => by
      obtain ⟨f0, f1, f2, f3, f4, f5⟩ := hf3 b hb
      refine ⟨hn b hb, ?_, fun z => J4.ok.exfs b hb z, .inl hb, fun x c e => (J4.ok.exf b hb).2 x c e, fun p hp => ?_⟩
      · exact (J4.ok.exf b hb).1
      · have hp' : p ∈ ([] : List (Addr × Obj)) := by simpa using hp
        exact nomatch hp'
    rcases turn i n σ4 H4 w4 with ⟨stop, qn⟩ | ⟨go, step⟩
    · refine thn (T.done (X.block N' scope H2.objs.size { s with heap := H2 } (upd H s.heap.objs.size (.lst [])) fp) rfl rfl rfl hc i [] s4 σ4 H4 _ J4 (fok fr4) st4 stop) fun r s5 ⟨hr, J5⟩ => ?_
      subst hr
      obtain ⟨m5, hn5, _⟩ := J5.loc
      have I5 : Inv X pins σ H4 s5 := I3.call' (ch := fp) J5.os J5.base J5.hok J5.bare fun b hb => by
        obtain ⟨f0, f1, f2, f3, f4, f5⟩ := hf3 b hb
        exact ⟨f3, f1, f4, f5⟩
      exact hRR _ _ s5 H4 m5 I5 qn hn5 J5.free cne csz ccell cpin
    · refine thn (T.item (X.block N' scope H2.objs.size { s with heap := H2 } (upd H s.heap.objs.size (.lst [])) fp) rfl rfl rfl hc i [] s4 σ4 H4 _ J4 (fok fr4) st4 go) fun r s5 ⟨u, hr, h5⟩ => ?_
      subst hr
      refine thn h5 fun _ s6 ⟨x, H6, J6, r6, y6, st6, fr6⟩ => ?_
      have J6' := J6.pinned (fok fr6) (T.obj _ _ st6)
      have again : ∀ {σ7 : St} {H7 : Hp} {s7 : Shared}, Inv (X.block N' scope H2.objs.size { s with heap := H2 } (upd H s.heap.objs.size (.lst [])) fp) ([] ++ Zhg fp s6.heap) σ7 H7 s7 → (∃ m', m' < n ∧ W (i + 1) m' σ7 H7) →
          ∃ m, m < n ∧ ∃ i σ' H', Inv (X.block N' scope H2.objs.size { s with heap := H2 } (upd H s.heap.objs.size (.lst [])) fp) [] σ' H' s7 ∧ tn i s7.heap ∧ (∀ b ∈ fp, H' b = none) ∧ W i m σ' H' := fun {σ7 H7 s7} J7 ⟨m', hm, w7⟩ => by
        refine ⟨m', hm, i + 1, σ7, H7, J7.unpinned, T.keep _ _ _ st6 fun b hb o e => (J7.pin (b, o) (List.mem_append_right _ (List.mem_append_right _ (Zcw hb e)))).1, fun b hb => ?_, w7⟩
        obtain ⟨o, e, d⟩ := T.obj _ _ st6 b hb
        exact (J7.pin (b, o) (List.mem_append_right _ (List.mem_append_right _ (Zcw hb e)))).2.1
      refine thn (hg _ _ _ _ _ s6 σ4 H6 x u _ J6' r6 (step x H6 y6)) fun _ s7 ⟨σ7, H7, J7, q7⟩ => ?_
      refine thn (ht _ _ _ _ _ s7 σ7 H7 _ J7 q7) fun b s8 ⟨H8, J8, q8⟩ => ?_
      cases b with
      | false => rw [if_neg Bool.false_ne_true] at q8 ⊢; exact again J8 q8
      | true =>
        rw [if_pos rfl] at q8 ⊢
        refine thn (he _ _ _ _ (fun e s' => notedBy (model X.prog X.w) X.A (compEnvC scope (clOf X.env.cells scope.names []) H2.objs.size X.env) (fun x s' => RR (.ref s.heap.objs.size) H2.objs.size (.error x) s') e s') (fun cls od _ H' => EX cls od σ H') ?_ _ s8 σ7 H8 _ J8.blockX q8) fun y s9 ⟨vy, H9, J9', r9, q9⟩ => ?_
        · intro ps τ G u e u' K0 hx
          have up : ∀ {ps : List (Addr × Obj)} {τ : St} {G : Hp} {u : Shared}, Inv (X.blockX N' scope H2.objs.size { s with heap := H2 } (upd H s.heap.objs.size (.lst [])) fp (fun e s' => notedBy (model X.prog X.w) X.A (compEnvC scope (clOf X.env.cells scope.names []) H2.objs.size X.env) (fun x s' => RR (.ref s.heap.objs.size) H2.objs.size (.error x) s') e s')) ps τ G u → Inv X pins σ G u := fun {ps τ G u} K => I3.call' (ch := fp) K.os K.base K.hok K.bare fun b hb => by
            obtain ⟨f0, f1, f2, f3, f4, f5⟩ := hf3 b hb
            exact ⟨f3, f1, f4, f5⟩
          obtain ⟨a, cls, dx, T', G', ee, I', ar, qx, os2, bare2, un2, hok2, na, nT⟩ := Zxj (X := X) (EX := EX) hex (up K0) hx
          have Kb := K0.call' (ch := []) os2 un2 hok2 bare2 (fun b hb => nomatch hb)
          subst ee
          obtain ⟨m0, ⟨o0, _, _, q0, _⟩, _⟩ := K0.loc
          obtain ⟨mC, ⟨oC, esC, epC, qC, rC⟩, _⟩ := Kb.loc
          have q0' : u.heap.get? H2.objs.size = some o0 := q0
          have qC' : u'.heap.get? H2.objs.size = some oC := qC
          have nCa : H2.objs.size ≠ a := fun z => by rw [z, na] at q0'; cases q0'
          have nCT : H2.objs.size ≠ T' := fun z => by rw [z, nT] at q0'; cases q0'
          have nCf : H2.objs.size ∉ frs X.stack := fun z => by
            rcases List.mem_cons.mp (I3.stkSub _ z) with y | y
            · exact cne y
            · exact I3.nofs (Nat.le_refl _) y
          show wpAny (model X.prog X.w) X.A (noteFrame (.ref a) (compEnvC scope (clOf X.env.cells scope.names []) H2.objs.size X.env)) _ _ u'
          rw [Zog (env := X.env) (env' := compEnvC scope (clOf X.env.cells scope.names []) H2.objs.size X.env) rfl]
          refine Zh5 (base := X.base) (by rw [I3.ok.frames, hst]) (by rw [← hst]; exact I'.stack) hfr ar.r fun h1 T1 n1 => ?_
          rw [← hst] at n1
          obtain ⟨I1, a1⟩ := I'.noted ar hex n1
          have nT1 : H2.objs.size ≠ T1 := fun z => by
            rcases n1.new with y | y
            · rw [← z, qC'] at y; cases y
            · cases y; exact nCT z
          exact hRE _ _ _ G' mC a cls dx T1 I1 a1 qx ⟨oC, esC, epC, n1.keep _ oC nCa (fun z => nCT (List.mem_singleton.mp z)) nCf qC', rC⟩ Kb.free cne csz ccell cpin nCa nT1
        have J9 := J9'.unblockX
        refine thn (Zd0 _ s9 σ7 H9 (.ref s.heap.objs.size) [vy] (.ref s.heap.objs.size) [y] _ J9 rfl (.cons r9 .nil) q9) fun _ s10 ⟨_, H10, J10, _, q10⟩ => again J10 q10
  exact codeAny_compStart_list (loop _ rfl) (T.self X.A 0 _ _ _ st1 (loop _ rfl))
noncomputable def Zsy (src : List BSrc) (wi : TI) (g : TG) (tt : TT) (te : EXT → TE) (EX : EXT) : TE := fun σ H Q => wi σ H fun J H1 => ∀ acc, H1 acc = none →
  ∃ W : Nat → Nat → St → Hp → Prop, (∃ m, W 0 m (bSt src σ acc) (upd H1 acc (.lst []))) ∧ ∀ i m σ' H, W i m σ' H → (J.stop i H ∧ Q (.ref acc) H) ∨
    (J.go i H ∧ ∀ x H', J.yld i H x H' → g x σ' H' fun σ2 H2 => tt σ2 H2 fun b H3 => if b = true then te (fun cls od _ H' => EX cls od σ H') σ2 H3 fun y H4 => Zdz (.ref acc) [y] H4 fun _ H5 => ∃ m', m' < m ∧ W (i + 1) m' σ2 H5 else ∃ m', m' < m ∧ W (i + 1) m' σ2 H3)
theorem Zq7 {tg elt iter : Expr} {ifs : List Expr} {pos : Pos} {wi : TI} {g : TG} {tt : TT} {te : EXT → TE} {EX : EXT} (hc : X.calm = true) (hex : X.ex = []) (hst : X.stack = X.env :: X.outer) (hfr : X.env.frame = some X.env.locals) (th : Zdi X EX) (S : CompScope X N' scope src) (hi : PI X tg iter wi)
    (hg : ∀ (C : Addr) (s₀ : Shared) (H₀ : Hp) (ex : List Addr), PG (X.block N' scope C s₀ H₀ ex) tg g)
    (ht : ∀ (C : Addr) (s₀ : Shared) (H₀ : Hp) (ex : List Addr), PTs (X.block N' scope C s₀ H₀ ex) ifs tt)
    (he : ∀ (C : Addr) (s₀ : Shared) (H₀ : Hp) (ex : List Addr) (xe : Value → Shared → Prop) (EX : EXT), Zjn (X.blockX N' scope C s₀ H₀ ex xe) EX → PE (X.blockX N' scope C s₀ H₀ ex xe) elt (te EX))
    (hs : ∀ x, foldedSetIterable iter X.env x = pure x := by intro _; rfl) : PE X (.ListComp elt [⟨tg, iter, ifs, 0⟩] scope pos) (Zsy src wi g tt te EX) := by
  intro pins s σ H Q I h
  rw [eval_ListComp]
  refine wpAny_comprehension_free (use := none) rfl hs (Zdo fun y hy e => I.ok.has y.1 (S.free y hy e)) S.kind S.names (thn (hi pins s σ H _ I h) fun v s1 h1 => thn h1 fun itv s2 h2 => ?_)
  obtain ⟨it, fp, tn, J, H2, e, I2, T, st2, f2, q⟩ := h2
  subst e
  refine Zkz hc hex hst hfr S hg ht he I2 T st2 f2 q (fun acc C s' H' m I' q' hn hC c1 c2 c3 c4 => ⟨m, hn, fun h' hs' => ?_⟩) fun acc C s' H' m a cls dx T' I' ar qx hn hC c1 c2 c3 c4 n1 n2 => ⟨m, hn, fun h' hs' cenv hce => ?_⟩
  · exact ⟨.ref acc, H', I'.turned (t' := s'.toks) (fun b o hb e => (hs'.2 b hb).trans e) hC c1 (.inr c2) c3 c4, rfl, q'⟩
  · have I3 : Inv X pins σ H' { s' with heap := h' } := I'.turned (t' := s'.toks) (fun b o hb e => (hs'.2 b hb).trans e) hC c1 (.inr c2) c3 c4
    have r3 : Raised h' a cls dx (some T') := by
      obtain ⟨oe, vs, k1, k2⟩ := ar.r.obj
      refine ⟨⟨oe, vs, (hs'.2 a (Ne.symm n1)).trans k1, k2⟩, fun T2 z => ?_⟩
      cases z
      obtain ⟨k3, oT, ts, fl, k4, k5⟩ := ar.r.tr T' rfl
      exact ⟨k3, oT, ts, fl, (hs'.2 T' (Ne.symm n2)).trans k4, k5⟩
    have a3 : Air X pins H' { s' with heap := h' } a cls dx T' := ⟨r3, ar.e0, ar.eH, ar.t0, ar.tH, ar.pe, ar.le, ar.ce⟩
    obtain ⟨oe, vs, k1, k2, kd, k3, k5⟩ := r3.obj
    have nor : ∀ b o ws, h'.get? b = some o → o.data = .fields ws → b ∉ frs X.stack := fun b o ws q qd hm => by
      obtain ⟨_, o', q1, q2⟩ := I3.stack.mem hm
      have q1' : h'.get? b = some o' := q1
      rw [q] at q1'; cases q1'
      exact q2 ws qd
    unfold PySem.passOn
    refine wpAny_bind (wpAny_field (s := { s' with heap := h' }) k1 k3 k5 ?_)
    rw [if_neg (by simp)]
    refine wpAny_bind (Zef (s := { s' with heap := h' }) r3 nor fun h2 n2 => ?_)
    obtain ⟨I4, a4⟩ := I3.noted a3 hex n2
    exact wpAny_throw (th pins σ H' _ a cls dx T' I4 a4.r a4.e0 a4.eH a4.t0 a4.tH a4.pe a4.le a4.ce qx)
end
end L2
namespace PySem
open Sem (wp)
section
variable {prog : Program} {w : World} {A : Around} {E : Value → Shared → Prop} {h : Heap} {g : Array GenState} {d : Drawn} {t : Nat} {os : OsState}
variable {nm q : Str} {C N fI : Addr} {oI : Obj} {bs bm bmB bmN : List Value} {hdct : Bool} {sn : List Str} {sub : List Value} {ab : Bool} {col : Option Bool} {dd : Option Addr} {k0 k1 k2 k3 k5 : Option Value} {B Bn newId nid initId inN : String} {mN : Str → Option Value} {rest : List Value}
end
section
variable {prog : Program} {w : World} {A : Around} {E : Value → Shared → Prop} {s : Shared} {env : Env}
variable {nm q : Str} {C N fI : Addr} {bs bm bmB bmN : List Value} {hdct : Bool} {sn : List Str} {sub : List Value} {ab : Bool} {col : Option Bool} {dd : Option Addr} {k0 k1 k2 k3 k5 : Option Value} {B Bn newId nid initId inN : String} {mN : Str → Option Value}
end
end PySem
namespace L2
open PySem PySem.Spec PySem.Calls PyProof.Rows Builtin.ObjectAttr
noncomputable def Zxk : List Value → Bool
  | .ref _ :: r => Zxk r
  | l => l == VEB
section
variable {prog : Program} {w : World} {A : Around} {E : Value → Shared → Prop} {s : Shared} {K : PySem.W.Frag} {x C : Addr} {name : Str} {v : Value}
end
end L2
namespace L2
open PySem PySem.Spec PyProof.Rows
noncomputable def Z2c (K : PySem.W.Frag) (C f : Addr) : Bool := match K.lookup C with
  | some ⟨.type "type", _, .cls cd, sl⟩ => (match cd.mro, sl.toList with
    | .ref B :: r, [_, _, _, _, some (.builtin i), _] => B == C && i == "ValueError.__new__" && !cd.hasDel && PySem.W.tailIn K VEB r && PySem.W.nsOkIn K cd.ns && PySem.W.nsIn K cd.ns "__init__" == some (some (.ref f))
    | _, _ => false)
  | _ => false
noncomputable def drop (H : Hp) (e : Addr) : Hp := fun b => if b = e then none else H b
section
variable {X : Cx} {pins : List (Addr × Obj)} {σ : St} {H : Hp} {s : Shared} {e C : Addr}
end
section
variable {X : Cx} {e o value : Expr} {f : Str} {pos pos' : Pos} {ta tv : TE}
end
end L2
namespace DL
open PySem L2
variable {K : PySem.W.Frag}
inductive D where
  | non | bl (b : Bool) | int (i : Int) | str (x : Str)
  | tup (xs : List D) | lst (xs : List D)
  | dK (ks : List Key) (vs : List D) | dT (ks : List (List Key)) (vs : List D)
  | exc (c : Str) (ks : List Str) (vs : List D)
noncomputable def Zev (K : PySem.W.Frag) (c : Str) (C : Addr) : Prop := PySem.W.nsIn K mainGlobals c = some (some (.ref C))
noncomputable def KB (F : Hp) (kvs : List (List Key × V)) (bs : List Addr) : Prop := Paired (fun (p : List Key × V) (b : Addr) => F b = some (.tup (p.1.map kV))) kvs bs
mutual
inductive Rep (K : PySem.W.Frag) (F : Hp) : D → V → Prop where
  | non : Rep K F .non .non
  | bl (b : Bool) : Rep K F (.bl b) (.bl b)
  | int (i : Int) : Rep K F (.int i) (.int i)
  | str (x : Str) : Rep K F (.str x) (.str x)
  | tup {a : Addr} {xs : List D} {vs : List V} (h : F a = some (.tup vs)) (r : Reps K F xs vs) : Rep K F (.tup xs) (.ref a)
  | lst {a : Addr} {xs : List D} {vs : List V} (h : SqL K F a vs) (r : Reps K F xs vs) : Rep K F (.lst xs) (.ref a)
  | dK {a : Addr} {ks : List Key} {ds : List D} {kvs : List (Key × V)} {ep : Nat} (h : F a = some (.dK kvs ep)) (e : kvs.map (·.1) = ks) (r : Reps K F ds (kvs.map (·.2))) : Rep K F (.dK ks ds) (.ref a)
  | dT {a : Addr} {ks : List (List Key)} {ds : List D} {kvs : List (List Key × V)} {ep : Nat} {bs : List Addr} (h : F a = some (.dT kvs ep bs)) (kb : KB F kvs bs) (e : kvs.map (·.1) = ks) (r : Reps K F ds (kvs.map (·.2))) : Rep K F (.dT ks ds) (.ref a)
  | exc {a C : Addr} {c : Str} (cl : Zev K c C) (h : F a = some (.ext (Zgm a C none))) : Rep K F (.exc c [] []) (.ref a)
  | exd {a C dx : Addr} {c : Str} {ks : List Str} {ds : List D} {fs : List (Str × V)} (cl : Zev K c C) (h : F a = some (.ext (Zgm a C (some dx)))) (hx : F dx = some (.xd fs)) (e : fs.map (·.1) = ks) (r : Reps K F ds (fs.map (·.2))) : Rep K F (.exc c ks ds) (.ref a)
inductive Reps (K : PySem.W.Frag) (F : Hp) : List D → List V → Prop where
  | nil : Reps K F [] []
  | cons {d : D} {v : V} {ds : List D} {vs : List V} (h : Rep K F d v) (t : Reps K F ds vs) : Reps K F (d :: ds) (v :: vs)
end
theorem KB.mono {F F' : Hp} (s : Same F F') {kvs : List (List Key × V)} {bs : List Addr} (h : KB F kvs bs) : KB F' kvs bs := Paired.mapP h fun _ _ z => s _ _ z
theorem Zsz {F F' : Hp} (s : Same F F') {a : Addr} {u : HO} (h : Rd F a u) : Rd F' a u := by
  rcases h with h | ⟨o, h⟩
  · exact .inl (s _ _ h)
  · exact .inr ⟨o, s _ _ h⟩
theorem Zc7 {F F' : Hp} (s : Same F F') {a : Addr} {xs : List V} (h : SqL K F a xs) : SqL K F' a xs := by
  rcases h with h | h
  · exact .inl (Zsz s h)
  · exact .inr h
theorem Zc8 {F F' : Hp} (s : Same F F') {a : Addr} {xs : List V} (h : SqT K F a xs) : SqT K F' a xs := by
  rcases h with h | h
  · exact .inl (Zsz s h)
  · exact .inr h
theorem Zjq {F : Hp} {a : Addr} {vs : List V} (h : F a = some (.tup vs)) : SqT K F a vs := .inl (.inl h)
mutual
theorem Rep.mono {F F' : Hp} (s : Same F F') : ∀ {d : D} {v : V}, Rep K F d v → Rep K F' d v
  | _, _, .non => .non
  | _, _, .bl b => .bl b
  | _, _, .int i => .int i
  | _, _, .str x => .str x
  | _, _, .tup h r => .tup (s _ _ h) (Reps.mono s r)
  | _, _, .lst h r => .lst (Zc7 s h) (Reps.mono s r)
  | _, _, .dK h e r => .dK (s _ _ h) e (Reps.mono s r)
  | _, _, .dT h kb e r => .dT (s _ _ h) (kb.mono s) e (Reps.mono s r)
  | _, _, .exc cl h => .exc cl (s _ _ h)
  | _, _, .exd cl h hx e r => .exd cl (s _ _ h) (s _ _ hx) e (Reps.mono s r)
theorem Reps.mono {F F' : Hp} (s : Same F F') : ∀ {ds : List D} {vs : List V}, Reps K F ds vs → Reps K F' ds vs
  | _, _, .nil => .nil
  | _, _, .cons h t => .cons (Rep.mono s h) (Reps.mono s t)
end
theorem Reps.length {F : Hp} : ∀ {ds : List D} {vs : List V}, Reps K F ds vs → ds.length = vs.length
  | _, _, .nil => rfl
  | _, _, .cons _ t => by rw [List.length_cons, List.length_cons, Reps.length t]
theorem Reps.append {F : Hp} : ∀ {ds es : List D} {vs us : List V}, Reps K F ds vs → Reps K F es us → Reps K F (ds ++ es) (vs ++ us)
  | _, _, _, _, .nil, q => q
  | _, _, _, _, .cons h t, q => .cons h (t.append q)
theorem Reps.snoc {F : Hp} {ds : List D} {vs : List V} {d : D} {v : V} (r : Reps K F ds vs) (h : Rep K F d v) : Reps K F (ds ++ [d]) (vs ++ [v]) := r.append (.cons h .nil)
theorem Reps.get {F : Hp} : ∀ {ds : List D} {vs : List V} {i : Nat} {d : D}, Reps K F ds vs → ds[i]? = some d → ∃ v, vs[i]? = some v ∧ Rep K F d v
  | _, _, _, _, .nil, e => by simp at e
  | _, _, 0, _, .cons h t, e => by simp at e; subst e; exact ⟨_, rfl, h⟩
  | _, _, i + 1, d, .cons h t, e => by
    obtain ⟨v, h1, h2⟩ := Reps.get (i := i) (d := d) t (by simpa using e)
    exact ⟨v, by simpa using h1, h2⟩
theorem Reps.take {F : Hp} : ∀ {ds : List D} {vs : List V} (n : Nat), Reps K F ds vs → Reps K F (ds.take n) (vs.take n)
  | _, _, 0, _ => .nil
  | _, _, _ + 1, .nil => .nil
  | _, _, n + 1, .cons h t => .cons h (t.take n)
theorem Reps.drop {F : Hp} : ∀ {ds : List D} {vs : List V} (n : Nat), Reps K F ds vs → Reps K F (ds.drop n) (vs.drop n)
  | _, _, 0, r => r
  | _, _, _ + 1, .nil => .nil
  | _, _, n + 1, .cons h t => t.drop n
inductive SV where
  | fz (d : D) | ol (xs : List D) | oK (ks : List Key) (vs : List D) | oT (ks : List (List Key)) (vs : List D) | oN (ks : List Key) (xss : List (List D)) | oL (pin : Option Addr) (xss : List (List D))
@[simp] noncomputable def SV.toD : SV → D
  | .fz d => d
  | .ol xs => .lst xs
  | .oK ks vs => .dK ks vs
  | .oT ks vs => .dT ks vs
  | .oN ks xss => .dK ks (xss.map D.lst)
  | .oL _ xss => .lst (xss.map D.lst)
noncomputable abbrev Zp := List (Addr × HO)
inductive Kids (K : PySem.W.Frag) (F : Hp) : List (List D) → List V → Zp → Prop where
  | nil : Kids K F [] [] []
  | cons {xs : List D} {xss : List (List D)} {b : Addr} {vs : List V} {ws : List V} {ns : Zp} (r : Reps K F xs vs) (t : Kids K F xss ws ns) : Kids K F (xs :: xss) (.ref b :: ws) ((b, .lst vs) :: ns)
inductive Shape (K : PySem.W.Frag) (F : Hp) : SV → V → Zp → Prop where
  | fz {d : D} {v : V} (h : Rep K F d v) : Shape K F (.fz d) v []
  | ol {a : Addr} {xs : List D} {vs : List V} (r : Reps K F xs vs) : Shape K F (.ol xs) (.ref a) [(a, .lst vs)]
  | oK {a : Addr} {ks : List Key} {ds : List D} {kvs : List (Key × V)} {ep : Nat} (e : kvs.map (·.1) = ks) (r : Reps K F ds (kvs.map (·.2))) : Shape K F (.oK ks ds) (.ref a) [(a, .dK kvs ep)]
  | oT {a : Addr} {ks : List (List Key)} {ds : List D} {kvs : List (List Key × V)} {ep : Nat} {bs : List Addr} (kb : KB F kvs bs) (e : kvs.map (·.1) = ks) (r : Reps K F ds (kvs.map (·.2))) : Shape K F (.oT ks ds) (.ref a) [(a, .dT kvs ep bs)]
  | oN {a : Addr} {ks : List Key} {xss : List (List D)} {kvs : List (Key × V)} {ns : Zp} {ep : Nat} (e : kvs.map (·.1) = ks) (r : Kids K F xss (kvs.map (·.2)) ns) : Shape K F (.oN ks xss) (.ref a) ((a, .dK kvs ep) :: ns)
  | oL {pin : Option Addr} {a : Addr} {xss : List (List D)} {ws : List V} {ns : Zp} (hp : ∀ b, pin = some b → b = a) (r : Kids K F xss ws ns) : Shape K F (.oL pin xss) (.ref a) ((a, .lst ws) :: ns)
theorem Kids.mono {F F' : Hp} (s : Same F F') : ∀ {xss : List (List D)} {ws : List V} {ns : Zp}, Kids K F xss ws ns → Kids K F' xss ws ns
  | _, _, _, .nil => .nil
  | _, _, _, .cons r t => .cons (r.mono s) (t.mono s)
theorem Shape.mono {F F' : Hp} (s : Same F F') {sv : SV} {v : V} {ns : Zp} (h : Shape K F sv v ns) : Shape K F' sv v ns := by
  cases h with
  | fz h => exact .fz (h.mono s)
  | ol r => exact .ol (r.mono s)
  | oK e r => exact .oK e (r.mono s)
  | oT kb e r => exact .oT (kb.mono s) e (r.mono s)
  | oN e r => exact .oN e (r.mono s)
  | oL hp r => exact .oL hp (r.mono s)
noncomputable def addL (F : Hp) : Zp → Hp
  | [] => F
  | p :: r => upd (addL F r) p.1 p.2
noncomputable abbrev adr (ns : Zp) : List Addr := ns.map (·.1)
theorem Zeg {F : Hp} {b : Addr} : ∀ {ns : Zp}, b ∉ adr ns → addL F ns b = F b
  | [], _ => rfl
  | p :: r, h => by
    have h1 : b ≠ p.1 := fun e => h (by rw [e]; exact List.mem_cons_self)
    have h2 : b ∉ adr r := fun e => h (List.mem_cons_of_mem _ e)
    show upd (addL F r) p.1 p.2 b = F b
    rw [Zv h1, Zeg h2]
theorem Zh7 {F : Hp} {p : Addr × HO} : ∀ {ns : Zp}, (adr ns).Nodup → p ∈ ns → addL F ns p.1 = some p.2
  | [], _, h => nomatch h
  | q :: r, nd, h => by
    obtain ⟨n1, n2⟩ := List.nodup_cons.mp nd
    show upd (addL F r) q.1 q.2 p.1 = some p.2
    rcases List.mem_cons.mp h with e | e
    · subst e; exact Zah
    · rw [Zv fun z => n1 (List.mem_map.mpr ⟨p, e, z⟩)]
      exact Zh7 n2 e
theorem Zcz {F : Hp} {ns : Zp} (h : ∀ p ∈ ns, F p.1 = none) : Same F (addL F ns) := fun b o e => by
  by_cases hb : b ∈ adr ns
  · obtain ⟨p, hp, ep⟩ := List.mem_map.mp hb
    subst ep
    rw [h p hp] at e; cases e
  · rw [Zeg hb]; exact e
theorem Zoh {F H : Hp} {ns : Zp} (nd : (adr ns).Nodup) (le : Same F H) (h : ∀ p ∈ ns, H p.1 = some p.2) : Same (addL F ns) H := fun b o e => by
  by_cases hb : b ∈ adr ns
  · obtain ⟨p, hp, ep⟩ := List.mem_map.mp hb
    subst ep
    rw [Zh7 nd hp] at e
    cases e
    exact h p hp
  · rw [Zeg hb] at e; exact le b o e
theorem Zl1 {Z : Hp × Hp} {F : Hp} {ns : Zp} (nd : (adr ns).Nodup) (fro : ∀ (b : Addr) (o : HO), F b = some o → Z.2 b = some o ∨ Z.1 b = none) (hz : ∀ p ∈ ns, Z.1 p.1 = none) : ∀ (b : Addr) (o : HO), addL F ns b = some o → Z.2 b = some o ∨ Z.1 b = none := fun b o e => by
  by_cases hb : b ∈ adr ns
  · obtain ⟨p, hp, ep⟩ := List.mem_map.mp hb
    subst ep
    exact .inr (hz p hp)
  · rw [Zeg hb] at e; exact fro b o e
theorem Kids.rep {F F' : Hp} (s : Same F F') : ∀ {xss : List (List D)} {ws : List V} {ns : Zp}, Kids K F xss ws ns → (∀ p ∈ ns, F' p.1 = some p.2) → Reps K F' (xss.map D.lst) ws
  | _, _, _, .nil, _ => .nil
  | _, _, _, .cons r t, h => .cons (.lst (.inl (.inl (h _ List.mem_cons_self))) (r.mono s)) (t.rep s fun p hp => h p (List.mem_cons_of_mem _ hp))
theorem Shape.rep {F : Hp} {sv : SV} {v : V} {ns : Zp} (h : Shape K F sv v ns) (nd : (adr ns).Nodup) (hn : ∀ p ∈ ns, F p.1 = none) : Rep K (addL F ns) sv.toD v := by
  have s := Zcz hn
  have a : ∀ p ∈ ns, addL F ns p.1 = some p.2 := fun p hp => Zh7 nd hp
  cases h with
  | fz h => exact h
  | ol r => exact .lst (.inl (.inl (a (_, _) List.mem_cons_self))) (r.mono s)
  | oK e r => exact .dK (a (_, _) List.mem_cons_self) e (r.mono s)
  | oT kb e r => exact .dT (a (_, _) List.mem_cons_self) (kb.mono s) e (r.mono s)
  | oN e r => exact .dK (a (_, _) List.mem_cons_self) e (r.rep s fun p hp => a p (List.mem_cons_of_mem _ hp))
  | oL _ r => exact .lst (.inl (.inl (a (_, _) List.mem_cons_self))) (r.rep s fun p hp => a p (List.mem_cons_of_mem _ hp))
noncomputable abbrev DSt := List (Option SV)
structure Ent (K : PySem.W.Frag) where
  h : Hp
  f : Hp
  x : EXT
noncomputable abbrev ent (H F : Hp) : Ent K := ⟨H, F, fun _ _ _ _ => False⟩
structure Exn where
  c : Str
  ks : List Str := []
  vs : List D := []
noncomputable def Zoi (K : PySem.W.Frag) (F : Hp) (e : Exn) (cls : Value) (od : Option Addr) : Prop := ∃ C, Zev K e.c C ∧ cls = .ref C ∧ match od with
  | none => e.ks = [] ∧ e.vs = []
  | some dx => ∃ fs : List (Str × V), F dx = some (.xd fs) ∧ fs.map (·.1) = e.ks ∧ Reps K F e.vs (fs.map (·.2))
structure SR (Z : Ent K) (F H : Hp) (σ : St) (δ : DSt) (own : Nat → Zp) : Prop where
  le : Same F H
  fro : ∀ (b : Addr) (o : HO), F b = some o → Z.f b = some o ∨ Z.h b = none
  old : Same Z.h H
  len : σ.length = δ.length
  at' : ∀ (i : Nat) (sv : SV), δ[i]? = some (some sv) → ∃ v, σ[i]? = some (some v) ∧ Shape K F sv v (own i)
  nod : ∀ i : Nat, (adr (own i)).Nodup
  ok : ∀ (i : Nat) (p : Addr × HO), p ∈ own i → F p.1 = none ∧ Z.h p.1 = none ∧ H p.1 = some p.2
  sep : ∀ (i j : Nat) (p q : Addr × HO), i ≠ j → p ∈ own i → q ∈ own j → p.1 ≠ q.1
inductive RV where
  | tmp (sv : SV) | bw (i : Nat)
structure TmpOk (Z : Ent K) (F H : Hp) (own : Nat → Zp) (sv : SV) (v : V) (ns : Zp) : Prop where
  sh : Shape K F sv v ns
  nd : (adr ns).Nodup
  ok : ∀ p ∈ ns, F p.1 = none ∧ Z.h p.1 = none ∧ H p.1 = some p.2
  sep : ∀ (i : Nat) (p q : Addr × HO), p ∈ ns → q ∈ own i → p.1 ≠ q.1
noncomputable def Zoj (Z : Ent K) (F H : Hp) (σ : St) (own : Nat → Zp) : RV → V → Prop
  | .tmp sv, v => ∃ ns, TmpOk Z F H own sv v ns
  | .bw i, v => σ[i]? = some (some v)
theorem TmpOk.fz {Z : Ent K} {F H : Hp} {own : Nat → Zp} {d : D} {v : V} (h : Rep K F d v) : TmpOk Z F H own (.fz d) v [] :=
  ⟨.fz h, List.nodup_nil, fun _ h => (nomatch h), fun _ _ _ h => (nomatch h)⟩
theorem Zc9 {H : Hp} {p : Addr} {o : HO} (h : H p = none) : Same H (upd H p o) := fun b u e => by
  rw [Zv fun z => by rw [z, h] at e; cases e]; exact e
theorem SR.grow {Z : Ent K} {F H H' : Hp} {σ : St} {δ : DSt} {own : Nat → Zp} (s : SR Z F H σ δ own) (h : Same H H') : SR Z F H' σ δ own :=
  ⟨s.le.trans h, s.fro, s.old.trans h, s.len, s.at', s.nod, fun i p hp => let ⟨a, b, c⟩ := s.ok i p hp; ⟨a, b, h _ _ c⟩, s.sep⟩
theorem SR.addF {Z : Ent K} {F H : Hp} {σ : St} {δ : DSt} {own : Nat → Zp} {ns : Zp} (s : SR Z F H σ δ own) (nd : (adr ns).Nodup) (hn : ∀ p ∈ ns, F p.1 = none) (hH : ∀ p ∈ ns, H p.1 = some p.2) (hz : ∀ p ∈ ns, Z.h p.1 = none)
    (hs : ∀ (i : Nat) (p q : Addr × HO), p ∈ ns → q ∈ own i → p.1 ≠ q.1) : SR Z (addL F ns) H σ δ own := by
  have sm := Zcz hn
  refine ⟨Zoh nd s.le hH, Zl1 (Z := (Z.h, Z.f)) nd s.fro hz, s.old, s.len, fun i sv e => ?_, s.nod, fun i p hp => ?_, s.sep⟩
  · obtain ⟨v, h1, h2⟩ := s.at' i sv e
    exact ⟨v, h1, h2.mono sm⟩
  · obtain ⟨a, b, c⟩ := s.ok i p hp
    refine ⟨?_, b, c⟩
    rw [Zeg fun hb => ?_]
    · exact a
    · obtain ⟨q, hq, e⟩ := List.mem_map.mp hb
      exact hs i q p hq hp e
theorem SR.settle {Z : Ent K} {F H : Hp} {σ : St} {δ : DSt} {own : Nat → Zp} {sv : SV} {v : V} {ns : Zp} (s : SR Z F H σ δ own) (t : TmpOk Z F H own sv v ns) :
    ∃ F1, Same F F1 ∧ SR Z F1 H σ δ own ∧ Rep K F1 sv.toD v :=
  ⟨addL F ns, Zcz fun p hp => (t.ok p hp).1, s.addF t.nd (fun p hp => (t.ok p hp).1) (fun p hp => (t.ok p hp).2.2) (fun p hp => (t.ok p hp).2.1) t.sep, t.sh.rep t.nd fun p hp => (t.ok p hp).1⟩
noncomputable def put (own : Nat → Zp) (i : Nat) (ns : Zp) : Nat → Zp := fun j => if j = i then ns else own j
theorem Zs {own : Nat → Zp} {i : Nat} {ns : Zp} : put own i ns i = ns := if_pos rfl
theorem Zac {own : Nat → Zp} {i j : Nat} {ns : Zp} (h : j ≠ i) : put own i ns j = own j := if_neg h
theorem SR.freeze {Z : Ent K} {F H : Hp} {σ : St} {δ : DSt} {own : Nat → Zp} {i : Nat} {sv : SV} (s : SR Z F H σ δ own) (e : δ[i]? = some (some sv)) :
    ∃ F1 v, Same F F1 ∧ σ[i]? = some (some v) ∧ Rep K F1 sv.toD v ∧ SR Z F1 H σ (δ.set i (some (.fz sv.toD))) (put own i []) := by
  obtain ⟨v, h1, h2⟩ := s.at' i sv e
  have hn : ∀ p ∈ own i, F p.1 = none := fun p hp => (s.ok i p hp).1
  have sm := Zcz hn
  have hi : i < δ.length := (List.getElem?_eq_some_iff.mp e).1
  refine ⟨addL F (own i), v, sm, h1, h2.rep (s.nod i) hn, ⟨Zoh (s.nod i) s.le fun p hp => (s.ok i p hp).2.2, Zl1 (Z := (Z.h, Z.f)) (s.nod i) s.fro fun p hp => (s.ok i p hp).2.1, s.old, by rw [List.length_set]; exact s.len, fun j sw ej => ?_, fun j => ?_, fun j p hp => ?_, fun j k p q hjk hp hq => ?_⟩⟩
  · by_cases hj : j = i
    · subst hj
      rw [List.getElem?_set_self hi] at ej
      cases ej
      rw [Zs]
      exact ⟨v, h1, .fz (h2.rep (s.nod j) hn)⟩
    · rw [List.getElem?_set_ne (Ne.symm hj)] at ej
      obtain ⟨w, g1, g2⟩ := s.at' j sw ej
      rw [Zac hj]
      exact ⟨w, g1, g2.mono sm⟩
  · by_cases hj : j = i
    · subst hj; rw [Zs]; exact List.nodup_nil
    · rw [Zac hj]; exact s.nod j
  · by_cases hj : j = i
    · subst hj; rw [Zs] at hp; exact nomatch hp
    · rw [Zac hj] at hp
      obtain ⟨a, b, c⟩ := s.ok j p hp
      refine ⟨?_, b, c⟩
      rw [Zeg fun hb => ?_]
      · exact a
      · obtain ⟨q, hq, z⟩ := List.mem_map.mp hb
        exact s.sep i j q p (Ne.symm hj) hq hp z
  · by_cases hj : j = i
    · subst hj; rw [Zs] at hp; exact nomatch hp
    · by_cases hk : k = i
      · subst hk; rw [Zs] at hq; exact nomatch hq
      · rw [Zac hj] at hp
        rw [Zac hk] at hq
        exact s.sep j k p q hjk hp hq
theorem SR.store {Z : Ent K} {F H : Hp} {σ : St} {δ : DSt} {own : Nat → Zp} {i : Nat} {sv : SV} {v : V} {ns : Zp} (s : SR Z F H σ δ own) (t : TmpOk Z F H own sv v ns) (hi : i < σ.length) :
    SR Z F H (σ.set i (some v)) (δ.set i (some sv)) (put own i ns) := by
  refine ⟨s.le, s.fro, s.old, by rw [List.length_set, List.length_set]; exact s.len, fun j sw ej => ?_, fun j => ?_, fun j p hp => ?_, fun j k p q hjk hp hq => ?_⟩
  · by_cases hj : j = i
    · subst hj
      have hd : j < δ.length := by
        have := (List.getElem?_eq_some_iff.mp ej).1
        simpa using this
      rw [List.getElem?_set_self hd] at ej
      cases ej
      rw [Zs, List.getElem?_set_self hi]
      exact ⟨v, rfl, t.sh⟩
    · rw [List.getElem?_set_ne (Ne.symm hj)] at ej
      rw [Zac hj, List.getElem?_set_ne (Ne.symm hj)]
      exact s.at' j sw ej
  · by_cases hj : j = i
    · subst hj; rw [Zs]; exact t.nd
    · rw [Zac hj]; exact s.nod j
  · by_cases hj : j = i
    · subst hj; rw [Zs] at hp; exact t.ok p hp
    · rw [Zac hj] at hp; exact s.ok j p hp
  · by_cases hj : j = i
    · subst hj
      rw [Zs] at hp
      rw [Zac (Ne.symm hjk)] at hq
      exact t.sep k p q hp hq
    · by_cases hk : k = i
      · subst hk
        rw [Zs] at hq
        rw [Zac hj] at hp
        exact Ne.symm (t.sep j q p hq hp)
      · rw [Zac hj] at hp
        rw [Zac hk] at hq
        exact s.sep j k p q hjk hp hq
theorem SR.change {Z : Ent K} {F H : Hp} {σ : St} {δ : DSt} {own : Nat → Zp} {i : Nat} {sv sv' : SV} {a : Addr} {o o' : HO} {v : V} {ns' : Zp} (s : SR Z F H σ δ own) (e : δ[i]? = some (some sv)) (hv : σ[i]? = some (some v))
    (ha : (a, o) ∈ own i) (hs : Shape K F sv' v ns') (hns : ∀ p ∈ ns', p = (a, o') ∨ (p ∈ own i ∧ p.1 ≠ a)) (nd : (adr ns').Nodup) : SR Z F (upd H a o') σ (δ.set i (some sv')) (put own i ns') := by
  obtain ⟨fa, ha0, hHa⟩ := s.ok i (a, o) ha
  have hi : i < δ.length := (List.getElem?_eq_some_iff.mp e).1
  refine ⟨fun b u eb => ?_, s.fro, fun b u eb => ?_, by rw [List.length_set]; exact s.len, fun j sw ej => ?_, fun j => ?_, fun j p hp => ?_, fun j k p q hjk hp hq => ?_⟩
  · rw [Zv fun z => by rw [z] at eb; rw [fa] at eb; cases eb]; exact s.le b u eb
  · rw [Zv fun z => by rw [z] at eb; rw [ha0] at eb; cases eb]; exact s.old b u eb
  · by_cases hj : j = i
    · subst hj
      rw [List.getElem?_set_self hi] at ej
      cases ej
      rw [Zs]
      exact ⟨v, hv, hs⟩
    · rw [List.getElem?_set_ne (Ne.symm hj)] at ej
      rw [Zac hj]
      exact s.at' j sw ej
  · by_cases hj : j = i
    · subst hj; rw [Zs]; exact nd
    · rw [Zac hj]; exact s.nod j
  · by_cases hj : j = i
    · subst hj
      rw [Zs] at hp
      rcases hns p hp with z | ⟨z, ne⟩
      · subst z; exact ⟨fa, ha0, Zah⟩
      · obtain ⟨x, y, w⟩ := s.ok j p z
        exact ⟨x, y, by rw [Zv ne]; exact w⟩
    · rw [Zac hj] at hp
      obtain ⟨x, y, w⟩ := s.ok j p hp
      exact ⟨x, y, by rw [Zv (s.sep j i p (a, o) hj hp ha)]; exact w⟩
  · have own' : ∀ r ∈ ns', ∃ r' ∈ own i, r.1 = r'.1 := fun r hr => by
      rcases hns r hr with z | ⟨z, _⟩
      · subst z; exact ⟨(a, o), ha, rfl⟩
      · exact ⟨r, z, rfl⟩
    by_cases hj : j = i
    · subst hj
      rw [Zs] at hp
      rw [Zac (Ne.symm hjk)] at hq
      obtain ⟨r', hr', er⟩ := own' p hp
      rw [er]
      exact s.sep j k r' q hjk hr' hq
    · by_cases hk : k = i
      · subst hk
        rw [Zs] at hq
        rw [Zac hj] at hp
        obtain ⟨r', hr', er⟩ := own' q hq
        rw [er]
        exact s.sep j k p r' hjk hp hr'
      · rw [Zac hj] at hp
        rw [Zac hk] at hq
        exact s.sep j k p q hjk hp hq
end DL
namespace DL
open PySem L2
variable {K : PySem.W.Frag}
noncomputable abbrev FE := DSt → Option (RV × DSt)
noncomputable abbrev FT := DSt → Option (Bool × DSt)
noncomputable abbrev FA := DSt → Option (List RV × DSt)
noncomputable abbrev FD := DSt → Option (List D × DSt)
@[simp] noncomputable def SV.nested : SV → Bool
  | .oN _ _ => true
  | .oL _ _ => true
  | _ => false
@[simp] noncomputable def rdv : RV → DSt → Option D
  | .tmp sv, _ => some sv.toD
  | .bw i, δ => (δ[i]?.join).bind fun sv => if sv.nested then none else some sv.toD
@[simp] noncomputable def frz : RV → DSt → Option (D × DSt)
  | .tmp sv, δ => some (sv.toD, δ)
  | .bw i, δ => (δ[i]?.join).bind fun sv => some (sv.toD, δ.set i (some (.fz sv.toD)))
theorem Zd3 {δ : DSt} {i : Nat} {sv : SV} (h : δ[i]?.join = some sv) : δ[i]? = some (some sv) := by
  cases e : δ[i]? with
  | none => rw [e] at h; cases h
  | some o => rw [e] at h; cases o with
    | none => cases h
    | some s => cases h; rfl
noncomputable def Ze (Z : Ent K) (f : FE) : TE := fun σ H Q => ∃ F δ own rv δ', SR Z F H σ δ own ∧ f δ = some (rv, δ') ∧
  ∀ v H' F' own', Same H H' → Same F F' → SR Z F' H' σ δ' own' → Zoj Z F' H' σ own' rv v → Q v H'
noncomputable def Zaq (Z : Ent K) (f : FT) : TT := fun σ H Q => ∃ F δ own b δ', SR Z F H σ δ own ∧ f δ = some (b, δ') ∧
  ∀ H' F' own', Same H H' → Same F F' → SR Z F' H' σ δ' own' → Q b H'
noncomputable def RVS (K : PySem.W.Frag) (F : Hp) (σ : St) : RV → V → Prop
  | .tmp sv, v => Rep K F sv.toD v
  | .bw i, v => σ[i]? = some (some v)
inductive RVSs (K : PySem.W.Frag) (F : Hp) (σ : St) : List RV → List V → Prop where
  | nil : RVSs K F σ [] []
  | cons {rv : RV} {v : V} {rvs : List RV} {vs : List V} (h : RVS K F σ rv v) (t : RVSs K F σ rvs vs) : RVSs K F σ (rv :: rvs) (v :: vs)
noncomputable def Zfh (Z : Ent K) (f : FA) : TA := fun σ H Q => ∃ F δ own rvs δ', SR Z F H σ δ own ∧ f δ = some (rvs, δ') ∧
  ∀ vs H' F' own', Same H H' → Same F F' → SR Z F' H' σ δ' own' → RVSs K F' σ rvs vs → Q vs H'
noncomputable def Zem (Z : Ent K) (f : FD) : TA := fun σ H Q => ∃ F δ own ds δ', SR Z F H σ δ own ∧ f δ = some (ds, δ') ∧
  ∀ vs H' F' own', Same H H' → Same F F' → SR Z F' H' σ δ' own' → Reps K F' ds vs → Q vs H'
section
variable {Z : Ent K} {F H F' H' : Hp} {σ : St} {δ δ' : DSt} {own : Nat → Zp} {rv : RV} {v : V} {d : D} {Q : VK}
theorem RVS.mono (s : Same F F') (h : RVS K F σ rv v) : RVS K F' σ rv v := by
  cases rv with
  | tmp sv => exact Rep.mono s h
  | bw i => exact h
theorem SR.settleR (s : SR Z F H σ δ own) (h : Zoj Z F H σ own rv v) : ∃ F1, Same F F1 ∧ SR Z F1 H σ δ own ∧ RVS K F1 σ rv v := by
  cases rv with
  | tmp sv => obtain ⟨ns, t⟩ := h; exact s.settle t
  | bw i => exact ⟨F, Same.refl F, s, h⟩
theorem SR.frzR (s : SR Z F H σ δ own) (h : RVS K F σ rv v) (e : frz rv δ = some (d, δ')) : ∃ F1 own1, Same F F1 ∧ SR Z F1 H σ δ' own1 ∧ Rep K F1 d v := by
  cases rv with
  | tmp sv => cases e; exact ⟨F, own, Same.refl F, s, h⟩
  | bw i =>
    obtain ⟨sv, e1, e2⟩ := Option.bind_eq_some_iff.mp e
    cases e2
    obtain ⟨F1, w, h1, h2, h3, h4⟩ := s.freeze (Zd3 e1)
    have h' : σ[i]? = some (some v) := h
    rw [h'] at h2; cases h2
    exact ⟨F1, _, h1, h4, h3⟩
noncomputable def RepN (K : PySem.W.Frag) (F H : Hp) (d : D) (v : V) : Prop := ∃ sv ns, sv.toD = d ∧ sv.nested = false ∧ Shape K F sv v ns ∧ ∀ p ∈ ns, H p.1 = some p.2
theorem RepN.of (h : Rep K F d v) : RepN K F H d v := ⟨.fz d, [], rfl, rfl, .fz h, fun _ h => nomatch h⟩
theorem SR.rd (s : SR Z F H σ δ own) (h : RVS K F σ rv v) (e : rdv rv δ = some d) : RepN K F H d v := by
  cases rv with
  | tmp sv => cases e; exact RepN.of h
  | bw i =>
    obtain ⟨sv, e1, e2⟩ := Option.bind_eq_some_iff.mp e
    cases hn : sv.nested with
    | true => rw [hn] at e2; cases e2
    | false =>
      rw [hn] at e2
      cases e2
      obtain ⟨w, h1, h2⟩ := s.at' i sv (Zd3 e1)
      have h' : σ[i]? = some (some v) := h
      rw [h'] at h1; cases h1
      exact ⟨sv, own i, rfl, hn, h2, fun p hp => (s.ok i p hp).2.2⟩
inductive RepNs (K : PySem.W.Frag) (F H : Hp) : List D → List V → Prop where
  | nil : RepNs K F H [] []
  | cons {d : D} {v : V} {ds : List D} {vs : List V} (h : RepN K F H d v) (t : RepNs K F H ds vs) : RepNs K F H (d :: ds) (v :: vs)
theorem RepN.non (h : RepN K F H .non v) : v = .non := by
  obtain ⟨sv, ns, e, n, sh, hp⟩ := h
  cases sh with
  | fz r => cases e; cases r; rfl
  | ol r => cases e
  | oK e' r => cases e
  | oT kb e' r => cases e
  | oN e' r => cases n
  | oL _ r => cases n
theorem RepN.bl {b : Bool} (h : RepN K F H (.bl b) v) : v = .bl b := by
  obtain ⟨sv, ns, e, n, sh, hp⟩ := h
  cases sh with
  | fz r => cases e; cases r; rfl
  | ol r => cases e
  | oK e' r => cases e
  | oT kb e' r => cases e
  | oN e' r => cases n
  | oL _ r => cases n
theorem RepN.int {i : Int} (h : RepN K F H (.int i) v) : v = .int i := by
  obtain ⟨sv, ns, e, n, sh, hp⟩ := h
  cases sh with
  | fz r => cases e; cases r; rfl
  | ol r => cases e
  | oK e' r => cases e
  | oT kb e' r => cases e
  | oN e' r => cases n
  | oL _ r => cases n
theorem RepN.str {x : Str} (h : RepN K F H (.str x) v) : v = .str x := by
  obtain ⟨sv, ns, e, n, sh, hp⟩ := h
  cases sh with
  | fz r => cases e; cases r; rfl
  | ol r => cases e
  | oK e' r => cases e
  | oT kb e' r => cases e
  | oN e' r => cases n
  | oL _ r => cases n
theorem RepN.tup {xs : List D} (le : Same F H) (h : RepN K F H (.tup xs) v) : ∃ a vs, v = .ref a ∧ SqT K H a vs ∧ Reps K F xs vs := by
  obtain ⟨sv, ns, e, n, sh, hp⟩ := h
  cases sh with
  | fz r => cases e; cases r with | tup h r => exact ⟨_, _, rfl, Zc8 le (Zjq h), r⟩
  | ol r => cases e
  | oK e' r => cases e
  | oT kb e' r => cases e
  | oN e' r => cases n
  | oL _ r => cases n
theorem RepN.lst {xs : List D} (le : Same F H) (h : RepN K F H (.lst xs) v) : ∃ a vs, v = .ref a ∧ SqL K H a vs ∧ Reps K F xs vs := by
  obtain ⟨sv, ns, e, n, sh, hp⟩ := h
  cases sh with
  | fz r => cases e; cases r with | lst h r => exact ⟨_, _, rfl, Zc7 le h, r⟩
  | ol r => cases e; exact ⟨_, _, rfl, .inl (.inl (hp _ List.mem_cons_self)), r⟩
  | oK e' r => cases e
  | oT kb e' r => cases e
  | oN e' r => cases n
  | oL _ r => cases n
theorem RepN.dK {ks : List Key} {ds : List D} (le : Same F H) (h : RepN K F H (.dK ks ds) v) : ∃ a kvs, v = .ref a ∧ HK H a kvs ∧ kvs.map (·.1) = ks ∧ Reps K F ds (kvs.map (·.2)) := by
  obtain ⟨sv, ns, e, n, sh, hp⟩ := h
  cases sh with
  | fz r => cases e; cases r with | dK h e r => exact ⟨_, _, rfl, ⟨_, le _ _ h⟩, e, r⟩
  | ol r => cases e
  | oK e' r => cases e; exact ⟨_, _, rfl, ⟨_, hp _ List.mem_cons_self⟩, e', r⟩
  | oT kb e' r => cases e
  | oN e' r => cases n
  | oL _ r => cases n
theorem RepN.dT {ks : List (List Key)} {ds : List D} (le : Same F H) (h : RepN K F H (.dT ks ds) v) : ∃ a kvs, v = .ref a ∧ HTt H a kvs ∧ kvs.map (·.1) = ks ∧ Reps K F ds (kvs.map (·.2)) := by
  obtain ⟨sv, ns, e, n, sh, hp⟩ := h
  cases sh with
  | fz r => cases e; cases r with | dT h kb e r => exact ⟨_, _, rfl, ⟨_, _, le _ _ h⟩, e, r⟩
  | ol r => cases e
  | oK e' r => cases e
  | oT kb e' r => cases e; exact ⟨_, _, rfl, ⟨_, _, hp _ List.mem_cons_self⟩, e', r⟩
  | oN e' r => cases n
  | oL _ r => cases n
end
theorem nd1 {a : Addr} : ([a] : List Addr).Nodup := List.nodup_cons.mpr ⟨fun h => (nomatch h), List.nodup_nil⟩
noncomputable def Fin (Z : Ent K) (F H : Hp) (σ : St) (δ : DSt) (own : Nat → Zp) (sv : SV) (Q : VK) : Prop :=
  ∀ v H' F' ns, Same H H' → Same F F' → SR Z F' H' σ δ own → TmpOk Z F' H' own sv v ns → Q v H'
section
variable {Z : Ent K} {F H : Hp} {σ : St} {δ : DSt} {own : Nat → Zp} {Q : VK}
theorem Fin.fz {d : D} {v : V} (f : Fin Z F H σ δ own (.fz d) Q) (s : SR Z F H σ δ own) (h : Rep K F d v) : Q v H := f v H F [] (Same.refl H) (Same.refl F) s (.fz h)
theorem Fin.one {sv : SV} {o : HO} {p : Addr} (f : Fin Z F H σ δ own sv Q) (s : SR Z F H σ δ own) (sh : Shape K F sv (.ref p) [(p, o)]) (hp : H p = none) : Q (.ref p) (upd H p o) := by
  have sm := Zc9 (o := o) hp
  refine f (.ref p) (upd H p o) F [(p, o)] sm (Same.refl F) (s.grow sm) ⟨sh, nd1, fun q hq => ?_, fun i q r hq hr => ?_⟩
  · obtain rfl := List.mem_singleton.mp hq
    exact ⟨s.le.free hp, s.old.free hp, Zah⟩
  · obtain rfl := List.mem_singleton.mp hq
    intro e
    have e' : p = r.1 := e
    have z := (s.ok i r hr).2.2
    rw [← e', hp] at z; cases z
theorem Fin.lst {xs : List D} {vs : List V} {p : Addr} (f : Fin Z F H σ δ own (.ol xs) Q) (s : SR Z F H σ δ own) (r : Reps K F xs vs) (hp : H p = none) : Q (.ref p) (upd H p (.lst vs)) := f.one s (.ol r) hp
theorem Fin.tup {xs : List D} {vs : List V} {p : Addr} (f : Fin Z F H σ δ own (.fz (.tup xs)) Q) (s : SR Z F H σ δ own) (r : Reps K F xs vs) (hp : H p = none) : Q (.ref p) (upd H p (.tup vs)) := by
  have sm := Zc9 (o := .tup vs) hp
  have sF : Same F (addL F [(p, .tup vs)]) := Zcz fun q hq => by obtain rfl := List.mem_singleton.mp hq; exact s.le.free hp
  refine f (.ref p) (upd H p (.tup vs)) (addL F [(p, .tup vs)]) [] sm sF ?_ (.fz (.tup Zah (r.mono sF)))
  refine (s.grow sm).addF (nd1) (fun q hq => ?_) (fun q hq => ?_) (fun q hq => ?_) fun i q u hq hu => ?_
  · obtain rfl := List.mem_singleton.mp hq; exact s.le.free hp
  · obtain rfl := List.mem_singleton.mp hq; exact Zah
  · obtain rfl := List.mem_singleton.mp hq; exact s.old.free hp
  · obtain rfl := List.mem_singleton.mp hq
    intro e
    have e' : p = u.1 := e
    have z := (s.ok i u hu).2.2
    rw [← e', hp] at z; cases z
end
theorem Zdr {F : Hp} {d : D} {v : V} {ns : Zp} (h : Shape K F (.fz d) v ns) : Rep K F d v := by
  cases h with
  | fz r => exact r
section
variable {Z : Ent K} {H : Hp} {σ : St} {Q : VK}
@[simp] noncomputable def Zb (i : Nat) : FE := fun δ => match δ[i]? with
  | some (some (.fz d)) => some (.tmp (.fz d), δ)
  | some (some _) => some (.bw i, δ)
  | _ => none
theorem Z0m {i : Nat} (h : Ze Z (Zb i) σ H Q) : tVar i σ H Q := by
  obtain ⟨F, δ, own, rv, δ', s, e, k⟩ := h
  unfold Zb at e
  split at e
  · rename_i d hd
    cases e
    obtain ⟨v, h1, h2⟩ := s.at' i _ hd
    exact ⟨v, h1, k v H F own (Same.refl H) (Same.refl F) s ⟨[], .fz (Zdr h2)⟩⟩
  · rename_i sv hsv hd
    cases e
    obtain ⟨v, h1, h2⟩ := s.at' i _ hd
    exact ⟨v, h1, k v H F own (Same.refl H) (Same.refl F) s h1⟩
  · cases e
@[simp] noncomputable def Za (d : D) : FE := fun δ => some (.tmp (.fz d), δ)
theorem Zfi {d : D} {v : V} (hr : ∀ F, Rep K F d v) (h : Ze Z (Za d) σ H Q) : tC v σ H Q := by
  obtain ⟨F, δ, own, rv, δ', s, e, k⟩ := h
  cases e
  exact k v H F own (Same.refl H) (Same.refl F) s ⟨[], .fz (hr F)⟩
@[simp] noncomputable def Zi : FA := fun δ => some ([], δ)
@[simp] noncomputable def Zc (fe : FE) (fa : FA) : FA := fun δ => (fe δ).bind fun p => (fa p.2).bind fun q => some (p.1 :: q.1, q.2)
theorem Zq8 {R : List V → Hp → Prop} (h : Zfh Z Zi σ H R) : tNil σ H R := by
  obtain ⟨F, δ, own, rvs, δ', s, e, k⟩ := h
  cases e
  exact k [] H F own (Same.refl H) (Same.refl F) s .nil
theorem Zok {fe : FE} {fa : FA} {R : List V → Hp → Prop} (h : Zfh Z (Zc fe fa) σ H R) : Zf3 (Ze Z fe) (Zfh Z fa) σ H R := by
  obtain ⟨F, δ, own, rvs, δ', s, e, k⟩ := h
  obtain ⟨⟨rv, δ1⟩, e1, e2⟩ := Option.bind_eq_some_iff.mp e
  obtain ⟨⟨rr, δ2⟩, e3, e4⟩ := Option.bind_eq_some_iff.mp e2
  cases e4
  refine ⟨F, δ, own, rv, δ1, s, e1, fun v H1 F1 own1 sH sF s1 r1 => ?_⟩
  obtain ⟨F2, sF2, s2, r2⟩ := s1.settleR r1
  exact ⟨F2, δ1, own1, rr, δ2, s2, e3, fun vs H3 F3 own3 sH3 sF3 s3 r3 => k _ H3 F3 own3 (sH.trans sH3) (sF.trans (sF2.trans sF3)) s3 (.cons (r2.mono sF3) r3)⟩
@[simp] noncomputable def Zgn : List RV → DSt → Option (List D)
  | [], _ => some []
  | rv :: r, δ => (rdv rv δ).bind fun d => (Zgn r δ).bind fun ds => some (d :: ds)
theorem SR.rdAll {F : Hp} {δ : DSt} {own : Nat → Zp} (s : SR Z F H σ δ own) : ∀ {rvs : List RV} {vs : List V} {ds : List D}, RVSs K F σ rvs vs → Zgn rvs δ = some ds → RepNs K F H ds vs
  | _, _, _, .nil, e => by cases e; exact .nil
  | _, _, _, .cons h t, e => by
    obtain ⟨d, e1, e2⟩ := Option.bind_eq_some_iff.mp e
    obtain ⟨ds, e3, e4⟩ := Option.bind_eq_some_iff.mp e2
    cases e4
    exact .cons (s.rd h e1) (s.rdAll t e3)
@[simp] noncomputable def Zb7 (g : List D → Option SV) (fa : FA) : FE := fun δ => (fa δ).bind fun p => (Zgn p.1 p.2).bind fun ds => (g ds).bind fun sv => some (.tmp sv, p.2)
noncomputable def Zha (Z : Ent K) (r : List V → Hp → VK → Prop) (g : List D → Option SV) : Prop :=
  ∀ (F H : Hp) (σ : St) (δ : DSt) (own : Nat → Zp) (vs : List V) (ds : List D) (sv : SV) (Q : VK), SR Z F H σ δ own → RepNs K F H ds vs → g ds = some sv → Fin Z F H σ δ own sv Q → r vs H Q
theorem Zol {r : List V → Hp → VK → Prop} {g : List D → Option SV} {fa : FA} (hg : Zha Z r g) (h : Ze Z (Zb7 g fa) σ H Q) : tCB r (Zfh Z fa) σ H Q := by
  obtain ⟨F, δ, own, rv, δ', s, e, k⟩ := h
  obtain ⟨⟨rvs, δ1⟩, e1, e2⟩ := Option.bind_eq_some_iff.mp e
  obtain ⟨ds, e3, e4⟩ := Option.bind_eq_some_iff.mp e2
  obtain ⟨sv, e5, e6⟩ := Option.bind_eq_some_iff.mp e4
  cases e6
  refine ⟨F, δ, own, rvs, δ1, s, e1, fun vs H1 F1 own1 sH sF s1 r1 => ?_⟩
  exact hg F1 H1 σ δ1 own1 vs ds sv Q s1 (s1.rdAll r1 e3) e5 fun v H2 F2 ns sH2 sF2 s2 t => k v H2 F2 own1 (sH.trans sH2) (sF.trans sF2) s2 ⟨ns, t⟩
@[simp] noncomputable def g2 (g : D → D → Option SV) : List D → Option SV
  | [x, y] => g x y
  | _ => none
@[simp] noncomputable def binF (g : D → D → Option SV) (fa fb : FE) : FE := Zb7 (g2 g) (Zc fa (Zc fb Zi))
noncomputable def Zbr (Z : Ent K) (r : R2) (g : D → D → Option SV) : Prop :=
  ∀ (F H : Hp) (σ : St) (δ : DSt) (own : Nat → Zp) (x y : V) (d1 d2 : D) (sv : SV) (Q : VK), SR Z F H σ δ own → RepN K F H d1 x → RepN K F H d2 y → g d1 d2 = some sv → Fin Z F H σ δ own sv Q → r x y H Q
theorem Zom {r : R2} {g : D → D → Option SV} {fa fb : FE} (hg : Zbr Z r g) (h : Ze Z (binF g fa fb) σ H Q) : tOp r (Ze Z fa) (Ze Z fb) σ H Q := by
  have hN : Zha Z (fun vs H Q => ∃ x y, vs = [x, y] ∧ r x y H Q) (g2 g) := by
    intro F H σ δ own vs ds sv Q s rs e f
    cases rs with
    | nil => cases e
    | cons h1 t1 =>
      cases t1 with
      | nil => cases e
      | cons h2 t2 =>
        cases t2 with
        | nil => exact ⟨_, _, rfl, hg F H σ δ own _ _ _ _ sv Q s h1 h2 e f⟩
        | cons h3 t3 => cases e
  obtain ⟨F, δ, own, rv, δ', s, e, k⟩ := Zol hN h
  obtain ⟨⟨rv1, δ1⟩, e1, e2⟩ := Option.bind_eq_some_iff.mp e
  obtain ⟨⟨rr, δ2⟩, e3, e4⟩ := Option.bind_eq_some_iff.mp e2
  cases e4
  obtain ⟨⟨rv2, δ3⟩, e5, e6⟩ := Option.bind_eq_some_iff.mp e3
  obtain ⟨⟨rr', δ4⟩, e7, e8⟩ := Option.bind_eq_some_iff.mp e6
  cases e8
  cases e7
  refine ⟨F, δ, own, rv1, δ1, s, e1, fun v H1 F1 own1 sH sF s1 r1 => ?_⟩
  obtain ⟨F2, sF2, s2, r2⟩ := s1.settleR r1
  refine ⟨F2, δ1, own1, rv2, δ3, s2, e5, fun u H3 F3 own3 sH3 sF3 s3 r3 => ?_⟩
  obtain ⟨F4, sF4, s4, r4⟩ := s3.settleR r3
  obtain ⟨x, y, exy, q⟩ := k [v, u] H3 F4 own3 (sH.trans sH3) (sF.trans (sF2.trans (sF3.trans sF4))) s4 (.cons (r2.mono (sF3.trans sF4)) (.cons r4 .nil))
  injection exy with ex ey
  injection ey with ey _
  subst ex ey
  exact q
@[simp] noncomputable def unF (g : D → Option SV) (fa : FE) : FE := Zb7 (fun | [x] => g x | _ => none) (Zc fa Zi)
noncomputable def Zuf (Z : Ent K) (r : V → Hp → VK → Prop) (g : D → Option SV) : Prop :=
  ∀ (F H : Hp) (σ : St) (δ : DSt) (own : Nat → Zp) (x : V) (d : D) (sv : SV) (Q : VK), SR Z F H σ δ own → RepN K F H d x → g d = some sv → Fin Z F H σ δ own sv Q → r x H Q
theorem l_un {r : V → Hp → VK → Prop} {g : D → Option SV} {fa : FE} (hg : Zuf Z r g) (h : Ze Z (unF g fa) σ H Q) : tUn r (Ze Z fa) σ H Q := by
  obtain ⟨F, δ, own, rv, δ', s, e, k⟩ := h
  obtain ⟨⟨rvs, δ1⟩, e1, e2⟩ := Option.bind_eq_some_iff.mp e
  obtain ⟨ds, e3, e4⟩ := Option.bind_eq_some_iff.mp e2
  obtain ⟨sv, e5, e6⟩ := Option.bind_eq_some_iff.mp e4
  cases e6
  obtain ⟨⟨rv1, δ2⟩, e7, e8⟩ := Option.bind_eq_some_iff.mp e1
  obtain ⟨⟨rr', δ4⟩, e9, e10⟩ := Option.bind_eq_some_iff.mp e8
  cases e10
  cases e9
  obtain ⟨d, e11, e12⟩ := Option.bind_eq_some_iff.mp e3
  cases e12
  refine ⟨F, δ, own, rv1, δ2, s, e7, fun v H1 F1 own1 sH sF s1 r1 => ?_⟩
  obtain ⟨F2, sF2, s2, r2⟩ := s1.settleR r1
  exact hg F2 H1 σ δ2 own1 v d sv Q s2 (s2.rd r2 e11) e5 fun v H2 F2' ns sH2 sF2' s2 t => k v H2 F2' own1 (sH.trans sH2) (sF.trans (sF2.trans sF2')) s2 ⟨ns, t⟩
@[simp] noncomputable def Zt : FD := fun δ => some ([], δ)
@[simp] noncomputable def Zl (fe : FE) (fd : FD) : FD := fun δ => (fe δ).bind fun p => (frz p.1 p.2).bind fun q => (fd q.2).bind fun r => some (q.1 :: r.1, r.2)
theorem Zon {R : List V → Hp → Prop} (h : Zem Z Zt σ H R) : tNil σ H R := by
  obtain ⟨F, δ, own, rvs, δ', s, e, k⟩ := h
  cases e
  exact k [] H F own (Same.refl H) (Same.refl F) s .nil
theorem Znb {fe : FE} {fd : FD} {R : List V → Hp → Prop} (h : Zem Z (Zl fe fd) σ H R) : Zf3 (Ze Z fe) (Zem Z fd) σ H R := by
  obtain ⟨F, δ, own, rvs, δ', s, e, k⟩ := h
  obtain ⟨⟨rv, δ1⟩, e1, e2⟩ := Option.bind_eq_some_iff.mp e
  obtain ⟨⟨d, δ2⟩, e3, e4⟩ := Option.bind_eq_some_iff.mp e2
  obtain ⟨⟨ds, δ3⟩, e5, e6⟩ := Option.bind_eq_some_iff.mp e4
  cases e6
  refine ⟨F, δ, own, rv, δ1, s, e1, fun v H1 F1 own1 sH sF s1 r1 => ?_⟩
  obtain ⟨F2, sF2, s2, r2⟩ := s1.settleR r1
  obtain ⟨F3, own3, sF3, s3, r3⟩ := s2.frzR r2 e3
  exact ⟨F3, δ2, own3, ds, δ3, s3, e5, fun vs H4 F4 own4 sH4 sF4 s4 r4 => k _ H4 F4 own4 (sH.trans sH4) (sF.trans (sF2.trans (sF3.trans sF4))) s4 (.cons (r3.mono sF4) r4)⟩
@[simp] noncomputable def tupF (fd : FD) : FE := fun δ => (fd δ).bind fun p => if p.1.length ≤ PySem.sizeLine then some (.tmp (.fz (.tup p.1)), p.2) else none
@[simp] noncomputable def lstF (fd : FD) : FE := fun δ => (fd δ).bind fun p => if p.1.length ≤ PySem.sizeLine then some (.tmp (.ol p.1), p.2) else none
theorem Z0n {fd : FD} (h : Ze Z (tupF fd) σ H Q) : tTup (Zem Z fd) σ H Q := by
  obtain ⟨F, δ, own, rv, δ', s, e, k⟩ := h
  obtain ⟨⟨ds, δ1⟩, e1, e2⟩ := Option.bind_eq_some_iff.mp e
  by_cases hz : ds.length ≤ PySem.sizeLine
  · rw [if_pos hz] at e2
    cases e2
    refine ⟨F, δ, own, ds, δ1, s, e1, fun vs H1 F1 own1 sH sF s1 r1 => ⟨by rw [← r1.length]; exact hz, fun p hp => ?_⟩⟩
    exact Fin.tup (fun v H2 F2 ns a b c t => k v H2 F2 own1 (sH.trans a) (sF.trans b) c ⟨ns, t⟩) s1 r1 hp
  · rw [if_neg hz] at e2; cases e2
theorem Z0o {fd : FD} (h : Ze Z (lstF fd) σ H Q) : tLst (Zem Z fd) σ H Q := by
  obtain ⟨F, δ, own, rv, δ', s, e, k⟩ := h
  obtain ⟨⟨ds, δ1⟩, e1, e2⟩ := Option.bind_eq_some_iff.mp e
  by_cases hz : ds.length ≤ PySem.sizeLine
  · rw [if_pos hz] at e2
    cases e2
    refine ⟨F, δ, own, ds, δ1, s, e1, fun vs H1 F1 own1 sH sF s1 r1 => ⟨by rw [← r1.length]; exact hz, fun p hp => ?_⟩⟩
    exact Fin.lst (fun v H2 F2 ns a b c t => k v H2 F2 own1 (sH.trans a) (sF.trans b) c ⟨ns, t⟩) s1 r1 hp
  · rw [if_neg hz] at e2; cases e2
end
@[simp] noncomputable def SV.scal : SV → Bool
  | .fz .non => true
  | .fz (.bl _) => true
  | .fz (.int _) => true
  | .fz (.str _) => true
  | _ => false
noncomputable def spOf (K : PySem.W.Frag) (n : Nat) (g : List D → Option SV) : Sp := fun vs H Q _ => ∃ F ds sv, Same F H ∧ Reps K F ds vs ∧ ds.length = n ∧ g ds = some sv ∧
  ∀ v H' F' ns, Same H H' → Same F F' → Same F' H' → (∀ (b : Addr) (o : HO), F' b = some o → F b = some o ∨ H b = none) → Shape K F' sv v ns → (adr ns).Nodup → (∀ p ∈ ns, F' p.1 = none ∧ H p.1 = none ∧ H' p.1 = some p.2) → Q v H'
@[simp] noncomputable def frzAll : List RV → DSt → Option (List D × DSt)
  | [], δ => some ([], δ)
  | rv :: r, δ => (frz rv δ).bind fun p => (frzAll r p.2).bind fun q => some (p.1 :: q.1, q.2)
theorem RVSs.mono {F F' : Hp} {σ : St} (s : Same F F') : ∀ {rvs : List RV} {vs : List V}, RVSs K F σ rvs vs → RVSs K F' σ rvs vs
  | _, _, .nil => .nil
  | _, _, .cons h t => .cons (h.mono s) (t.mono s)
section
variable {Z : Ent K} {H : Hp} {σ : St} {Q : VK}
theorem SR.frzAll {F : Hp} {δ : DSt} {own : Nat → Zp} : ∀ {rvs : List RV} {vs : List V} {ds : List D} {δ' : DSt} {F : Hp} {δ : DSt} {own : Nat → Zp}, SR Z F H σ δ own → RVSs K F σ rvs vs → DL.frzAll rvs δ = some (ds, δ') →
    ∃ F1 own1, Same F F1 ∧ SR Z F1 H σ δ' own1 ∧ Reps K F1 ds vs
  | _, _, _, _, F, _, own, s, .nil, e => by cases e; exact ⟨F, own, Same.refl F, s, .nil⟩
  | _, _, _, _, F, _, own, s, .cons h t, e => by
    obtain ⟨⟨d, δ1⟩, e1, e2⟩ := Option.bind_eq_some_iff.mp e
    obtain ⟨⟨ds, δ2⟩, e3, e4⟩ := Option.bind_eq_some_iff.mp e2
    cases e4
    obtain ⟨F1, own1, sF1, s1, r1⟩ := s.frzR h e1
    obtain ⟨F2, own2, sF2, s2, r2⟩ := SR.frzAll (own := own) (F := F) (δ := δ1) s1 (t.mono sF1) e3
    exact ⟨F2, own2, sF1.trans sF2, s2, .cons (r1.mono sF2) r2⟩
@[simp] noncomputable def Zch (n : Nat) (g : List D → Option SV) (fa : FA) : FE := fun δ => (fa δ).bind fun p => (DL.frzAll p.1 p.2).bind fun q => if q.1.length = n then (g q.1).bind fun sv => some (.tmp sv, if sv.scal then p.2 else q.2) else none
theorem Zl2 {F F' : Hp} {sv : SV} {v : V} {ns : Zp} (h : sv.scal = true) (sh : Shape K F sv v ns) : ns = [] ∧ Shape K F' sv v [] := by
  cases sh with
  | fz r => 
    refine ⟨rfl, .fz ?_⟩
    cases r with
    | non => exact .non
    | bl b => exact .bl b
    | int i => exact .int i
    | str x => exact .str x
    | tup _ _ => cases h
    | lst _ _ => cases h
    | dK _ _ _ => cases h
    | dT _ _ _ _ => cases h
    | exc _ _ => cases h
    | exd _ _ _ _ _ => cases h
  | ol _ => cases h
  | oK _ _ => cases h
  | oT _ _ _ => cases h
  | oN _ _ => cases h
  | oL _ _ => cases h
theorem Zxl {n : Nat} {g : List D → Option SV} {fa : FA} {E : XK} (h : Ze Z (Zch n g fa) σ H Q) : Zw3 (spOf K n g) [] E (Zfh Z fa) σ H Q := by
  obtain ⟨F, δ, own, rv, δ', s, e, k⟩ := h
  obtain ⟨⟨rvs, δ1⟩, e1, e2⟩ := Option.bind_eq_some_iff.mp e
  obtain ⟨⟨ds, δ2⟩, e3, e4⟩ := Option.bind_eq_some_iff.mp e2
  by_cases hn : ds.length = n
  · rw [if_pos hn] at e4
    obtain ⟨sv, e5, e6⟩ := Option.bind_eq_some_iff.mp e4
    refine ⟨F, δ, own, rvs, δ1, s, e1, fun vs H1 F1 own1 sH sF s1 r1 => ?_⟩
    obtain ⟨F2, own2, sF2, s2, r2⟩ := s1.frzAll (own := own) (F := F) (δ := δ) r1 e3
    rw [List.append_nil]
    refine ⟨F2, ds, sv, s2.le, r2, hn, e5, fun v H3 F3 ns sH3 sF3 le3 fro3 sh nd ok => ?_⟩
    by_cases hs : sv.scal = true
    · rw [if_pos hs] at e6
      cases e6
      obtain ⟨_, sh'⟩ := Zl2 (F' := F1) hs sh
      exact k v H3 F1 own1 (sH.trans sH3) sF (s1.grow sH3) ⟨[], sh', List.nodup_nil, fun _ h => (nomatch h), fun _ _ _ h => (nomatch h)⟩
    · rw [if_neg hs] at e6
      cases e6
      have s3 : SR Z F3 H3 σ δ2 own2 := by
        refine ⟨le3, fun b o e => ?_, s2.old.trans sH3, s2.len, fun i sw ei => ?_, s2.nod, fun i p hp => ?_, s2.sep⟩
        · rcases fro3 b o e with z | z
          · exact s2.fro b o z
          · exact .inr (s2.old.free z)
        · obtain ⟨w, h1, h2⟩ := s2.at' i sw ei
          exact ⟨w, h1, h2.mono sF3⟩
        · obtain ⟨a, b, c⟩ := s2.ok i p hp
          refine ⟨?_, b, sH3 _ _ c⟩
          cases z : F3 p.1 with
          | none => rfl
          | some u =>
            rcases fro3 _ u z with y | y
            · rw [a] at y; cases y
            · rw [c] at y; cases y
      exact k v H3 F3 own2 (sH.trans sH3) (sF.trans (sF2.trans sF3)) s3 ⟨ns, sh, nd, fun p hp => ⟨(ok p hp).1, (s2.old).free (ok p hp).2.1, (ok p hp).2.2⟩, fun i p q hp hq e => by
        have z := (s2.ok i q hq).2.2
        rw [← e, (ok p hp).2.1] at z; cases z⟩
  · rw [if_neg hn] at e4; cases e4
end
end DL
namespace DL
open PySem L2
variable {K : PySem.W.Frag}
section
variable {Z : Ent K} {H : Hp} {σ : St} {R : Bool → Hp → Prop} {Q : VK}
@[simp] noncomputable def Zr (fe : FE) : FT := fun δ => (fe δ).bind fun p => match p.1 with
  | .tmp (.fz (.bl b)) => some (b, p.2)
  | _ => none
theorem Zoo {fe : FE} (h : Zaq Z (Zr fe) σ H R) : Zw0 (Ze Z fe) σ H R := by
  obtain ⟨F, δ, own, b, δ', s, e, k⟩ := h
  obtain ⟨⟨rv, δ1⟩, e1, e2⟩ := Option.bind_eq_some_iff.mp e
  refine ⟨F, δ, own, rv, δ1, s, e1, fun v H1 F1 own1 sH sF s1 r1 => ?_⟩
  dsimp only at e2
  split at e2
  · cases e2
    obtain ⟨ns, t⟩ := r1
    cases Zdr t.sh
    exact ⟨_, rfl, k H1 F1 own1 sH sF s1⟩
  · cases e2
theorem Zug {fe : FE} (h : Zaq Z (Zr fe) σ H R) : tB (Ze Z fe) σ H R := Zoo h
@[simp] noncomputable def andF (f g : FT) : FT := fun δ => (f δ).bind fun p => if p.1 = true then g p.2 else some (false, p.2)
@[simp] noncomputable def orF (f g : FT) : FT := fun δ => (f δ).bind fun p => if p.1 = true then some (true, p.2) else g p.2
@[simp] noncomputable def notF (f : FT) : FT := fun δ => (f δ).bind fun p => some (!p.1, p.2)
theorem Z0p {f g : FT} (h : Zaq Z (andF f g) σ H R) : tAnd (Zaq Z f) (Zaq Z g) σ H R := by
  obtain ⟨F, δ, own, b, δ', s, e, k⟩ := h
  obtain ⟨⟨c, δ1⟩, e1, e2⟩ := Option.bind_eq_some_iff.mp e
  refine ⟨F, δ, own, c, δ1, s, e1, fun H1 F1 own1 sH sF s1 => ?_⟩
  cases c with
  | true =>
    rw [if_pos rfl] at e2 ⊢
    exact ⟨F1, δ1, own1, b, δ', s1, e2, fun H2 F2 own2 a c d => k H2 F2 own2 (sH.trans a) (sF.trans c) d⟩
  | false =>
    rw [if_neg Bool.false_ne_true] at e2 ⊢
    cases e2
    exact k H1 F1 own1 sH sF s1
theorem l_or {f g : FT} (h : Zaq Z (orF f g) σ H R) : tOr (Zaq Z f) (Zaq Z g) σ H R := by
  obtain ⟨F, δ, own, b, δ', s, e, k⟩ := h
  obtain ⟨⟨c, δ1⟩, e1, e2⟩ := Option.bind_eq_some_iff.mp e
  refine ⟨F, δ, own, c, δ1, s, e1, fun H1 F1 own1 sH sF s1 => ?_⟩
  cases c with
  | true =>
    rw [if_pos rfl] at e2 ⊢
    cases e2
    exact k H1 F1 own1 sH sF s1
  | false =>
    rw [if_neg Bool.false_ne_true] at e2 ⊢
    exact ⟨F1, δ1, own1, b, δ', s1, e2, fun H2 F2 own2 a c d => k H2 F2 own2 (sH.trans a) (sF.trans c) d⟩
theorem Z0q {f : FT} (h : Zaq Z (notF f) σ H R) : tNot (Zaq Z f) σ H R := by
  obtain ⟨F, δ, own, b, δ', s, e, k⟩ := h
  obtain ⟨⟨c, δ1⟩, e1, e2⟩ := Option.bind_eq_some_iff.mp e
  cases e2
  exact ⟨F, δ, own, c, δ1, s, e1, k⟩
@[simp] noncomputable def andV (f g : FE) : FE := fun δ => (Zr f δ).bind fun p => if p.1 = true then g p.2 else some (.tmp (.fz (.bl false)), p.2)
theorem Zxm {F : Hp} {own : Nat → Zp} {b : Bool} : Zoj Z F H σ own (.tmp (.fz (.bl b))) (.bl b) := ⟨[], .fz (.bl b)⟩
theorem Zxn {f g : FE} (h : Ze Z (andV f g) σ H Q) : Zwk (Ze Z f) (Ze Z g) σ H Q := by
  obtain ⟨F, δ, own, rv, δ', s, e, k⟩ := h
  obtain ⟨⟨c, δ1⟩, e1, e2⟩ := Option.bind_eq_some_iff.mp e
  refine Zoo ⟨F, δ, own, c, δ1, s, e1, fun H1 F1 own1 sH sF s1 => ?_⟩
  cases c with
  | true =>
    rw [if_pos rfl] at e2 ⊢
    exact ⟨F1, δ1, own1, rv, δ', s1, e2, fun v H2 F2 own2 a c d => k v H2 F2 own2 (sH.trans a) (sF.trans c) d⟩
  | false =>
    rw [if_neg Bool.false_ne_true] at e2 ⊢
    cases e2
    exact k _ H1 F1 own1 sH sF s1 Zxm
@[simp] noncomputable def ifF (t : FT) (f g : FE) : FE := fun δ => (t δ).bind fun p => if p.1 = true then f p.2 else g p.2
theorem l_if {t : FT} {f g : FE} (h : Ze Z (ifF t f g) σ H Q) : tIf (Zaq Z t) (Ze Z f) (Ze Z g) σ H Q := by
  obtain ⟨F, δ, own, rv, δ', s, e, k⟩ := h
  obtain ⟨⟨c, δ1⟩, e1, e2⟩ := Option.bind_eq_some_iff.mp e
  refine ⟨F, δ, own, c, δ1, s, e1, fun H1 F1 own1 sH sF s1 => ?_⟩
  cases c with
  | true =>
    rw [if_pos rfl] at e2 ⊢
    exact ⟨F1, δ1, own1, rv, δ', s1, e2, fun v H2 F2 own2 a c d => k v H2 F2 own2 (sH.trans a) (sF.trans c) d⟩
  | false =>
    rw [if_neg Bool.false_ne_true] at e2 ⊢
    exact ⟨F1, δ1, own1, rv, δ', s1, e2, fun v H2 F2 own2 a c d => k v H2 F2 own2 (sH.trans a) (sF.trans c) d⟩
@[simp] noncomputable def Zop (g g' : D → D → Option SV) (fa fb fc : FE) : FE := fun δ => (fa δ).bind fun p => (fb p.2).bind fun q => (rdv p.1 q.2).bind fun x => (rdv q.1 q.2).bind fun y => (g x y).bind fun
  | .fz (.bl true) => (fc q.2).bind fun r => (rdv q.1 r.2).bind fun y' => (rdv r.1 r.2).bind fun z => (g' y' z).bind fun sv => some (.tmp sv, r.2)
  | .fz (.bl false) => some (.tmp (.fz (.bl false)), q.2)
  | _ => none
theorem Zuh {r r' : R2} {g g' : D → D → Option SV} {fa fb fc : FE} (hg : Zbr Z r g) (hg' : Zbr Z r' g') (h : Ze Z (Zop g g' fa fb fc) σ H Q) : Zsq r r' (Ze Z fa) (Ze Z fb) (Ze Z fc) σ H Q := by
  obtain ⟨F, δ, own, rv, δ', s, e, k⟩ := h
  obtain ⟨⟨rv1, δ1⟩, e1, e⟩ := Option.bind_eq_some_iff.mp e
  obtain ⟨⟨rv2, δ2⟩, e2, e⟩ := Option.bind_eq_some_iff.mp e
  obtain ⟨x, e3, e⟩ := Option.bind_eq_some_iff.mp e
  obtain ⟨y, e4, e⟩ := Option.bind_eq_some_iff.mp e
  obtain ⟨sv, e5, e⟩ := Option.bind_eq_some_iff.mp e
  refine ⟨F, δ, own, rv1, δ1, s, e1, fun v H1 F1 own1 sH1 sF1 s1 r1 => ?_⟩
  obtain ⟨F1', sF1', s1', r1'⟩ := s1.settleR r1
  refine ⟨F1', δ1, own1, rv2, δ2, s1', e2, fun u H2 F2 own2 sH2 sF2 s2 r2 => ?_⟩
  obtain ⟨F3, sF3, s3, r3⟩ := s2.settleR r2
  refine hg F3 H2 σ δ2 own2 v u x y sv _ s3 (s3.rd (r1'.mono (sF2.trans sF3)) e3) (s3.rd r3 e4) e5 fun z H4 F4 ns sH4 sF4 s4 t4 => ?_
  dsimp only at e
  split at e
  · cases Zdr t4.sh
    refine ⟨true, rfl, ?_⟩
    rw [if_pos rfl]
    obtain ⟨⟨rv5, δ5⟩, e6, e⟩ := Option.bind_eq_some_iff.mp e
    obtain ⟨y', e7, e⟩ := Option.bind_eq_some_iff.mp e
    obtain ⟨z', e8, e⟩ := Option.bind_eq_some_iff.mp e
    obtain ⟨sv', e9, e⟩ := Option.bind_eq_some_iff.mp e
    cases e
    refine ⟨F4, δ2, own2, rv5, δ5, s4, e6, fun w H5 F5 own5 sH5 sF5 s5 r5 => ?_⟩
    obtain ⟨F6, sF6, s6, r6⟩ := s5.settleR r5
    refine hg' F6 H5 σ δ5 own5 u w y' z' sv' _ s6 (s6.rd (r3.mono (sF4.trans (sF5.trans sF6))) e7) (s6.rd r6 e8) e9 fun q H7 F7 ns7 sH7 sF7 s7 t7 => ?_
    exact k q H7 F7 own5 (sH1.trans (sH2.trans (sH4.trans (sH5.trans sH7)))) (sF1.trans (sF1'.trans (sF2.trans (sF3.trans (sF4.trans (sF5.trans (sF6.trans sF7))))))) s7 ⟨ns7, t7⟩
  · cases Zdr t4.sh
    cases e
    refine ⟨false, rfl, ?_⟩
    rw [if_neg Bool.false_ne_true]
    exact k _ H4 F4 own2 (sH1.trans (sH2.trans sH4)) (sF1.trans (sF1'.trans (sF2.trans (sF3.trans sF4)))) s4 Zxm
  · cases e
end
inductive Fl where
  | nx (δ : DSt) | bk (δ : DSt) | ct (δ : DSt) | rt (sv : SV) | ex (e : Exn) (δ : DSt)
noncomputable abbrev FS := DSt → Option Fl
noncomputable def Zgo (Z : Ent K) (F : Hp) (D : Ends) : Fl → Prop
  | .nx δ => ∀ σ' H' F' own', Same F F' → SR Z F' H' σ' δ own' → D.nx σ' H'
  | .bk δ => ∀ σ' H' F' own', Same F F' → SR Z F' H' σ' δ own' → D.bk σ' H'
  | .ct δ => ∀ σ' H' F' own', Same F F' → SR Z F' H' σ' δ own' → D.ct σ' H'
  | .rt sv => ∀ v H' F' ns, Same F F' → Same F' H' → (∀ (b : Addr) (o : HO), F' b = some o → Z.f b = some o ∨ Z.h b = none) → Same Z.h H' → Shape K F' sv v ns → (adr ns).Nodup →
      (∀ p ∈ ns, F' p.1 = none ∧ Z.h p.1 = none ∧ H' p.1 = some p.2) → D.rt v H'
  | .ex x δ => ∀ σ' H' F' own' cls od, Same F F' → SR Z F' H' σ' δ own' → Zoi K F' x cls od → Z.x cls od σ' H'
theorem Zgo.mono {Z : Ent K} {F F' : Hp} {D : Ends} (s : Same F F') : ∀ {fl : Fl}, Zgo Z F D fl → Zgo Z F' D fl
  | .nx _, h => fun σ' H' F2 own' a b => h σ' H' F2 own' (s.trans a) b
  | .bk _, h => fun σ' H' F2 own' a b => h σ' H' F2 own' (s.trans a) b
  | .ct _, h => fun σ' H' F2 own' a b => h σ' H' F2 own' (s.trans a) b
  | .rt _, h => fun v H' F2 ns a => h v H' F2 ns (s.trans a)
  | .ex _ _, h => fun σ' H' F2 own' cls od a => h σ' H' F2 own' cls od (s.trans a)
noncomputable def Zo (Z : Ent K) (f : FS) : TS := fun D σ H => ∃ F δ own fl, SR Z F H σ δ own ∧ f δ = some fl ∧ Zgo Z F D fl
section
variable {Z : Ent K} {H : Hp} {σ : St} {E : Ends}
@[simp] noncomputable def Zbs : FS := fun δ => some (.nx δ)
theorem Zxo (h : Zo Z Zbs E σ H) : Zwn E σ H := by
  obtain ⟨F, δ, own, fl, s, e, k⟩ := h
  cases e
  exact k σ H F own (Same.refl F) s
@[simp] noncomputable def seqF (f g : FS) : FS := fun δ => (f δ).bind fun
  | .nx δ' => g δ'
  | fl => some fl
theorem Z0r {f g : FS} (h : Zo Z (seqF f g) E σ H) : tSeq (Zo Z f) (Zo Z g) E σ H := by
  obtain ⟨F, δ, own, fl, s, e, k⟩ := h
  obtain ⟨f1, e1, e2⟩ := Option.bind_eq_some_iff.mp e
  refine ⟨F, δ, own, f1, s, e1, ?_⟩
  cases f1 with
  | nx δ1 => exact fun σ' H' F' own' sF s' => ⟨F', δ1, own', fl, s', e2, k.mono sF⟩
  | bk δ1 => cases e2; exact k
  | ct δ1 => cases e2; exact k
  | rt sv => cases e2; exact k
  | ex x δ1 => cases e2; exact k
@[simp] noncomputable def ifS (t : FT) (f g : FS) : FS := fun δ => (t δ).bind fun p => if p.1 = true then f p.2 else g p.2
theorem Z0s {t : FT} {f g : FS} (h : Zo Z (ifS t f g) E σ H) : tIfS (Zaq Z t) (Zo Z f) (Zo Z g) E σ H := by
  obtain ⟨F, δ, own, fl, s, e, k⟩ := h
  obtain ⟨⟨c, δ1⟩, e1, e2⟩ := Option.bind_eq_some_iff.mp e
  refine ⟨F, δ, own, c, δ1, s, e1, fun H1 F1 own1 sH sF s1 => ?_⟩
  cases c with
  | true => rw [if_pos rfl] at e2 ⊢; exact ⟨F1, δ1, own1, fl, s1, e2, k.mono sF⟩
  | false => rw [if_neg Bool.false_ne_true] at e2 ⊢; exact ⟨F1, δ1, own1, fl, s1, e2, k.mono sF⟩
@[simp] noncomputable def outF : RV → DSt → Option SV
  | .tmp sv, _ => some sv
  | .bw i, δ => δ[i]?.join
@[simp] noncomputable def retF (fe : FE) : FS := fun δ => (fe δ).bind fun p => (outF p.1 p.2).bind fun sv => some (.rt sv)
theorem Zxp {fe : FE} (h : Zo Z (retF fe) E σ H) : tRet (Ze Z fe) E σ H := by
  obtain ⟨F, δ, own, fl, s, e, k⟩ := h
  obtain ⟨⟨rv, δ1⟩, e1, e2⟩ := Option.bind_eq_some_iff.mp e
  obtain ⟨sv, e3, e4⟩ := Option.bind_eq_some_iff.mp e2
  cases e4
  refine ⟨F, δ, own, rv, δ1, s, e1, fun v H1 F1 own1 sH sF s1 r1 => ?_⟩
  cases rv with
  | tmp sw =>
    cases e3
    obtain ⟨ns, t⟩ := r1
    exact k v H1 F1 ns sF s1.le s1.fro s1.old t.sh t.nd t.ok
  | bw i =>
    obtain ⟨w, h1, h2⟩ := s1.at' i sv (Zd3 e3)
    have r1' : σ[i]? = some (some v) := r1
    rw [r1'] at h1; cases h1
    exact k v H1 F1 (own1 i) sF s1.le s1.fro s1.old h2 (s1.nod i) (s1.ok i)
@[simp] noncomputable def stow (i : Nat) : RV → DSt → Option DSt
  | .tmp sv, δ => if i < δ.length then some (δ.set i (some sv)) else none
  | .bw j, δ => (frz (.bw j) δ).bind fun p => if i < p.2.length then some (p.2.set i (some (.fz p.1))) else none
theorem SR.stow {F : Hp} {δ δ' : DSt} {own : Nat → Zp} {i : Nat} {rv : RV} {v : V} (s : SR Z F H σ δ own) (r : Zoj Z F H σ own rv v) (e : DL.stow i rv δ = some δ') : ∃ F' own', Same F F' ∧ SR Z F' H (σ.set i (some v)) δ' own' := by
  cases rv with
  | tmp sv =>
    obtain ⟨ns, t⟩ := r
    have e : (if i < δ.length then some (δ.set i (some sv)) else none) = some δ' := e
    by_cases hi : i < δ.length
    · rw [if_pos hi] at e; cases e
      exact ⟨F, _, Same.refl F, s.store t (by rw [s.len]; exact hi)⟩
    · rw [if_neg hi] at e; cases e
  | bw j =>
    obtain ⟨⟨d, δ1⟩, e1, e2⟩ := Option.bind_eq_some_iff.mp e
    obtain ⟨F1, own1, sF, s1, r1⟩ := s.frzR (rv := .bw j) (v := v) r e1
    by_cases hi : i < δ1.length
    · rw [if_pos hi] at e2; cases e2
      exact ⟨F1, _, sF, s1.store (.fz r1) (by rw [s1.len]; exact hi)⟩
    · rw [if_neg hi] at e2; cases e2
@[simp] noncomputable def setF (i : Nat) (fe : FE) : FS := fun δ => (fe δ).bind fun p => (stow i p.1 p.2).bind fun δ' => some (.nx δ')
theorem Zui {i : Nat} {fe : FE} (h : Zo Z (setF i fe) E σ H) : tAsg (Ze Z fe) (Zi6 i) E σ H := by
  obtain ⟨F, δ, own, fl, s, e, k⟩ := h
  obtain ⟨⟨rv, δ1⟩, e1, e2⟩ := Option.bind_eq_some_iff.mp e
  obtain ⟨δ2, e3, e4⟩ := Option.bind_eq_some_iff.mp e2
  cases e4
  refine ⟨F, δ, own, rv, δ1, s, e1, fun v H1 F1 own1 sH sF s1 r1 => ?_⟩
  obtain ⟨F2, own2, sF2, s2⟩ := s1.stow r1 e3
  exact k _ H1 F2 own2 (sF.trans sF2) s2
structure FG where
  run : D → DSt → Option DSt
  tch : List Nat
structure FGs where
  run : List D → DSt → Option DSt
  tch : List Nat
noncomputable def Zf4 (Z : Ent K) (g : FG) : TG := fun v σ H Q => ∃ F δ own d δ', SR Z F H σ δ own ∧ Rep K F d v ∧ g.run d δ = some δ' ∧ ∀ σ' own', SR Z F H σ' δ' own' → (∀ j : Nat, j ∉ g.tch → σ'[j]? = σ[j]?) → Q σ' H
noncomputable def Zfs (Z : Ent K) (g : FGs) : TGs := fun vs σ H Q => ∃ F δ own ds δ', SR Z F H σ δ own ∧ Reps K F ds vs ∧ g.run ds δ = some δ' ∧ ∀ σ' own', SR Z F H σ' δ' own' → (∀ j : Nat, j ∉ g.tch → σ'[j]? = σ[j]?) → Q σ' H
noncomputable def Zg (i : Nat) : FG := ⟨fun d δ => if i < δ.length then some (δ.set i (some (.fz d))) else none, [i]⟩
theorem Zuj {i : Nat} {v : V} {Q : St → Hp → Prop} (h : Zf4 Z (Zg i) v σ H Q) : Zi6 i v σ H Q := by
  obtain ⟨F, δ, own, d, δ', s, r, e, k⟩ := h
  have e : (if i < δ.length then some (δ.set i (some (.fz d))) else none) = some δ' := e
  by_cases hi : i < δ.length
  · rw [if_pos hi] at e; cases e
    exact k _ _ (s.store (.fz r) (by rw [s.len]; exact hi)) fun j hj => List.getElem?_set_ne fun z => hj (by rw [z]; exact List.mem_cons_self)
  · rw [if_neg hi] at e; cases e
noncomputable def Zgp : FGs := ⟨fun ds δ => match ds with
  | [] => some δ
  | _ => none, []⟩
noncomputable def Zcb (g : FG) (r : FGs) : FGs := ⟨fun ds δ => match ds with
  | d :: t => (g.run d δ).bind fun δ1 => r.run t δ1
  | [] => none, g.tch ++ r.tch⟩
@[simp] theorem Zxq (i : Nat) (d : D) (δ : DSt) : (Zg i).run d δ = if i < δ.length then some (δ.set i (some (.fz d))) else none := rfl
@[simp] theorem Zz2 (δ : DSt) : Zgp.run [] δ = some δ := rfl
@[simp] theorem Zxr (g : FG) (r : FGs) (d : D) (t : List D) (δ : DSt) : (Zcb g r).run (d :: t) δ = (g.run d δ).bind fun δ1 => r.run t δ1 := rfl
theorem Zxs {vs : List V} {Q : St → Hp → Prop} (h : Zfs Z Zgp vs σ H Q) : gNil vs σ H Q := by
  obtain ⟨F, δ, own, ds, δ', s, r, e, k⟩ := h
  cases r with
  | nil => cases e; exact ⟨rfl, k σ own s fun _ _ => rfl⟩
  | cons h t => cases e
theorem Zuk {g : FG} {r : FGs} {vs : List V} {Q : St → Hp → Prop} (h : Zfs Z (Zcb g r) vs σ H Q) : Zwo (Zf4 Z g) (Zfs Z r) vs σ H Q := by
  obtain ⟨F, δ, own, ds, δ', s, rr, e, k⟩ := h
  cases rr with
  | nil => cases e
  | cons h t =>
    obtain ⟨δ1, e1, e2⟩ := Option.bind_eq_some_iff.mp e
    exact ⟨_, _, rfl, F, δ, own, _, δ1, s, h, e1, fun σ1 own1 s1 t1 => ⟨F, δ1, own1, _, δ', s1, t, e2, fun σ2 own2 s2 t2 => k σ2 own2 s2 fun j hj => (t2 j fun z => hj (List.mem_append_right _ z)).trans (t1 j fun z => hj (List.mem_append_left _ z))⟩⟩
noncomputable def Zf5 (n : Nat) (g : FGs) : FG := ⟨fun d δ => match d with
  | .tup xs => if xs.length = n then g.run xs δ else none
  | _ => none, g.tch⟩
@[simp] theorem Zz3 (n : Nat) (g : FGs) (xs : List D) (δ : DSt) : (Zf5 n g).run (.tup xs) δ = if xs.length = n then g.run xs δ else none := rfl
theorem Zxt {n : Nat} {g : FGs} {v : V} {Q : St → Hp → Prop} (h : Zf4 Z (Zf5 n g) v σ H Q) : gTup K n (Zfs Z g) v σ H Q := by
  obtain ⟨F, δ, own, d, δ', s, r, e, k⟩ := h
  dsimp only [Zf5] at e
  split at e
  · rename_i xs
    by_cases hn : xs.length = n
    · rw [if_pos hn] at e
      cases r with
      | tup h r => exact ⟨_, _, rfl, Zc8 s.le (Zjq h), by rw [← r.length]; exact hn, F, δ, own, _, δ', s, r, e, k⟩
    · rw [if_neg hn] at e; cases e
  · cases e
@[simp] noncomputable def Zk0 (g : FG) (fe : FE) : FS := fun δ => (fe δ).bind fun p => (frz p.1 p.2).bind fun q => (g.run q.1 q.2).bind fun δ' => some (.nx δ')
theorem Zq9 {g : FG} {fe : FE} (h : Zo Z (Zk0 g fe) E σ H) : tAsg (Ze Z fe) (Zf4 Z g) E σ H := by
  obtain ⟨F, δ, own, fl, s, e, k⟩ := h
  obtain ⟨⟨rv, δ1⟩, e1, e2⟩ := Option.bind_eq_some_iff.mp e
  obtain ⟨⟨d, δ2⟩, e3, e4⟩ := Option.bind_eq_some_iff.mp e2
  obtain ⟨δ3, e5, e6⟩ := Option.bind_eq_some_iff.mp e4
  cases e6
  refine ⟨F, δ, own, rv, δ1, s, e1, fun v H1 F1 own1 sH sF s1 r1 => ?_⟩
  obtain ⟨F2, sF2, s2, r2⟩ := s1.settleR r1
  obtain ⟨F3, own3, sF3, s3, r3⟩ := s2.frzR r2 e3
  exact ⟨F3, δ2, own3, d, δ3, s3, r3, e5, fun σ' own' s' _ => k σ' H1 F3 own' (sF.trans (sF2.trans sF3)) s'⟩
@[simp] noncomputable def forD (tg : FG) (body : FS) : List D → DSt → Option Fl
  | [], δ => some (.nx δ)
  | d :: ds, δ => (tg.run d δ).bind fun δ1 => (body δ1).bind fun
    | .nx δ2 => forD tg body ds δ2
    | .ct δ2 => forD tg body ds δ2
    | .bk δ2 => some (.nx δ2)
    | .rt sv => some (.rt sv)
    | .ex x δ2 => some (.ex x δ2)
noncomputable def Zjr (K : PySem.W.Frag) (J : It) (F : Hp) (ds : List D) : Prop := ∀ F' H, Same F F' → Same F' H → ∀ i : Nat,
  (∀ d, ds[i]? = some d → J.go i H ∧ ∀ x H', J.yld i H x H' → Same H H' ∧ ∃ ns, (adr ns).Nodup ∧ (∀ p ∈ ns, H p.1 = none ∧ H' p.1 = some p.2) ∧ Rep K (addL F' ns) d x) ∧ (ds.length ≤ i → J.stop i H)
noncomputable def Zgq (Z : Ent K) (f : FD) : TI := fun σ H R => ∃ F δ own ds δ', SR Z F H σ δ own ∧ f δ = some (ds, δ') ∧
  ∀ J H' F' own', Same H H' → Same F F' → SR Z F' H' σ δ' own' → Zjr K J F' ds → R J H'
@[simp] noncomputable def forF (fi : FD) (tg : FG) (body : FS) : FS := fun δ => (fi δ).bind fun p => forD tg body p.1 p.2
theorem SR.fresh {F H' : Hp} {δ : DSt} {own : Nat → Zp} {ns : Zp} (s : SR Z F H σ δ own) (sm : Same H H') (nd : (adr ns).Nodup) (h : ∀ p ∈ ns, H p.1 = none ∧ H' p.1 = some p.2) : Same F (addL F ns) ∧ SR Z (addL F ns) H' σ δ own := by
  refine ⟨Zcz fun p hp => s.le.free (h p hp).1, (s.grow sm).addF nd (fun p hp => s.le.free (h p hp).1) (fun p hp => (h p hp).2) (fun p hp => s.old.free (h p hp).1) fun i p q hp hq e => ?_⟩
  have z := (s.ok i q hq).2.2
  rw [← e, (h p hp).1] at z; cases z
theorem Z0t {fi : FD} {tg : FG} {body : FS} (h : Zo Z (forF fi tg body) E σ H) : tFor (Zgq Z fi) (Zf4 Z tg) (Zo Z body) E σ H := by
  obtain ⟨F, δ, own, fl, s, e, k⟩ := h
  obtain ⟨⟨ds, δ1⟩, e1, e2⟩ := Option.bind_eq_some_iff.mp e
  refine ⟨F, δ, own, ds, δ1, s, e1, fun J H1 F1 own1 sH sF s1 yl => ?_⟩
  refine ⟨fun i m σ H => m = ds.length - i ∧ i ≤ ds.length ∧ ∃ F δ own, Same F1 F ∧ SR Z F H σ δ own ∧ forD tg body (ds.drop i) δ = some fl, ⟨ds.length, by simp, Nat.zero_le _, F1, δ1, own1, Same.refl F1, s1, e2⟩, ?_⟩
  rintro i m σ' H' ⟨rfl, hi, F2, δ2, own2, sF2, s2, ef⟩
  by_cases hlt : i < ds.length
  · have hd : ds[i]? = some ds[i] := by simp [hlt]
    obtain ⟨go, yy⟩ := (yl F2 H' sF2 s2.le i).1 _ hd
    rw [List.drop_eq_getElem_cons hlt] at ef
    obtain ⟨δ3, e3, e4⟩ := Option.bind_eq_some_iff.mp ef
    obtain ⟨f1, e5, e6⟩ := Option.bind_eq_some_iff.mp e4
    refine .inr ⟨go, fun σ4 H4 => ∃ F δ own, Same F1 F ∧ SR Z F H4 σ4 δ own ∧ forD tg body (ds.drop (i + 1)) δ = some fl, fun σ4 H4 ⟨F4, δ4, own4, a, b, c⟩ => ⟨ds.length - (i + 1), by omega, rfl, hlt, F4, δ4, own4, a, b, c⟩, fun x H3 hy => ?_⟩
    obtain ⟨sm, ns, nd, hn, rp⟩ := yy x H3 hy
    obtain ⟨sFn, sn⟩ := s2.fresh sm nd hn
    refine ⟨addL F2 ns, δ2, own2, _, δ3, sn, rp, e3, fun σ5 own5 s5 _ => ⟨addL F2 ns, δ3, own5, f1, s5, e5, ?_⟩⟩
    cases f1 with
    | nx δ6 => exact fun σ6 H6 F6 own6 a b => ⟨F6, δ6, own6, sF2.trans (sFn.trans a), b, e6⟩
    | ct δ6 => exact fun σ6 H6 F6 own6 a b => ⟨F6, δ6, own6, sF2.trans (sFn.trans a), b, e6⟩
    | bk δ6 =>
      cases e6
      exact fun σ6 H6 F6 own6 a b => k σ6 H6 F6 own6 (sF.trans (sF2.trans (sFn.trans a))) b
    | rt sv =>
      cases e6
      exact fun v H6 F6 ns6 a => k v H6 F6 ns6 (sF.trans (sF2.trans (sFn.trans a)))
    | ex x δ6 =>
      cases e6
      exact fun σ6 H6 F6 own6 cls od a => k σ6 H6 F6 own6 cls od (sF.trans (sF2.trans (sFn.trans a)))
  · have hz : i = ds.length := by omega
    subst hz
    rw [List.drop_length] at ef
    cases ef
    exact .inl ⟨(yl F2 H' sF2 s2.le _).2 (Nat.le_refl _), k σ' H' F2 own2 (sF.trans sF2) s2⟩
noncomputable def Zd4 (t : FT) (body : FS) : Nat → DSt → Option Fl
  | 0, _ => none
  | n + 1, δ => (t δ).bind fun p => if p.1 = true then (body p.2).bind (fun
    | .nx δ2 => Zd4 t body n δ2
    | .ct δ2 => Zd4 t body n δ2
    | .bk δ2 => some (.nx δ2)
    | .rt sv => some (.rt sv)
    | .ex x δ2 => some (.ex x δ2)) else some (.nx p.2)
theorem Zul {n : Nat} {t : FT} {body : FS} (h : Zo Z (Zd4 t body n) E σ H) : Zsn (Zaq Z t) (Zo Z body) E σ H := by
  obtain ⟨F, δ, own, fl, s, e, k⟩ := h
  refine ⟨fun m σ H => ∃ F2 δ own, Same F F2 ∧ SR Z F2 H σ δ own ∧ Zd4 t body m δ = some fl, ⟨n, F, δ, own, Same.refl F, s, e⟩, ?_⟩
  rintro m σ1 H1 ⟨F1, δ1, own1, sF1, s1, e1⟩
  cases m with
  | zero => cases e1
  | succ m =>
    obtain ⟨⟨c, δ2⟩, e2, e3⟩ := Option.bind_eq_some_iff.mp e1
    refine ⟨F1, δ1, own1, c, δ2, s1, e2, fun H2 F2 own2 sH sF2 s2 => ?_⟩
    cases c with
    | false =>
      rw [if_neg Bool.false_ne_true] at e3 ⊢
      cases e3
      exact k σ1 H2 F2 own2 (sF1.trans sF2) s2
    | true =>
      rw [if_pos rfl] at e3 ⊢
      obtain ⟨f1, e4, e5⟩ := Option.bind_eq_some_iff.mp e3
      refine ⟨fun σ' H' => ∃ F2 δ own, Same F F2 ∧ SR Z F2 H' σ' δ own ∧ Zd4 t body m δ = some fl, fun σ' H' w => ⟨m, Nat.lt_succ_self m, w⟩, F2, δ2, own2, f1, s2, e4, ?_⟩
      cases f1 with
      | nx δ6 => exact fun σ6 H6 F6 own6 a b => ⟨F6, δ6, own6, sF1.trans (sF2.trans a), b, e5⟩
      | ct δ6 => exact fun σ6 H6 F6 own6 a b => ⟨F6, δ6, own6, sF1.trans (sF2.trans a), b, e5⟩
      | bk δ6 =>
        cases e5
        exact fun σ6 H6 F6 own6 a b => k σ6 H6 F6 own6 (sF1.trans (sF2.trans a)) b
      | rt sv =>
        cases e5
        exact fun v H6 F6 ns6 a => k v H6 F6 ns6 (sF1.trans (sF2.trans a))
      | ex x δ6 =>
        cases e5
        exact fun σ6 H6 F6 own6 cls od a => k σ6 H6 F6 own6 cls od (sF1.trans (sF2.trans a))
@[simp] noncomputable def seqI (fe : FE) : FD := fun δ => (fe δ).bind fun p => (frz p.1 p.2).bind fun q => match q.1 with
  | .lst xs => some (xs, q.2)
  | .tup xs => some (xs, q.2)
  | _ => none
theorem Zk1 {F : Hp} {a : Addr} {xs : List D} {vs : List V} (h : SqL K F a vs) (r : Reps K F xs vs) : Zjr K (Itl K a) F xs := fun F' H sF sH i => by
  have q : SqL K H a vs := Zc7 (sF.trans sH) h
  refine ⟨fun d hd => ?_, fun hl => ⟨vs, q, by rw [← r.length]; exact hl⟩⟩
  obtain ⟨v, h1, h2⟩ := r.get hd
  refine ⟨⟨vs, v, q, h1⟩, fun x H' ⟨e1, e2⟩ => ?_⟩
  subst e1
  have e3 := e2 vs q
  rw [h1] at e3; cases e3
  exact ⟨Same.refl _, [], List.nodup_nil, fun _ h => (nomatch h), h2.mono sF⟩
theorem Znc {F : Hp} {a : Addr} {xs : List D} {vs : List V} (h : SqT K F a vs) (r : Reps K F xs vs) : Zjr K (Itt K a) F xs := fun F' H sF sH i => by
  have q : SqT K H a vs := Zc8 (sF.trans sH) h
  refine ⟨fun d hd => ?_, fun hl => ⟨vs, q, by rw [← r.length]; exact hl⟩⟩
  obtain ⟨v, h1, h2⟩ := r.get hd
  refine ⟨⟨vs, v, q, h1⟩, fun x H' ⟨e1, e2⟩ => ?_⟩
  subst e1
  have e3 := e2 vs q
  rw [h1] at e3; cases e3
  exact ⟨Same.refl _, [], List.nodup_nil, fun _ h => (nomatch h), h2.mono sF⟩
noncomputable def Zk2 (lo : Int) (n : Nat) : List D := (List.range n).map fun i => .int (lo + (i : Nat))
theorem Zjs {lo : Int} {n : Nat} {F : Hp} : Zjr K (Itr lo n) F (Zk2 lo n) := fun F' H sF sH i => by
  have hl : (Zk2 lo n).length = n := by unfold Zk2; rw [List.length_map, List.length_range]
  refine ⟨fun d hd => ?_, fun h => by rw [hl] at h; exact h⟩
  have hi : i < n := by
    have := (List.getElem?_eq_some_iff.mp hd).1
    rw [hl] at this; exact this
  refine ⟨hi, fun x H' ⟨e1, e2⟩ => ?_⟩
  subst e1 e2
  unfold Zk2 at hd
  rw [List.getElem?_map, List.getElem?_range hi] at hd
  cases hd
  exact ⟨Same.refl _, [], List.nodup_nil, fun _ h => (nomatch h), .int _⟩
noncomputable def rngP (j : Int) : Prop := -(2 ^ 62) ≤ j ∧ j < 2 ^ 62
theorem Zk3 {j : Int} (h0 : 0 ≤ j) (h : j ≤ 16777216) : rngP j := ⟨by omega, by omega⟩
theorem Ze6 {n : Nat} (h : n ≤ 16777216) : rngP (n : Int) := Zk3 (by omega) (by omega)
open Classical in
@[simp] noncomputable def rngI (fa : FA) : FD := fun δ => (fa δ).bind fun p => match Zgn p.1 p.2 with
  | some [.int j] => if rngP j then some (Zk2 0 j.toNat, p.2) else none
  | _ => none
theorem Zxu {fa : FA} {R : It → Hp → Prop} (h : Zgq Z (rngI fa) σ H R) : Zwr (Zfh Z fa) σ H R := by
  obtain ⟨F, δ, own, ds, δ', s, e, k⟩ := h
  obtain ⟨⟨rvs, δ1⟩, e1, e2⟩ := Option.bind_eq_some_iff.mp e
  refine ⟨F, δ, own, rvs, δ1, s, e1, fun vs H1 F1 own1 sH sF s1 r1 => ?_⟩
  dsimp only at e2
  split at e2
  · rename_i j hj
    have rn := s1.rdAll r1 hj
    cases rn with
    | cons h t =>
      cases t
      by_cases hb : rngP j
      · rw [if_pos hb] at e2
        cases e2
        exact ⟨j, by rw [h.int], hb.1, hb.2, k _ H1 F1 own1 sH sF s1 Zjs⟩
      · rw [if_neg hb] at e2; cases e2
  · cases e2
@[simp] noncomputable def appF (i : Nat) (fe : FE) : FS := fun δ => match δ[i]? with
  | some (some (.ol _)) => (fe δ).bind fun p => (frz p.1 p.2).bind fun q => match q.2[i]? with
    | some (some (.ol xs)) => if xs.length < PySem.sizeLine then some (.nx (q.2.set i (some (.ol (xs ++ [q.1]))))) else none
    | _ => none
  | _ => none
theorem Zeh {F : Hp} {xs : List D} {v : V} {ns : Zp} (h : Shape K F (.ol xs) v ns) : ∃ a vs, v = .ref a ∧ ns = [(a, .lst vs)] ∧ Reps K F xs vs := by
  cases h with
  | ol r => exact ⟨_, _, rfl, rfl, r⟩
theorem Z0u {i : Nat} {fe : FE} (h : Zo Z (appF i fe) E σ H) : Zqo (tBM K "list" Zdz (tVar i) (Zf3 (Ze Z fe) tNil)) E σ H := by
  obtain ⟨F, δ, own, fl, s, e, k⟩ := h
  unfold appF at e
  split at e
  · rename_i xs0 hx0
    obtain ⟨⟨rv, δ1⟩, e1, e2⟩ := Option.bind_eq_some_iff.mp e
    obtain ⟨⟨d, δ2⟩, e3, e4⟩ := Option.bind_eq_some_iff.mp e2
    obtain ⟨v, hv, sh⟩ := s.at' i _ hx0
    obtain ⟨a, vs0, ev, en, r0⟩ := Zeh sh
    refine ⟨v, hv, ?_, F, δ, own, rv, δ1, s, e1, fun y H1 F1 own1 sH sF s1 r1 => ?_⟩
    · subst ev
      exact .inl ⟨rfl, vs0, .inl (.inl (s.ok i (a, .lst vs0) (by rw [en]; exact List.mem_cons_self)).2.2)⟩
    obtain ⟨F2, sF2, s2, r2⟩ := s1.settleR r1
    obtain ⟨F3, own3, sF3, s3, r3⟩ := s2.frzR r2 e3
    dsimp only at e4
    split at e4
    · rename_i xs hx
      by_cases hz : xs.length < PySem.sizeLine
      · rw [if_pos hz] at e4
        cases e4
        obtain ⟨v', hv', sh'⟩ := s3.at' i _ hx
        rw [hv] at hv'; cases hv'
        obtain ⟨b, vs, eb, en', r'⟩ := Zeh sh'
        have mb : (b, HO.lst vs) ∈ own3 i := by rw [en']; exact List.mem_cons_self
        subst eb
        refine ⟨b, vs, y, rfl, rfl, (s3.ok i _ mb).2.2, by rw [← r'.length]; exact hz, ?_⟩
        exact k σ _ F3 _ (sF.trans (sF2.trans sF3)) (s3.change (sv' := .ol (xs ++ [d])) (o' := .lst (vs ++ [y])) (ns' := [(b, .lst (vs ++ [y]))]) hx hv mb (.ol (r'.snoc r3)) (fun p hp => .inl (List.mem_singleton.mp hp)) nd1)
      · rw [if_neg hz] at e4; cases e4
    · cases e4
  · cases e
end
@[simp] noncomputable def Zhk (n : Nat) (ds : List D) : DSt := ds.map (fun d => some (.fz d)) ++ List.replicate (n - ds.length) none
theorem Zh8 {N : List Str} {F H : Hp} {ds : List D} {vs : List V} (le : Same F H) (r : Reps K F ds vs) : SR (ent H F : Ent K) F H (L2.start N vs) (Zhk N.length ds) fun _ => [] := by
  have hl := r.length
  refine ⟨le, fun b o e => .inl e, Same.refl H, ?_, fun i sv e => ?_, fun _ => List.nodup_nil, fun _ _ h => (nomatch h), fun _ _ _ _ _ h => (nomatch h)⟩
  · unfold L2.start Zhk
    rw [List.length_append, List.length_append, List.length_map, List.length_map, List.length_replicate, List.length_replicate, hl]
  · unfold Zhk at e
    by_cases hi : i < ds.length
    · rw [List.getElem?_append_left (by simpa using hi), List.getElem?_map] at e
      cases hd : ds[i]? with
      | none => rw [hd] at e; cases e
      | some d =>
        rw [hd] at e; cases e
        obtain ⟨v, h1, h2⟩ := r.get hd
        refine ⟨v, ?_, .fz h2⟩
        unfold L2.start
        rw [List.getElem?_append_left (by rw [List.length_map]; omega), List.getElem?_map, h1]
        rfl
    · rw [List.getElem?_append_right (by simpa using hi), List.getElem?_replicate] at e
      split at e <;> cases e
theorem Z9 {n : Nat} {g : List D → Option SV} {vs : List V} {H : Hp} {Q : VK} {E : XK} (h : spOf K n g vs H Q E) : vs.length = n := by
  obtain ⟨F, ds, sv, le, r, hn, e, k⟩ := h
  rw [← r.length]; exact hn
end DL
namespace DL
open PySem L2
variable {K : PySem.W.Frag}
noncomputable def xG (K : PySem.W.Frag) (g : FG) : TG := fun v σ H Q => ∃ Z : Ent K, Zf4 Z g v σ H Q
noncomputable def xT (K : PySem.W.Frag) (f : FT) : TT := fun σ H Q => ∃ Z : Ent K, Zaq Z f σ H Q
noncomputable def xE (K : PySem.W.Frag) (f : FE) : TE := fun σ H Q => ∃ Z : Ent K, Ze Z f σ H Q
noncomputable def Za9 : FT := fun δ => some (true, δ)
@[simp] theorem Zz4 (δ : DSt) : Za9 δ = some (true, δ) := rfl
@[simp] noncomputable def caps (src : List BSrc) : List RV := src.filterMap fun
  | .cap j => some (.bw j)
  | _ => none
@[simp] noncomputable def Zoq (δ : DSt) : BSrc → Option SV
  | .own => none
  | .cap j => match δ[j]?.join with
    | some (.fz d) => some (.fz d)
    | _ => none
  | .acc => some (.ol [])
@[simp] noncomputable def bD (src : List BSrc) (δ : DSt) : DSt := src.map (Zoq δ)
@[simp] noncomputable def Zgr : BSrc → Option SV → Option SV
  | .own, _ => none
  | _, o => o
@[simp] noncomputable def Zfj : List BSrc → DSt → DSt
  | b :: r, o :: t => Zgr b o :: Zfj r t
  | _, t => t
@[simp] noncomputable def Zz (src : List BSrc) (k : Nat) (g : FG) (tt : FT) (te : FE) : List D → DSt → Option DSt
  | [], δ => some δ
  | d :: ds, δ => (g.run d δ).bind fun δ1 => (tt δ1).bind fun p => if p.1 = true then (te p.2).bind fun q => (frz q.1 q.2).bind fun r => match r.2[k]? with
      | some (some (.ol zs)) => if zs.length < PySem.sizeLine then Zz src k g tt te ds (Zfj src (r.2.set k (some (.ol (zs ++ [r.1]))))) else none
      | _ => none
    else Zz src k g tt te ds (Zfj src p.2)
@[simp] noncomputable def Zdm (src : List BSrc) (k : Nat) (fi : FD) (g : FG) (tt : FT) (te : FE) : FE := fun δ => (fi δ).bind fun p => (frzAll (caps src) p.2).bind fun c => (Zz src k g tt te p.1 (bD src c.2)).bind fun δb => match δb[k]? with
  | some (some (.ol ys)) => some (.tmp (.ol ys), c.2)
  | _ => none
theorem Zd5 : ∀ (src : List BSrc) (δ : DSt), (Zfj src δ).length = δ.length
  | [], t => by unfold Zfj; rfl
  | _ :: _, [] => by unfold Zfj; rfl
  | b :: r, o :: t => by show (Zgr b o :: Zfj r t).length = _; rw [List.length_cons, List.length_cons, Zd5 r t]
theorem Zd6 : ∀ {src : List BSrc} {δ : DSt} {i : Nat} {sv : SV}, (Zfj src δ)[i]? = some (some sv) → δ[i]? = some (some sv)
  | [], _, _, _, h => h
  | _ :: _, [], _, _, h => h
  | b :: r, o :: t, 0, sv, h => by
    have h : some (Zgr b o) = some (some sv) := h
    cases b with
    | own => cases h
    | cap j => exact h
    | acc => exact h
  | b :: r, o :: t, i + 1, sv, h => by
    have h : (Zfj r t)[i]? = some (some sv) := h
    show t[i]? = _
    exact Zd6 h
section
variable {Z : Ent K} {F H : Hp} {σ : St} {δ δ' : DSt} {own : Nat → Zp}
theorem SR.forget (s : SR Z F H σ δ own) (hl : δ'.length = δ.length) (h : ∀ (i : Nat) (sv : SV), δ'[i]? = some (some sv) → δ[i]? = some (some sv)) : SR Z F H σ δ' own :=
  ⟨s.le, s.fro, s.old, s.len.trans hl.symm, fun i sv e => s.at' i sv (h i sv e), s.nod, s.ok, s.sep⟩
theorem SR.caps : ∀ {rvs : List RV} {ds : List D} {δ δ' : DSt} {F : Hp} {own : Nat → Zp}, (∀ rv ∈ rvs, ∃ j, rv = .bw j) → SR Z F H σ δ own → DL.frzAll rvs δ = some (ds, δ') → ∃ F1 own1, Same F F1 ∧ SR Z F1 H σ δ' own1
  | [], _, _, _, F, own, _, s, e => by cases e; exact ⟨F, own, Same.refl F, s⟩
  | rv :: r, _, _, _, F, own, hb, s, e => by
    obtain ⟨⟨d, δ1⟩, e1, e2⟩ := Option.bind_eq_some_iff.mp e
    obtain ⟨⟨ds, δ2⟩, e3, e4⟩ := Option.bind_eq_some_iff.mp e2
    cases e4
    obtain ⟨j, rfl⟩ := hb rv List.mem_cons_self
    obtain ⟨sv, e5, e6⟩ := Option.bind_eq_some_iff.mp e1
    cases e6
    obtain ⟨F1, v, sF, _, _, s1⟩ := s.freeze (Zd3 e5)
    obtain ⟨F2, own2, sF2, s2⟩ := SR.caps (fun rv h => hb rv (List.mem_cons_of_mem _ h)) s1 e3
    exact ⟨F2, own2, sF.trans sF2, s2⟩
theorem SR.after {F3 H3 : Hp} (s2 : SR Z F H σ δ own) (sH3 : Same H H3) (sF3 : Same F F3) (le3 : Same F3 H3) (fro3 : ∀ (b : Addr) (o : HO), F3 b = some o → F b = some o ∨ H b = none) : SR Z F3 H3 σ δ own := by
  refine ⟨le3, fun b o e => ?_, s2.old.trans sH3, s2.len, fun i sw ei => ?_, s2.nod, fun i p hp => ?_, s2.sep⟩
  · rcases fro3 b o e with z | z
    · exact s2.fro b o z
    · exact .inr (s2.old.free z)
  · obtain ⟨w, h1, h2⟩ := s2.at' i sw ei
    exact ⟨w, h1, h2.mono sF3⟩
  · obtain ⟨a, b, c⟩ := s2.ok i p hp
    refine ⟨?_, b, sH3 _ _ c⟩
    cases z : F3 p.1 with
    | none => rfl
    | some u =>
      rcases fro3 _ u z with y | y
      · rw [a] at y; cases y
      · rw [c] at y; cases y
end
structure SrcOk (src : List BSrc) (k : Nat) : Prop where
  acc : src[k]? = some .acc
  uni : ∀ i : Nat, src[i]? = some .acc → i = k
theorem Zl3 {Z : Ent K} {F H : Hp} {σ : St} {δ : DSt} {own : Nat → Zp} {src : List BSrc} {k : Nat} {acc : Addr} (S : SrcOk src k) (s : SR Z F H σ δ own) (ha : H acc = none) :
    SR (ent H F : Ent K) F (upd H acc (.lst [])) (bSt src σ acc) (bD src δ) (fun i => if i = k then [(acc, .lst [])] else []) := by
  have mem : ∀ {i : Nat} {p : Addr × HO}, p ∈ (if i = k then [(acc, HO.lst [])] else []) → i = k ∧ p = (acc, .lst []) := fun {i p} h => by
    by_cases hi : i = k
    · rw [if_pos hi] at h; exact ⟨hi, List.mem_singleton.mp h⟩
    · rw [if_neg hi] at h; exact nomatch h
  refine ⟨s.le.trans (Zc9 ha), fun b o e => .inl e, Zc9 ha, by unfold bSt bD; rw [List.length_map, List.length_map], fun i sv e => ?_, fun i => ?_, fun i p hp => ?_, fun i j p q hij hp hq => ?_⟩
  · unfold bD at e
    rw [List.getElem?_map] at e
    cases hq : src[i]? with
    | none => rw [hq] at e; cases e
    | some q =>
      rw [hq] at e
      have e : Zoq δ q = some sv := Option.some.inj e
      cases q with
      | own => cases e
      | acc =>
        cases e
        have hi := S.uni i hq
        refine ⟨.ref acc, by unfold bSt; rw [List.getElem?_map, hq]; rfl, ?_⟩
        show Shape K F (.ol []) (.ref acc) (if i = k then [(acc, .lst [])] else [])
        rw [if_pos hi]
        exact .ol .nil
      | cap j =>
        have hi : i ≠ k := fun z => by rw [z, S.acc] at hq; cases hq
        unfold Zoq at e
        dsimp only at e
        split at e
        · rename_i d hd
          cases e
          obtain ⟨v, h1, h2⟩ := s.at' j _ (Zd3 hd)
          refine ⟨v, by unfold bSt; rw [List.getElem?_map, hq]; show some (σ[j]?).join = _; rw [h1]; rfl, ?_⟩
          show Shape K F (.fz d) v (if i = k then [(acc, .lst [])] else [])
          rw [if_neg hi]
          exact .fz (Zdr h2)
        · cases e
  · show (adr (if i = k then [(acc, HO.lst [])] else [])).Nodup
    by_cases hi : i = k
    · rw [if_pos hi]; exact nd1
    · rw [if_neg hi]; exact List.nodup_nil
  · obtain ⟨_, rfl⟩ := mem hp
    exact ⟨s.le.free ha, ha, Zah⟩
  · obtain ⟨z, _⟩ := mem hp
    obtain ⟨y, _⟩ := mem hq
    exact absurd (z.trans y.symm) hij
theorem Zs0 {Z : Ent K} {H : Hp} {σ : St} {Q : VK} {src : List BSrc} {k : Nat} {fi : FD} {g : FG} {tt : FT} {te : FE} (S : SrcOk src k) (hk : k ∉ g.tch) (h : Ze Z (Zdm src k fi g tt te) σ H Q) :
    Zua src (Zgq Z fi) (xG K g) (xT K tt) (xE K te) σ H Q := by
  obtain ⟨F, δ, own, rv, δ', s, e, k0⟩ := h
  obtain ⟨⟨ds, δ1⟩, e1, e2⟩ := Option.bind_eq_some_iff.mp e
  obtain ⟨⟨cs, δ2⟩, e3, e4⟩ := Option.bind_eq_some_iff.mp e2
  obtain ⟨δf, e5, e6⟩ := Option.bind_eq_some_iff.mp e4
  refine ⟨F, δ, own, ds, δ1, s, e1, fun J H1 F1 own1 sH sF s1 yl acc ha => ?_⟩
  obtain ⟨F2, own2, sF2, s2⟩ := s1.caps (fun rv hr => by
    unfold DL.caps at hr
    obtain ⟨b, _, hb⟩ := List.mem_filterMap.mp hr
    cases b with
    | own => cases hb
    | acc => cases hb
    | cap j => cases hb; exact ⟨j, rfl⟩) e3
  have s3 := Zl3 S s2 ha
  have hacc0 : (bSt src σ acc)[k]? = some (some (.ref acc)) := by unfold bSt; rw [List.getElem?_map, S.acc]; rfl
  refine ⟨fun i m σ' H => m = ds.length - i ∧ i ≤ ds.length ∧ σ'[k]? = some (some (.ref acc)) ∧ ∃ F δ own, Same F2 F ∧ SR (ent H1 F2 : Ent K) F H σ' δ own ∧ Zz src k g tt te (ds.drop i) δ = some δf,
    ⟨ds.length, by simp, Nat.zero_le _, hacc0, F2, _, _, Same.refl F2, s3, e5⟩, ?_⟩
  rintro i m σ4 H4 ⟨rfl, hi, hacc, F4, δ4, own4, sF4, s4, ef⟩
  by_cases hlt : i < ds.length
  · have hd : ds[i]? = some ds[i] := by simp [hlt]
    obtain ⟨go, yy⟩ := (yl F4 H4 (sF2.trans sF4) s4.le i).1 _ hd
    rw [List.drop_eq_getElem_cons hlt] at ef
    obtain ⟨δ5, e7, e8⟩ := Option.bind_eq_some_iff.mp ef
    obtain ⟨⟨b, δ6⟩, e9, e10⟩ := Option.bind_eq_some_iff.mp e8
    refine .inr ⟨go, fun x H5 hy => ?_⟩
    obtain ⟨sm, ns, nd, hn, rp⟩ := yy x H5 hy
    obtain ⟨sFn, sn⟩ := s4.fresh sm nd hn
    refine ⟨(ent H1 F2 : Ent K), addL F4 ns, δ4, own4, _, δ5, sn, rp, e7, fun σ6 own6 s6 t6 => ⟨(ent H1 F2 : Ent K), addL F4 ns, δ5, own6, b, δ6, s6, e9, fun H7 F7 own7 sH7 sF7 s7 => ?_⟩⟩
    have hacc6 : σ6[k]? = some (some (.ref acc)) := (t6 k hk).trans hacc
    cases b with
    | false =>
      dsimp only
      rw [if_neg Bool.false_ne_true] at e10 ⊢
      exact ⟨ds.length - (i + 1), by omega, rfl, hlt, hacc6, F7, _, own7, sF4.trans (sFn.trans sF7), s7.forget (Zd5 src δ6) (fun j sv hj => Zd6 hj), e10⟩
    | true =>
      dsimp only
      rw [if_pos rfl] at e10 ⊢
      obtain ⟨⟨rv8, δ8⟩, e11, e12⟩ := Option.bind_eq_some_iff.mp e10
      obtain ⟨⟨d9, δ9⟩, e13, e14⟩ := Option.bind_eq_some_iff.mp e12
      refine ⟨(ent H1 F2 : Ent K), F7, δ6, own7, rv8, δ8, s7, e11, fun y H8 F8 own8 sH8 sF8 s8 r8 => ?_⟩
      obtain ⟨F9, sF9, s9, r9⟩ := s8.settleR r8
      obtain ⟨F10, own10, sF10, s10, r10⟩ := s9.frzR r9 e13
      dsimp only at e14
      split at e14
      · rename_i zs hz
        by_cases hzl : zs.length < PySem.sizeLine
        · rw [if_pos hzl] at e14
          obtain ⟨v', hv', sh'⟩ := s10.at' k _ hz
          rw [hacc6] at hv'; cases hv'
          obtain ⟨b, vs, eb, en', r'⟩ := Zeh sh'
          cases eb
          have mb : (acc, HO.lst vs) ∈ own10 k := by rw [en']; exact List.mem_cons_self
          refine ⟨acc, vs, y, rfl, rfl, (s10.ok k _ mb).2.2, by rw [← r'.length]; exact hzl, ?_⟩
          have s11 := s10.change (sv' := .ol (zs ++ [d9])) (o' := .lst (vs ++ [y])) (ns' := [(acc, .lst (vs ++ [y]))]) hz hacc6 mb (.ol (r'.snoc r10)) (fun p hp => .inl (List.mem_singleton.mp hp)) nd1
          exact ⟨ds.length - (i + 1), by omega, rfl, hlt, hacc6, F10, _, _, sF4.trans (sFn.trans (sF7.trans (sF8.trans (sF9.trans sF10)))), s11.forget (Zd5 src _) (fun j sv hj => Zd6 hj), e14⟩
        · rw [if_neg hzl] at e14; cases e14
      · cases e14
  · have hz : i = ds.length := by omega
    subst hz
    rw [List.drop_length] at ef
    cases ef
    refine .inl ⟨(yl F4 H4 (sF2.trans sF4) s4.le _).2 (Nat.le_refl _), ?_⟩
    dsimp only at e6
    split at e6
    · rename_i ys hys
      cases e6
      obtain ⟨v', hv', sh'⟩ := s4.at' k _ hys
      rw [hacc] at hv'; cases hv'
      obtain ⟨b, vs, eb, en', r'⟩ := Zeh sh'
      cases eb
      have mb : (acc, HO.lst vs) ∈ own4 k := by rw [en']; exact List.mem_cons_self
      obtain ⟨o1, o2, o3⟩ := s4.ok k _ mb
      refine k0 (.ref acc) H4 F4 own2 (sH.trans s4.old) (sF.trans (sF2.trans sF4)) (s2.after s4.old sF4 s4.le fun b o e => s4.fro b o e) ⟨[(acc, .lst vs)], .ol r', nd1, fun p hp => ?_, fun j p q hp hq e => ?_⟩
      · obtain rfl := List.mem_singleton.mp hp
        exact ⟨o1, s2.old.free ha, o3⟩
      · obtain rfl := List.mem_singleton.mp hp
        have z := (s2.ok j q hq).2.2
        have e' : acc = q.1 := e
        rw [← e', ha] at z; cases z
    · cases e6
end DL
namespace DL
open PySem PySem.Spec PyProof.Rows L2
variable {K : PySem.W.Frag}
variable {Z : Ent K}
@[simp] noncomputable def intI (f : Int → Int → D) : D → D → Option SV
  | .int i, .int j => some (.fz (f i j))
  | _, _ => none
@[simp] noncomputable def intC (C : Int → Int → Bool) (f : Int → Int → D) : D → D → Option SV
  | .int i, .int j => if C i j = true then some (.fz (f i j)) else none
  | _, _ => none
theorem Zum {g : Int → Int → V} {f : Int → Int → D} (hr : ∀ F i j, Rep K F (f i j) (g i j)) : Zbr Z (rI0 g) (intI f) := by
  intro F H σ δ own x y d1 d2 sv Q s r1 r2 e k
  unfold intI at e
  split at e
  · cases e
    exact ⟨_, _, r1.int, r2.int, k.fz s (hr _ _ _)⟩
  · cases e
theorem p_rI {C : Int → Int → Prop} {c : Int → Int → Bool} {g : Int → Int → V} {f : Int → Int → D} (hc : ∀ i j, c i j = true → C i j) (hr : ∀ F i j, Rep K F (f i j) (g i j)) : Zbr Z (rI C g) (intC c f) := by
  intro F H σ δ own x y d1 d2 sv Q s r1 r2 e k
  unfold intC at e
  split at e
  · split at e
    · rename_i hcc
      cases e
      exact ⟨_, _, r1.int, r2.int, hc _ _ hcc, k.fz s (hr _ _ _)⟩
    · cases e
  · cases e
noncomputable def cMul (i j : Int) : Bool := (decide (-(2 ^ 64) < i) && decide (i < 2 ^ 64)) || (decide (-(2 ^ 64) < j) && decide (j < 2 ^ 64))
@[simp] noncomputable def mulD : D → D → Option SV := intC cMul fun i j => .int (i * j)
@[simp] noncomputable def cDiv (i j : Int) : Bool := decide (0 < j) && decide (j < 1073741824)
@[simp] noncomputable def Zfk : D → D → Option SV := intC cDiv fun i j => .int (i / j)
@[simp] noncomputable def cMod (i j : Int) : Bool := decide (0 < j)
@[simp] noncomputable def modD : D → D → Option SV := intC cMod fun i j => .int (i % j)
theorem Z0v : Zbr Z (rI CMul fun i j => V.int (i * j)) mulD := p_rI (fun i j h => by
  unfold cMul at h
  simp only [Bool.or_eq_true, Bool.and_eq_true, decide_eq_true_eq] at h
  exact h) fun _ _ _ => .int _
theorem Zxv : Zbr Z (rI CDiv fun i j => V.int (i / j)) Zfk := p_rI (fun i j h => by
  unfold cDiv at h
  simp only [Bool.and_eq_true, decide_eq_true_eq] at h
  exact h) fun _ _ _ => .int _
theorem Z0w : Zbr Z (rI (fun _ j => 0 < j) fun i j => V.int (i % j)) modD := p_rI (fun i j h => by
  unfold cMod at h
  simp only [decide_eq_true_eq] at h
  exact h) fun _ _ _ => .int _
@[simp] noncomputable def ltD : D → D → Option SV := intI fun i j => .bl (decide (i < j))
@[simp] noncomputable def leD : D → D → Option SV := intI fun i j => .bl (decide (i ≤ j))
@[simp] noncomputable def gtD : D → D → Option SV := intI fun i j => .bl (decide (j < i))
theorem p_lt : Zbr Z (rI0 fun i j => V.bl (decide (i < j))) ltD := Zum fun _ _ _ => .bl _
theorem p_le : Zbr Z (rI0 fun i j => V.bl (decide (i ≤ j))) leD := Zum fun _ _ _ => .bl _
theorem p_gt : Zbr Z (rI0 fun i j => V.bl (decide (j < i))) gtD := Zum fun _ _ _ => .bl _
noncomputable def rStr : R2 := fun x y H Q => ∃ i j, x = .str i ∧ y = .str j ∧ i.length + j.length ≤ PySem.sizeLine ∧ Q (.str (i ++ j)) H
noncomputable def Zxw (K : PySem.W.Frag) : R2 := fun x y H Q => ∃ l b xs zs, x = .ref l ∧ y = .ref b ∧ SqL K H l xs ∧ SqL K H b zs ∧ xs.length + zs.length ≤ PySem.sizeLine ∧ ∀ p, H p = none → Q (.ref p) (upd H p (.lst (xs ++ zs)))
theorem Zun {X : Cx} : OpR X (binaryOp .Add) (Zxw X.K) := by
  intro pins s σ H x y v u Q I rx ry h
  obtain ⟨l, b, xs, zs, rfl, rfl, hH, hB, hz, q⟩ := h
  cases rx
  cases ry
  obtain ⟨its, r, pl, z⟩ := I.list hH
  obtain ⟨its2, r2, pl2, z2⟩ := I.list hB
  have hl := r.length
  have hl2 := r2.length
  obtain ⟨⟨cls, dd, data, sl⟩, ho, hc, n, hd⟩ := pl.isList
  obtain ⟨⟨cls2, dd2, data2, sl2⟩, ho2, hc2, n2, hd2⟩ := pl2.isList
  simp only at hc hd hc2 hd2
  subst hc hd hc2 hd2
  have ea : its.toArray ++ its2.toArray = (its ++ its2).toArray := by simp
  refine concat_meets ⟨_, ho, rfl⟩ ⟨_, ho2, rfl⟩ noFill_list_add seq_list_add PySem.F.slot_list_add PySem.F.entry_list_add (PySem.F.args_list_add_2 _ _) (list_addW l b its.toArray its2.toArray n n2 dd dd2 sl sl2 (by rw [List.size_toArray, List.size_toArray]; omega)) ⟨ho, ho2, ?_⟩
  rw [ea]
  exact ⟨.ref _, _, I.lnew (t' := s.toks) (r.append r2) (by rw [List.length_append]; omega), rfl, q _ I.fresh⟩
noncomputable def Zxx (K : PySem.W.Frag) : R2 := fun x y H Q => rI0 (fun i j => V.int (i + j)) x y H Q ∨ (rStr x y H Q ∨ Zxw K x y H Q)
theorem Zuo {X : Cx} : OpR X (binaryOp .Add) (Zxx X.K) := Zwu.or (Zm2.or Zun)
@[simp] noncomputable def addD : D → D → Option SV
  | .int i, .int j => some (.fz (.int (i + j)))
  | .str x, .str y => if x.length + y.length ≤ PySem.sizeLine then some (.fz (.str (x ++ y))) else none
  | .lst xs, .lst ys => if xs.length + ys.length ≤ PySem.sizeLine then some (.ol (xs ++ ys)) else none
  | _, _ => none
theorem Z0x : Zbr Z (Zxx K) addD := by
  intro F H σ δ own x y d1 d2 sv Q s r1 r2 e k
  unfold addD at e
  split at e
  · cases e
    exact .inl ⟨_, _, r1.int, r2.int, k.fz s (.int _)⟩
  · split at e
    · rename_i hz
      cases e
      exact .inr (.inl ⟨_, _, r1.str, r2.str, hz, k.fz s (.str _)⟩)
    · cases e
  · split at e
    · rename_i hz
      cases e
      obtain ⟨a, vs, ex, ha, ra⟩ := r1.lst s.le
      obtain ⟨b, us, ey, hb, rb⟩ := r2.lst s.le
      exact .inr (.inr ⟨a, b, vs, us, ex, ey, ha, hb, by rw [← ra.length, ← rb.length]; exact hz, fun p hp => k.lst s (ra.append rb) hp⟩)
    · cases e
  · cases e
@[simp] noncomputable def eqS : D → D → Option Bool
  | .non, .non => some true
  | .non, .int _ => some false
  | .int _, .non => some false
  | .non, .bl _ => some false
  | .bl _, .non => some false
  | .non, .str _ => some false
  | .str _, .non => some false
  | .int i, .int j => some (decide (i = j))
  | .bl i, .bl j => some (decide (i = j))
  | .str i, .str j => some (decide (i = j))
  | .int _, .str _ => some false
  | .str _, .int _ => some false
  | .bl _, .str _ => some false
  | .str _, .bl _ => some false
  | _, _ => none
theorem Zs1 {F H : Hp} {d1 d2 : D} {x y : V} {b : Bool} (e : eqS d1 d2 = some b) (r1 : RepN K F H d1 x) (r2 : RepN K F H d2 y) : scal x y = true ∧ b = decide (x = y) := by
  unfold eqS at e
  split at e <;> cases e
  · rw [r1.non, r2.non]; exact ⟨rfl, by simp⟩
  · rw [r1.non, r2.int]; exact ⟨rfl, by simp⟩
  · rw [r1.int, r2.non]; exact ⟨rfl, by simp⟩
  · rw [r1.non, r2.bl]; exact ⟨rfl, by simp⟩
  · rw [r1.bl, r2.non]; exact ⟨rfl, by simp⟩
  · rw [r1.non, r2.str]; exact ⟨rfl, by simp⟩
  · rw [r1.str, r2.non]; exact ⟨rfl, by simp⟩
  · rw [r1.int, r2.int]; exact ⟨rfl, by simp⟩
  · rw [r1.bl, r2.bl]; exact ⟨rfl, by simp⟩
  · rw [r1.str, r2.str]; exact ⟨rfl, by simp⟩
  · rw [r1.int, r2.str]; exact ⟨rfl, by simp⟩
  · rw [r1.str, r2.int]; exact ⟨rfl, by simp⟩
  · rw [r1.bl, r2.str]; exact ⟨rfl, by simp⟩
  · rw [r1.str, r2.bl]; exact ⟨rfl, by simp⟩
@[simp] noncomputable def eqD (d1 d2 : D) : Option SV := (eqS d1 d2).bind fun b => some (.fz (.bl b))
@[simp] noncomputable def neD (d1 d2 : D) : Option SV := (eqS d1 d2).bind fun b => some (.fz (.bl (!b)))
theorem p_eq : Zbr Z rEq eqD := by
  intro F H σ δ own x y d1 d2 sv Q s r1 r2 e k
  obtain ⟨b, e1, e2⟩ := Option.bind_eq_some_iff.mp e
  cases e2
  obtain ⟨h1, h2⟩ := Zs1 e1 r1 r2
  subst h2
  exact ⟨h1, k.fz s (.bl _)⟩
theorem p_ne : Zbr Z rNe neD := by
  intro F H σ δ own x y d1 d2 sv Q s r1 r2 e k
  obtain ⟨b, e1, e2⟩ := Option.bind_eq_some_iff.mp e
  cases e2
  obtain ⟨h1, h2⟩ := Zs1 e1 r1 r2
  subst h2
  exact ⟨h1, k.fz s (.bl _)⟩
@[simp] noncomputable def D.isNon : D → Bool
  | .non => true
  | _ => false
theorem Zl4 {F H : Hp} {d : D} {x : V} (r : RepN K F H d x) : decide (x = .non) = d.isNon := by
  cases d with
  | non => rw [r.non]; rfl
  | bl b => rw [r.bl]; rfl
  | int i => rw [r.int]; rfl
  | str i => rw [r.str]; rfl
  | exc c ks vs =>
    obtain ⟨sv, ns, e, n, sh, hp⟩ := r
    cases sh with
    | fz r => cases e; cases r <;> rfl
    | ol r => cases e
    | oK e' r => cases e
    | oT kb e' r => cases e
    | oN e' r => cases n
    | oL _ r => cases n
  | tup xs =>
    obtain ⟨sv, ns, e, n, sh, hp⟩ := r
    cases sh with
    | fz r => cases e; cases r; rfl
    | ol r => cases e
    | oK e' r => cases e
    | oT kb e' r => cases e
    | oN e' r => cases n
    | oL _ r => cases n
  | lst xs =>
    obtain ⟨sv, ns, e, n, sh, hp⟩ := r
    cases sh with
    | fz r => cases e; cases r; rfl
    | ol r => rfl
    | oK e' r => rfl
    | oT kb e' r => rfl
    | oN e' r => rfl
    | oL _ r => rfl
  | dK ks vs =>
    obtain ⟨sv, ns, e, n, sh, hp⟩ := r
    cases sh with
    | fz r => cases e; cases r; rfl
    | ol r => rfl
    | oK e' r => rfl
    | oT kb e' r => rfl
    | oN e' r => rfl
    | oL _ r => rfl
  | dT ks vs =>
    obtain ⟨sv, ns, e, n, sh, hp⟩ := r
    cases sh with
    | fz r => cases e; cases r; rfl
    | ol r => rfl
    | oK e' r => rfl
    | oT kb e' r => rfl
    | oN e' r => rfl
    | oL _ r => rfl
@[simp] noncomputable def isND (d1 d2 : D) : Option SV := if d2.isNon = true then some (.fz (.bl d1.isNon)) else none
@[simp] noncomputable def Zk4 (d1 d2 : D) : Option SV := if d2.isNon = true then some (.fz (.bl (!d1.isNon))) else none
theorem Zl5 {d : D} (h : d.isNon = true) : d = .non := by cases d <;> first | rfl | cases h
theorem Z0y : Zbr Z (fun x y H Q => y = V.non ∧ Q (.bl (decide (x = .non))) H) isND := by
  intro F H σ δ own x y d1 d2 sv Q s r1 r2 e k
  unfold isND at e
  split at e
  · rename_i h
    cases e
    have := Zl5 h
    subst this
    exact ⟨r2.non, by rw [Zl4 r1]; exact k.fz s (.bl _)⟩
  · cases e
theorem Zxy : Zbr Z (fun x y H Q => y = V.non ∧ Q (.bl (!decide (x = .non))) H) Zk4 := by
  intro F H σ δ own x y d1 d2 sv Q s r1 r2 e k
  unfold Zk4 at e
  split at e
  · rename_i h
    cases e
    have := Zl5 h
    subst this
    exact ⟨r2.non, by rw [Zl4 r1]; exact k.fz s (.bl _)⟩
  · cases e
theorem Reps.atI {F : Hp} {xs : List D} {vs : List V} {i : Int} {d : D} (r : Reps K F xs vs) (e : L2.atI xs i = some d) : ∃ v, L2.atI vs i = some v ∧ Rep K F d v := by
  unfold L2.atI at e ⊢
  obtain ⟨j, e1, e2⟩ := Option.bind_eq_some_iff.mp e
  obtain ⟨v, h1, h2⟩ := r.get e2
  exact ⟨v, Option.bind_eq_some_iff.mpr ⟨j, by rw [← r.length]; exact e1, h1⟩, h2⟩
@[simp] noncomputable def ixD : D → D → Option SV
  | .lst xs, .int i => (L2.atI xs i).bind fun d => some (.fz d)
  | .tup xs, .int i => (L2.atI xs i).bind fun d => some (.fz d)
  | .str z, .int i => if z.length ≤ PySem.sizeLine then (L2.atI z.cps.toList i).bind fun c => some (.fz (.str ⟨#[c]⟩)) else none
  | _, _ => none
theorem p_ix : Zbr Z (rIx K) ixD := by
  intro F H σ δ own x y d1 d2 sv Q s r1 r2 e k
  unfold ixD at e
  split at e
  · obtain ⟨d, e1, e2⟩ := Option.bind_eq_some_iff.mp e
    cases e2
    obtain ⟨a, vs, ex, ha, ra⟩ := r1.lst s.le
    obtain ⟨v, h1, h2⟩ := ra.atI e1
    exact .inl ⟨a, vs, _, v, ex, r2.int, ha, h1, k.fz s h2⟩
  · obtain ⟨d, e1, e2⟩ := Option.bind_eq_some_iff.mp e
    cases e2
    obtain ⟨a, vs, ex, ha, ra⟩ := r1.tup s.le
    obtain ⟨v, h1, h2⟩ := ra.atI e1
    exact .inr (.inl ⟨a, vs, _, v, ex, r2.int, ha, h1, k.fz s h2⟩)
  · split at e
    · rename_i hz
      obtain ⟨c, e1, e2⟩ := Option.bind_eq_some_iff.mp e
      cases e2
      exact .inr (.inr ⟨_, _, c, r1.str, r2.int, hz, e1, k.fz s (.str _)⟩)
    · cases e
  · cases e
noncomputable abbrev FO := DSt → Option (Option Int × DSt)
noncomputable def Zjt (Z : Ent K) (f : FO) : TO := fun σ H Q => ∃ F δ own o δ', SR Z F H σ δ own ∧ f δ = some (o, δ') ∧ ∀ H' F' own', Same H H' → Same F F' → SR Z F' H' σ δ' own' → Q o H'
@[simp] noncomputable def Zft : FO := fun δ => some (none, δ)
@[simp] noncomputable def Zhb (fe : FE) : FO := fun δ => (fe δ).bind fun p => match p.1 with
  | .tmp (.fz (.int i)) => some (some i, p.2)
  | _ => none
section
variable {H : Hp} {σ : L2.St} {Q : VK} {R : Option Int → Hp → Prop}
theorem Zra (h : Zjt Z Zft σ H R) : Zn7 σ H R := by
  obtain ⟨F, δ, own, o, δ', s, e, k⟩ := h
  cases e
  exact k H F own (Same.refl H) (Same.refl F) s
theorem Zxz {fe : FE} (h : Zjt Z (Zhb fe) σ H R) : Zw6 (Ze Z fe) σ H R := by
  obtain ⟨F, δ, own, b, δ', s, e, k⟩ := h
  obtain ⟨⟨rv, δ1⟩, e1, e2⟩ := Option.bind_eq_some_iff.mp e
  refine ⟨F, δ, own, rv, δ1, s, e1, fun v H1 F1 own1 sH sF s1 r1 => ?_⟩
  dsimp only at e2
  split at e2
  · cases e2
    obtain ⟨ns, t⟩ := r1
    cases Zdr t.sh
    exact ⟨_, rfl, k H1 F1 own1 sH sF s1⟩
  · cases e2
@[simp] noncomputable def slF (g : D → Option Int → Option Int → Option SV) (fe : FE) (fl fh : FO) : FE := fun δ => (fe δ).bind fun p => (fl p.2).bind fun l => (fh l.2).bind fun h => (rdv p.1 h.2).bind fun d => (g d l.1 h.1).bind fun sv => some (.tmp sv, h.2)
noncomputable def Zx0 (Z : Ent K) (r : V → Option Int → Option Int → Hp → VK → Prop) (g : D → Option Int → Option Int → Option SV) : Prop :=
  ∀ (F H : Hp) (σ : L2.St) (δ : DSt) (own : Nat → Zp) (x : V) (d : D) (lo hi : Option Int) (sv : SV) (Q : VK), SR Z F H σ δ own → RepN K F H d x → g d lo hi = some sv → Fin Z F H σ δ own sv Q → r x lo hi H Q
theorem l_sl {r : V → Option Int → Option Int → Hp → VK → Prop} {g : D → Option Int → Option Int → Option SV} {fe : FE} {fl fh : FO} (hg : Zx0 Z r g) (h : Ze Z (slF g fe fl fh) σ H Q) : tSl r (Ze Z fe) (Zjt Z fl) (Zjt Z fh) σ H Q := by
  obtain ⟨F, δ, own, rv, δ', s, e, k⟩ := h
  obtain ⟨⟨rv1, δ1⟩, e1, e⟩ := Option.bind_eq_some_iff.mp e
  obtain ⟨⟨lo, δ2⟩, e2, e⟩ := Option.bind_eq_some_iff.mp e
  obtain ⟨⟨hi, δ3⟩, e3, e⟩ := Option.bind_eq_some_iff.mp e
  obtain ⟨d, e4, e⟩ := Option.bind_eq_some_iff.mp e
  obtain ⟨sv, e5, e⟩ := Option.bind_eq_some_iff.mp e
  cases e
  refine ⟨F, δ, own, rv1, δ1, s, e1, fun v H1 F1 own1 sH1 sF1 s1 r1 => ?_⟩
  obtain ⟨F1', sF1', s1', r1'⟩ := s1.settleR r1
  refine ⟨F1', δ1, own1, lo, δ2, s1', e2, fun H2 F2 own2 sH2 sF2 s2 => ⟨F2, δ2, own2, hi, δ3, s2, e3, fun H3 F3 own3 sH3 sF3 s3 => ?_⟩⟩
  exact hg F3 H3 σ δ3 own3 v d lo hi sv Q s3 (s3.rd (r1'.mono (sF2.trans sF3)) e4) e5 fun q H4 F4 ns sH4 sF4 s4 t4 =>
    k q H4 F4 own3 (sH1.trans (sH2.trans (sH3.trans sH4))) (sF1.trans (sF1'.trans (sF2.trans (sF3.trans sF4)))) s4 ⟨ns, t4⟩
end
noncomputable def cutD (xs : List D) (lo hi : Option Int) : List D := (xs.drop (HT.sIx xs.length 0 lo)).take (HT.sIx xs.length xs.length hi - HT.sIx xs.length 0 lo)
theorem Reps.cut {F : Hp} {xs : List D} {vs : List V} (r : Reps K F xs vs) (lo hi : Option Int) : Reps K F (cutD xs lo hi) (cutV vs lo hi) := by
  unfold cutD cutV
  rw [r.length]
  exact (r.drop _).take _
noncomputable def rSlS : V → Option Int → Option Int → Hp → VK → Prop := fun x lo hi H Q => ∃ z, x = .str z ∧ z.length ≤ PySem.sizeLine ∧ Q (.str (Txt.slice z lo hi)) H
theorem Zx1 {X : Cx} : SlR X rSlS := by
  intro pins s σ H x v vl vu lo hi sl Q I rx hs pl pu h
  obtain ⟨z, rfl, hz, q⟩ := h
  obtain ⟨t, rfl⟩ := rx
  refine ⟨"str", _, F.slot_str_getitem.lookup, typeIs_str _ _ _, ?_⟩
  have fin : ∀ (t' : Tok) (k : Nat), EP X pins σ Q (.str (Txt.slice z lo hi) t') { s with toks := k } := fun t' k => ⟨.str (Txt.slice z lo hi), H, I.tok _, ⟨_, rfl⟩, q⟩
  cases pl with
  | none => cases pu with
    | none => exact wpAny_getItem_str_slice (l := none) (u := none) (st := none) hs rfl (post_val_or_str ⟨Nat.le_trans (Txt.slice_le z _ _) hz, fin⟩)
    | int j tj => exact wpAny_getItem_str_slice (l := none) (u := some (j, tj)) (st := none) hs rfl (post_val_or_str ⟨Nat.le_trans (Txt.slice_le z _ _) hz, fin⟩)
  | int i ti => cases pu with
    | none => exact wpAny_getItem_str_slice (l := some (i, ti)) (u := none) (st := none) hs rfl (post_val_or_str ⟨Nat.le_trans (Txt.slice_le z _ _) hz, fin⟩)
    | int j tj => exact wpAny_getItem_str_slice (l := some (i, ti)) (u := some (j, tj)) (st := none) hs rfl (post_val_or_str ⟨Nat.le_trans (Txt.slice_le z _ _) hz, fin⟩)
@[simp] noncomputable def slD : D → Option Int → Option Int → Option SV
  | .lst xs, lo, hi => some (.ol (cutD xs lo hi))
  | .str z, lo, hi => if z.length ≤ PySem.sizeLine then some (.fz (.str (Txt.slice z lo hi))) else none
  | _, _, _ => none
theorem p_sl : Zx0 Z (fun x lo hi H Q => rSlL K x lo hi H Q ∨ rSlS x lo hi H Q) slD := by
  intro F H σ δ own x d lo hi sv Q s r1 e k
  unfold slD at e
  split at e
  · cases e
    obtain ⟨a, vs, ex, ha, ra⟩ := r1.lst s.le
    exact .inl ⟨a, vs, ex, ha, fun p hp => k.lst s (ra.cut _ _) hp⟩
  · split at e
    · rename_i hz
      cases e
      exact .inr ⟨_, r1.str, hz, k.fz s (.str _)⟩
    · cases e
  · cases e
end DL
namespace L2
open PySem PySem.Spec PyProof.Rows
section
variable {X : Cx} {tg : Expr}
theorem Zew : ∀ {xs : List Str} {us : List Value}, Vals (xs.map V.str) us → ∃ l : List (Str × Tok), us = strValues l ∧ l.map (·.1) = xs
  | [], _, r => by rw [List.map_nil] at r; cases r; exact ⟨[], rfl, rfl⟩
  | x :: xs, _, r => by
    rw [List.map_cons] at r
    cases r with
    | cons h t =>
      obtain ⟨tk, rfl⟩ := h
      obtain ⟨l, e1, e2⟩ := Zew t
      exact ⟨(x, tk) :: l, by rw [e1]; rfl, by rw [List.map_cons, e2]⟩
noncomputable def Z0z (K : PySem.W.Frag) : V → List V → Hp → VK → Prop := fun x xs H Q => ∃ sep p ys, x = .str sep ∧ xs = [.ref p] ∧ SqL K H p (ys.map V.str) ∧ JoinOk sep ys = true ∧ Q (.str (Txt.join sep ys)) H
theorem Zup : MtR X "str.join" (Z0z X.K) := by
  intro pins s σ H x xs v us Q I rx rs h
  obtain ⟨sep, p, ys, rfl, rfl, hq, hok, q⟩ := h
  obtain ⟨t, rfl⟩ := rx
  obtain ⟨u, rfl, ru⟩ := Zf2 rs
  cases ru
  obtain ⟨its, rv, pl, hz⟩ := I.list hq
  obtain ⟨l, e1, e2⟩ := Zew rv
  subst e1
  exact SC.join pl.isList e2 hok fun t' k => ⟨.str (Txt.join sep ys), H, I.tok _, ⟨_, rfl⟩, q⟩
inductive TyX (K : PySem.W.Frag) (H : Hp) : V → String → Prop where
  | non : TyX K H .non "NoneType"
  | bl (x : Bool) : TyX K H (.bl x) "bool"
  | int (i : Int) : TyX K H (.int i) "int"
  | str (x : Str) : TyX K H (.str x) "str"
  | lst {a : Addr} {xs : List V} (e : SqL K H a xs) : TyX K H (.ref a) "list"
  | tup {a : Addr} {xs : List V} (e : SqT K H a xs) : TyX K H (.ref a) "tuple"
  | dK {a : Addr} {kvs : List (Key × V)} {ep : Nat} (e : H a = some (.dK kvs ep)) : TyX K H (.ref a) "dict"
  | dT {a : Addr} {kvs : List (List Key × V)} {ep : Nat} {bs : List Addr} (e : H a = some (.dT kvs ep bs)) : TyX K H (.ref a) "dict"
theorem Zrb {pins : List (Addr × Obj)} {σ : L2.St} {H : Hp} {s : Shared} {A : Around} {E : Value → Shared → Prop} {Q : Value → Shared → Prop} {c : Value} {b : Bool} {x : V} {u : Value} {T : String} (I : Inv X pins σ H s) (rx : RelV x u) (ty : TyX X.K H x T) (e : PySem.W.kitOne X.K (.type T) c = some b) (h : ∀ tk, Q (.bool b) { s with toks := tk }) :
    wpAny (model X.prog X.w) A (call (.builtin "isinstance") [u, c]) Q E s := by
  cases ty with
  | non => cases (show u = Value.none from rx); exact PySem.W.kia_one PySem.W.kitx_none I.kIn True.intro e (fun z => nomatch z) h
  | bl y => cases (show u = Value.bool y from rx); exact PySem.W.kia_one PySem.W.kitx_bool I.kIn True.intro e (fun z => nomatch z) h
  | int i => obtain ⟨t, q⟩ := (show ∃ t, u = Value.int i t from rx); cases q; exact PySem.W.kia_one PySem.W.kitx_int I.kIn True.intro e (fun z => nomatch z) h
  | str y => obtain ⟨t, q⟩ := (show ∃ t, u = Value.str y t from rx); cases q; exact PySem.W.kia_one PySem.W.kitx_str I.kIn True.intro e (fun z => nomatch z) h
  | @lst a xs ea =>
    cases (show u = Value.ref a from rx)
    obtain ⟨its, _, pl, _⟩ := I.list ea
    obtain ⟨o, h1, h2, _⟩ := pl.isList
    exact PySem.W.kia_one PySem.W.kitx_list I.kIn ⟨o, h1, h2⟩ e (fun z => nomatch z) h
  | @tup a xs ea =>
    cases (show u = Value.ref a from rx)
    obtain ⟨its, _, pl, _⟩ := I.tuple ea
    obtain ⟨o, h1, h2, _⟩ := pl
    exact PySem.W.kia_one PySem.W.kitx_tuple I.kIn ⟨o, h1, h2⟩ e (fun z => nomatch z) h
  | @dK a kvs ep ea =>
    cases (show u = Value.ref a from rx)
    obtain ⟨_, _, vs, _, p⟩ := (show Zcp X.prog X.w H s.heap a (.dK kvs ep) from I.hok a _ ea)
    obtain ⟨o, es, h1, h2, _⟩ := p
    exact PySem.W.kia_one PySem.W.kitx_dict I.kIn ⟨o, h1, h2.1⟩ e (fun z => nomatch z) h
  | @dT a kvs ep bs ea =>
    cases (show u = Value.ref a from rx)
    obtain ⟨_, _, xs, _, o, es, h1, h2, _⟩ := (show Zcp X.prog X.w H s.heap a (.dT kvs ep bs) from I.hok a _ ea)
    exact PySem.W.kia_one PySem.W.kitx_dict I.kIn ⟨o, h1, h2.1⟩ e (fun z => nomatch z) h
noncomputable def rIsI (K : PySem.W.Frag) (c : String) : List V → Hp → VK → Prop := fun xs H Q => ∃ x t b, xs = [x, .ty c] ∧ TyX K H x t ∧ PySem.W.kitOne K (.type t) (.type c) = some b ∧ Q (.bl b) H
theorem Zrc {c : String} : Zes X (.builtin "isinstance") (rIsI X.K c) := by
  intro pins s σ H xs us Q I r h
  obtain ⟨x, t, b, rfl, ty, e, q⟩ := h
  obtain ⟨u, w', rfl, r1, r2⟩ := Zw1 r
  cases r2
  exact Zrb I r1 ty e fun tk => ⟨.bl b, H, I.tok _, rfl, q⟩
end
end L2
namespace DL
open PySem PySem.Spec PyProof.Rows L2
variable {K : PySem.W.Frag}
noncomputable def Z00 (xs : List D) : List D := xs.zipIdx.map fun p => .tup [.int (p.2 : Nat), p.1]
section
variable {Z : Ent K} {H : Hp} {σ : L2.St} {Q : VK}
@[simp] noncomputable def Z2f (fd : FD) : FD := fun δ => (fd δ).bind fun p => match p.1 with
  | [.lst xs] => some (Z00 xs, p.2)
  | _ => none
@[simp] noncomputable def D.ty : D → String
  | .str _ => "str"
  | .int _ => "int"
  | .lst _ => "list"
  | .dK _ _ => "dict"
  | .dT _ _ => "dict"
  | _ => "?"
@[simp] noncomputable def tyOk (T : String) (d : D) : Bool := T == d.ty && (T == "str" || T == "list" || T == "dict")
theorem Zx2 {F H : Hp} {d : D} {x : V} {T : String} (le : Same F H) (r : RepN K F H d x) (h : tyOk T d = true) : tyV K T x H := by
  unfold tyOk at h
  simp only [Bool.and_eq_true, beq_iff_eq] at h
  obtain ⟨h1, h2⟩ := h
  subst h1
  cases d with
  | str y => rw [r.str]; rfl
  | lst xs =>
    obtain ⟨a, vs, e, ha, _⟩ := r.lst le
    subst e
    exact .inl ⟨rfl, vs, ha⟩
  | dK ks vs =>
    obtain ⟨a, kvs, e, ⟨ep, ha⟩, _⟩ := r.dK le
    subst e
    exact .inr (.inr (.inl ⟨rfl, .inl ⟨kvs, ep, ha⟩⟩))
  | dT ks vs =>
    obtain ⟨a, kvs, e, ⟨ep, bs, ha⟩, _⟩ := r.dT le
    subst e
    exact .inr (.inr (.inl ⟨rfl, .inr ⟨kvs, ep, bs, ha⟩⟩))
  | non => exact absurd (show ("?" == "str" || "?" == "list" || "?" == "dict") = true from h2) (by decide)
  | bl b => exact absurd (show ("?" == "str" || "?" == "list" || "?" == "dict") = true from h2) (by decide)
  | int i => exact absurd (show ("int" == "str" || "int" == "list" || "int" == "dict") = true from h2) (by decide)
  | tup xs => exact absurd (show ("?" == "str" || "?" == "list" || "?" == "dict") = true from h2) (by decide)
  | exc C ks vs => exact absurd (show ("?" == "str" || "?" == "list" || "?" == "dict") = true from h2) (by decide)
@[simp] noncomputable def bmF (T : String) (g : List D → Option SV) (fo : FE) (fa : FA) : FE := fun δ => (fo δ).bind fun p => (rdv p.1 p.2).bind fun d0 => if tyOk T d0 = true then (fa p.2).bind fun q => (Zgn (p.1 :: q.1) q.2).bind fun ds => (g ds).bind fun sv => some (.tmp sv, q.2) else none
noncomputable def Zrd (Z : Ent K) (r : V → List V → Hp → VK → Prop) (g : List D → Option SV) : Prop := Zha Z (fun vs H Q => ∃ x xs, vs = x :: xs ∧ r x xs H Q) g
theorem l_bm {T : String} {r : V → List V → Hp → VK → Prop} {g : List D → Option SV} {fo : FE} {fa : FA} (hg : Zrd Z r g) (h : Ze Z (bmF T g fo fa) σ H Q) : tBM K T r (Ze Z fo) (Zfh Z fa) σ H Q := by
  obtain ⟨F, δ, own, rv, δ', s, e, k⟩ := h
  obtain ⟨⟨rv1, δ1⟩, e1, e⟩ := Option.bind_eq_some_iff.mp e
  obtain ⟨d0, e2, e⟩ := Option.bind_eq_some_iff.mp e
  dsimp only at e
  split at e
  · rename_i ht
    obtain ⟨⟨rvs, δ2⟩, e3, e⟩ := Option.bind_eq_some_iff.mp e
    obtain ⟨ds, e4, e⟩ := Option.bind_eq_some_iff.mp e
    obtain ⟨sv, e5, e⟩ := Option.bind_eq_some_iff.mp e
    cases e
    refine ⟨F, δ, own, rv1, δ1, s, e1, fun v H1 F1 own1 sH1 sF1 s1 r1 => ?_⟩
    obtain ⟨F1', sF1', s1', r1'⟩ := s1.settleR r1
    refine ⟨Zx2 s1'.le (s1'.rd r1' e2) ht, F1', δ1, own1, rvs, δ2, s1', e3, fun vs H2 F2 own2 sH2 sF2 s2 r2 => ?_⟩
    obtain ⟨x, xs, ex, q⟩ := hg F2 H2 σ δ2 own2 (v :: vs) ds sv Q s2 (s2.rdAll (.cons (r1'.mono sF2) r2) e4) e5 fun q H4 F4 ns sH4 sF4 s4 t4 =>
      k q H4 F4 own2 (sH1.trans (sH2.trans sH4)) (sF1.trans (sF1'.trans (sF2.trans sF4))) s4 ⟨ns, t4⟩
    injection ex with ex1 ex2
    subst ex1 ex2
    exact q
  · cases e
end
@[simp] noncomputable def strs? : List D → Option (List Str)
  | [] => some []
  | .str x :: r => (strs? r).bind fun t => some (x :: t)
  | _ => none
theorem Zk5 {F : Hp} : ∀ {ds : List D} {xs : List Str} {vs : List V}, strs? ds = some xs → Reps K F ds vs → vs = xs.map V.str
  | [], _, _, e, r => by cases e; cases r; rfl
  | d :: r, xs, vs, e, q => by
    cases q with
    | cons h t =>
      unfold strs? at e
      split at e
      · rename_i e0; cases e0
      · rename_i x r' e0
        cases e0
        obtain ⟨ys, e1, e2⟩ := Option.bind_eq_some_iff.mp e
        cases e2
        cases h
        rw [Zk5 e1 t]; rfl
      · cases e
variable {Z : Ent K}
@[simp] noncomputable def D.pyTy : D → String
  | .non => "NoneType"
  | .bl _ => "bool"
  | .int _ => "int"
  | .str _ => "str"
  | .tup _ => "tuple"
  | .lst _ => "list"
  | .dK _ _ => "dict"
  | .dT _ _ => "dict"
  | .exc _ _ _ => "?"
@[simp] noncomputable def D.isExc : D → Bool
  | .exc _ _ _ => true
  | _ => false
theorem Zuq {F H : Hp} {d : D} {x : V} (le : Same F H) (r : RepN K F H d x) (hx : d.isExc = false) : TyX K H x d.pyTy := by
  cases d with
  | exc C ks vs => cases hx
  | non => rw [r.non]; exact .non
  | bl b => rw [r.bl]; exact .bl b
  | int i => rw [r.int]; exact .int i
  | str y => rw [r.str]; exact .str y
  | tup xs => obtain ⟨a, vs, e, ha, _⟩ := r.tup le; subst e; exact .tup ha
  | lst xs =>
    obtain ⟨a, vs, e, ha, _⟩ := r.lst le
    subst e
    exact .lst ha
  | dK ks vs => obtain ⟨a, kvs, e, ⟨ep, ha⟩, _⟩ := r.dK le; subst e; exact .dK ha
  | dT ks vs => obtain ⟨a, kvs, e, ⟨ep, bs, ha⟩, _⟩ := r.dT le; subst e; exact .dT ha
@[simp] noncomputable def isiD (c : String) (d : D) : Option SV := if d.isExc = true then none else some (.fz (.bl (d.pyTy == c || (c == "int" && d.pyTy == "bool"))))
theorem Z01 {c : String} (hk : ∀ d : D, d.isExc = false → PySem.W.kitOne K (.type d.pyTy) (.type c) = some (d.pyTy == c || (c == "int" && d.pyTy == "bool"))) : Zuf Z (fun x H Q => rIsI K c [x, .ty c] H Q) (isiD c) := by
  intro F H σ δ own x d sv Q s r e k
  unfold isiD at e
  split at e
  · cases e
  · rename_i hx
    cases e
    have hx' : d.isExc = false := by cases z : d.isExc with
      | true => exact absurd z hx
      | false => rfl
    exact ⟨x, _, _, rfl, Zuq s.le r hx', hk d hx', k.fz s (.bl _)⟩
@[simp] noncomputable def lenD : List D → Option SV
  | [.lst xs] => some (.fz (.int (xs.length : Nat)))
  | [.tup xs] => some (.fz (.int (xs.length : Nat)))
  | [.str x] => if x.length ≤ PySem.sizeLine then some (.fz (.int (x.length : Nat))) else none
  | _ => none
theorem Z02 : Zha Z (fun xs H Q => (∃ p ys, xs = [V.ref p] ∧ (SqL K H p ys ∨ SqT K H p ys) ∧ Q (.int ys.length) H) ∨ (∃ z, xs = [V.str z] ∧ z.length ≤ PySem.sizeLine ∧ Q (.int z.length) H)) lenD := by
  intro F H σ δ own vs ds sv Q s r e k
  unfold lenD at e
  split at e
  · cases e
    cases r with
    | cons h t =>
      cases t
      obtain ⟨a, us, ex, ha, ra⟩ := h.lst s.le
      subst ex
      exact .inl ⟨a, us, rfl, .inl ha, by rw [← ra.length]; exact k.fz s (.int _)⟩
  · cases e
    cases r with
    | cons h t =>
      cases t
      obtain ⟨a, us, ex, ha, ra⟩ := h.tup s.le
      subst ex
      exact .inl ⟨a, us, rfl, .inr ha, by rw [← ra.length]; exact k.fz s (.int _)⟩
  · split at e
    · rename_i hz
      cases e
      cases r with
      | cons h t =>
        cases t
        exact .inr ⟨_, by rw [h.str], hz, k.fz s (.int _)⟩
    · cases e
  · cases e
@[simp] noncomputable def Ze7 : List D → Option SV
  | [.lst xs] => some (.fz (.tup xs))
  | _ => none
theorem Zur : Zha Z (fun xs H Q => ∃ p ys, xs = [V.ref p] ∧ ((SqL K H p ys ∧ ∀ l, H l = none → Q (.ref l) (upd H l (.tup ys))) ∨ (SqT K H p ys ∧ Q (.ref p) H))) Ze7 := by
  intro F H σ δ own vs ds sv Q s r e k
  unfold Ze7 at e
  split at e
  · cases e
    cases r with
    | cons h t =>
      cases t
      obtain ⟨a, us, ex, ha, ra⟩ := h.lst s.le
      subst ex
      exact ⟨a, us, rfl, .inl ⟨ha, fun l hl => k.tup s ra hl⟩⟩
  · cases e
@[simp] noncomputable def intD : List D → Option SV
  | [.int i] => some (.fz (.int i))
  | [.bl b] => some (.fz (.int (if b then 1 else 0)))
  | _ => none
theorem Z03 : Zha Z (fun xs H Q => (∃ i, xs = [V.int i] ∧ Q (.int i) H) ∨ ∃ k, xs = [V.bl k] ∧ Q (.int (if k then 1 else 0)) H) intD := by
  intro F H σ δ own vs ds sv Q s r e k
  unfold intD at e
  split at e
  · cases e
    cases r with
    | cons h t => cases t; exact .inl ⟨_, by rw [h.int], k.fz s (.int _)⟩
  · cases e
    cases r with
    | cons h t => cases t; exact .inr ⟨_, by rw [h.bl], k.fz s (.int _)⟩
  · cases e
section
variable {X : Cx} {Z : Ent X.K} {a b c : Expr} {fa fb fc : FE} {pos : Pos}
theorem Zd (i : Nat) {x : Str} {pos : Pos} (hN : X.N[i]? = some x := by rfl) (hv : Vis X.env.scope x := by first | exact Or.inl rfl | exact Or.inr (Or.inl rfl) | exact Or.inr (Or.inr rfl)) (hd : (x == ("__debug__" : Str)) = false := by decide)
    (hcd : (x == ("__classdict__" : Str)) = false := by decide) : PE X (.Name x pos) (Ze Z (Zb i)) := (Zhf hN hv hd hcd).imp fun _ _ _ h => Z0m h
theorem Zk {i : Int} {j : Nat} : PE X (.Constant (.int i) j pos) (Ze Z (Za (.int i))) := Znu.imp fun _ _ _ h => Zfi (fun _ => .int _) h
theorem e_bl {i : Bool} {j : Nat} : PE X (.Constant (.bool i) j pos) (Ze Z (Za (.bl i))) := Z0b.imp fun _ _ _ h => Zfi (fun _ => .bl _) h
theorem Zgs {j : Nat} : PE X (.Constant .none j pos) (Ze Z (Za .non)) := Zwf.imp fun _ _ _ h => Zfi (fun _ => .non) h
theorem Zag {i : Str} {j : Nat} : PE X (.Constant (.str i) j pos) (Ze Z (Za (.str i))) := Znv.imp fun _ _ _ h => Zfi (fun _ => .str _) h
theorem Zus {x : Str} {y : Str} {t : Tok} (hm : X.mg x = some (.str y t)) (hg : Gl X x := by rfl) (hd : (x == ("__debug__" : Str)) = false := by decide) : PE X (.Name x pos) (Ze Z (Za (.str y))) :=
  (Znw (v := .str y) hg hm ⟨t, rfl⟩ hd).imp fun _ _ _ h => Zfi (fun _ => .str _) h
theorem Zk6 {x : Str} {y : Int} {t : Tok} (hm : X.mg x = some (.int y t)) (hg : Gl X x := by rfl) (hd : (x == ("__debug__" : Str)) = false := by decide) : PE X (.Name x pos) (Ze Z (Za (.int y))) :=
  (Znw (v := .int y) hg hm ⟨t, rfl⟩ hd).imp fun _ _ _ h => Zfi (fun _ => .int _) h
theorem Zre {op : Operator} {r : R2} {g : D → D → Option SV} (ho : OpR X (binaryOp op) r) (hp : Zbr Z r g) (ha : PE X a (Ze Z fa)) (hb : PE X b (Ze Z fb)) : PE X (.BinOp a op b pos) (Ze Z (binF g fa fb)) := (Z0e ho ha hb).imp fun _ _ _ h => Zom hp h
theorem Zcc (ha : PE X a (Ze Z fa)) (hb : PE X b (Ze Z fb)) : PE X (.BinOp a .Add b pos) (Ze Z (binF addD fa fb)) := Zre Zuo Z0x ha hb
theorem Zgt (ha : PE X a (Ze Z fa)) (hb : PE X b (Ze Z fb)) : PE X (.BinOp a .FloorDiv b pos) (Ze Z (binF Zfk fa fb)) := Zre Ztw Zxv ha hb
theorem Zc4 (ha : PE X a (Ze Z fa)) (hb : PE X b (Ze Z fb)) : PE X (.BinOp a .Mod b pos) (Ze Z (binF modD fa fb)) := Zre Zww Z0w ha hb
theorem Zx3 {op : CmpOp} {r : R2} {g : D → D → Option SV} (ho : OpR X (compareOp op) r) (hp : Zbr Z r g) (ha : PE X a (Ze Z fa)) (hb : PE X b (Ze Z fb)) (hm : behindInMarks op b = false) : PE X (.Compare a [op] [b] pos) (Ze Z (binF g fa fb)) := (Zty ho ha hb hm).imp fun _ _ _ h => Zom hp h
theorem Zk7 {op : CmpOp} {r : R2} {g : D → D → Option SV} (ho : OpR X (compareOp op) r) (hp : Zbr Z r g) (ha : PE X a (Ze Z fa)) (hb : PE X b (Ze Z fb)) (hm : behindInMarks op b = false) : PT X (.Compare a [op] [b] pos) (Zaq Z (Zr (binF g fa fb))) :=
  (Ztz ho ha hb hm).imp fun σ H Q h => by
    obtain ⟨F, δ, own, rv, δ', s, e, k⟩ := Zoo h
    exact Zom hp ⟨F, δ, own, rv, δ', s, e, k⟩
theorem t_lt (ha : PE X a (Ze Z fa)) (hb : PE X b (Ze Z fb)) : PT X (.Compare a [.Lt] [b] pos) (Zaq Z (Zr (binF ltD fa fb))) := Zk7 Z0g p_lt ha hb (Zgi _)
theorem t_gt (ha : PE X a (Ze Z fa)) (hb : PE X b (Ze Z fb)) : PT X (.Compare a [.Gt] [b] pos) (Zaq Z (Zr (binF gtD fa fb))) := Zk7 Z0h p_gt ha hb (Zgi _)
theorem Zx4 (ha : PE X a (Ze Z fa)) (hb : PE X b (Ze Z fb)) : PT X (.Compare a [.Is] [b] pos) (Zaq Z (Zr (binF isND fa fb))) := Zk7 Zwz Z0y ha hb (Zgi _)
theorem Zl6 (ha : PE X a (Ze Z fa)) (hb : PE X b (Ze Z fb)) : PT X (.Compare a [.IsNot] [b] pos) (Zaq Z (Zr (binF Zk4 fa fb))) := Zk7 Ztx Zxy ha hb (Zgi _)
theorem Zl7 {f : FT} (ha : PT X a (Zaq Z f)) : PW X (.BoolOp .And [a] pos) (Zaq Z f) := Ztr ha
theorem Zx5 {f : FT} (ha : PT X a (Zaq Z f)) : PW X (.BoolOp .Or [a] pos) (Zaq Z f) := Zwh ha
theorem Zrf {f g : FT} {rest : List Expr} (ha : PT X a (Zaq Z f)) (hb : PW X (.BoolOp .And (b :: rest) pos) (Zaq Z g)) : PW X (.BoolOp .And (a :: b :: rest) pos) (Zaq Z (andF f g)) := (Zwi ha hb).imp fun _ _ _ h => Z0p h
theorem w_or {f g : FT} {rest : List Expr} (ha : PT X a (Zaq Z f)) (hb : PW X (.BoolOp .Or (b :: rest) pos) (Zaq Z g)) : PW X (.BoolOp .Or (a :: b :: rest) pos) (Zaq Z (orF f g)) := (Z0c ha hb).imp fun _ _ _ h => l_or h
theorem Zrg {f : FT} (ha : PT X a (Zaq Z f)) : PT X (.UnaryOp .Not a pos) (Zaq Z (notF f)) := (Zwj ha).imp fun _ _ _ h => Z0q h
theorem Zrh (h : PE X a (Ze Z fa)) (he : ∀ whole, isTrue a X.env whole = (do let v ← whole; standAt a.pos; holding [v] (truthy v)) := by intro _; rfl) : PT X a (Zaq Z (Zr fa)) := (Zwg h he).imp fun _ _ _ h => Zug h
theorem Z04 {op : BoolOp} (h : PE X a (Ze Z fa)) : PE X (.BoolOp op [a] pos) (Ze Z fa) := Zwl h
theorem Z05 {rest : List Expr} (ha : PE X a (Ze Z fa)) (hb : PE X (.BoolOp .And (b :: rest) pos) (Ze Z fb)) : PE X (.BoolOp .And (a :: b :: rest) pos) (Ze Z (andV fa fb)) := (Zwm ha hb).imp fun _ _ _ h => Zxn h
theorem e_if {t : FT} (hc : PT X c (Zaq Z t)) (ha : PE X a (Ze Z fa)) (hb : PE X b (Ze Z fb)) : PE X (.IfExp c a b pos) (Ze Z (ifF t fa fb)) := (Zqm hc ha hb).imp fun _ _ _ h => l_if h
theorem Zba : PA X [] (Zfh Z Zi) := Zc6.imp fun _ _ _ h => Zq8 h
theorem Zm {es : List Expr} {fr : FA} (ha : PE X a (Ze Z fa)) (hr : PA X es (Zfh Z fr)) (hs : starEach (a :: es) X.env = (false, eval a X.env) :: starEach es X.env := by rfl) : PA X (a :: es) (Zfh Z (Zc fa fr)) := (Zb9 ha hr hs).imp fun _ _ _ h => Zok h
theorem Zcs : PA X [] (Zem Z Zt) := Zc6.imp fun _ _ _ h => Zon h
theorem Zaz {es : List Expr} {fr : FD} (ha : PE X a (Ze Z fa)) (hr : PA X es (Zem Z fr)) (hs : starEach (a :: es) X.env = (false, eval a X.env) :: starEach es X.env := by rfl) : PA X (a :: es) (Zem Z (Zl fa fr)) := (Zb9 ha hr hs).imp fun _ _ _ h => Znb h
theorem Zju {es : List Expr} {fd : FD} {k : Nat} (h : PA X es (Zem Z fd)) : PE X (.Tuple es k pos) (Ze Z (tupF fd)) := (Zw2 h).imp fun _ _ _ h => Z0n h
theorem Ze8 {es : List Expr} {fd : FD} (h : PA X es (Zem Z fd)) : PE X (.List es pos) (Ze Z (lstF fd)) := (Zlx h).imp fun _ _ _ h => Z0o h
theorem Zhl : PO X none (Zjt Z Zft) := fun pins s σ H Q I h => Zt1 pins s σ H Q I (Zra h)
theorem Zfu (ha : PE X a (Ze Z fa)) : PO X (some a) (Zjt Z (Zhb fa)) := fun pins s σ H Q I h => Zt2 ha pins s σ H Q I (Zxz h)
theorem e_sl {lo hi : Option Expr} {fl fh : FO} {p2 : Pos} (ha : PE X a (Ze Z fa)) (hl : PO X lo (Zjt Z fl)) (hh : PO X hi (Zjt Z fh)) : PE X (.Subscript a (.Slice lo hi none p2) pos) (Ze Z (slF slD fa fl fh)) :=
  (Zqv (Zt5.or Zx1) ha hl hh).imp fun _ _ _ h => l_sl p_sl h
theorem Za0 {k n : Nat} {f : Addr} {fd : FuncData} {ps : List Str} {g : List D → Option SV} {x : Str} {p : Pos} {es : List Expr} {fr : FA} (F : FnOk X.prog X.w X.K X.mg X.base CX0 k f fd ps (spOf X.K n g)) (hr : Room k X.A) (hm : X.mg x = some (.ref f)) (hk : PySem.W.keepIn X.K (.ref f) = true) (hb : Zay X.K fd ps [])
    (ha : PA X (a :: es) (Zfh Z fr)) (hg : Gl X x := by rfl) (hdb : (x == ("__debug__" : Str)) = false := by decide) (he : starEach (a :: es) X.env = (false, eval a X.env) :: starEach es X.env := by rfl) (hpl : (backTo pos (starEach es X.env)).any (·.1) = false := by rfl) :
    PE X (.Call (.Name x p) (a :: es) [] pos) (Ze Z (Zch n g fr)) := (Zt0 F hr hg hm hk hb .nil Z0k ha hdb he hpl).imp fun _ _ _ h => Zxl h
theorem Zor {id : String} {r : List V → Hp → VK → Prop} {g : List D → Option SV} {x : Str} {p : Pos} {es : List Expr} {fr : FA} (hc : Zes X (.builtin id) r) (hp : Zha Z r g) (hm : X.mg x = none) (hv : bootBuiltins x = some (.builtin id)) (ha : PA X (a :: es) (Zfh Z fr)) (hg : Gl X x := by rfl) (hn : x ≠ "__name__" := by decide) (hdb : (x == ("__debug__" : Str)) = false := by decide)
    (he : starEach (a :: es) X.env = (false, eval a X.env) :: starEach es X.env := by rfl) (hpl : (backTo pos (starEach es X.env)).any (·.1) = false := by rfl) : PE X (.Call (.Name x p) (a :: es) [] pos) (Ze Z (Zb7 g fr)) := (Zf9 hc hg hm hv ha hn hdb he hpl).imp fun _ _ _ h => Zol hp h
theorem Zk8 {T : String} {r : List V → Hp → VK → Prop} {g : List D → Option SV} {x : Str} {p : Pos} {es : List Expr} {fr : FA} (hc : Zes X (.type T) r) (hp : Zha Z r g) (hm : X.mg x = none) (hv : bootBuiltins x = some (.type T)) (ha : PA X (a :: es) (Zfh Z fr)) (hg : Gl X x := by rfl) (hn : x ≠ "__name__" := by decide) (hdb : (x == ("__debug__" : Str)) = false := by decide)
    (he : starEach (a :: es) X.env = (false, eval a X.env) :: starEach es X.env := by rfl) (hpl : (backTo pos (starEach es X.env)).any (·.1) = false := by rfl) : PE X (.Call (.Name x p) (a :: es) [] pos) (Ze Z (Zb7 g fr)) := (Zjd hc hg hm hv ha hn hdb he hpl).imp fun _ _ _ h => Zol hp h
theorem Zgu {p : Pos} (hm : X.mg "len" = none) (ha : PE X a (Ze Z fa)) (hg : Gl X "len" := by rfl) (he : starEach [a] X.env = (false, eval a X.env) :: starEach [] X.env := by rfl) (hpl : (backTo pos (starEach [] X.env)).any (·.1) = false := by rfl) : PE X (.Call (.Name "len" p) [a] [] pos) (Ze Z (Zb7 lenD (Zc fa Zi))) :=
  Zor (Zdy.or Zjg) Z02 hm PySem.boot_len (Zm ha Zba he) hg (by decide) (by decide) he hpl
theorem Zh9 {p : Pos} (hm : X.mg "tuple" = none) (ha : PE X a (Ze Z fa)) (hg : Gl X "tuple" := by rfl) (he : starEach [a] X.env = (false, eval a X.env) :: starEach [] X.env := by rfl) (hpl : (backTo pos (starEach [] X.env)).any (·.1) = false := by rfl) : PE X (.Call (.Name "tuple" p) [a] [] pos) (Ze Z (Zb7 Ze7 (Zc fa Zi))) :=
  Zk8 Ze5 Zur hm boot_tuple (Zm ha Zba he) hg (by decide) (by decide) he hpl
theorem Zx6 {p : Pos} (hm : X.mg "int" = none) (ha : PE X a (Ze Z fa)) (hg : Gl X "int" := by rfl) (he : starEach [a] X.env = (false, eval a X.env) :: starEach [] X.env := by rfl) (hpl : (backTo pos (starEach [] X.env)).any (·.1) = false := by rfl) : PE X (.Call (.Name "int" p) [a] [] pos) (Ze Z (Zb7 intD (Zc fa Zi))) :=
  Zk8 Zn4 Z03 hm boot_int (Zm ha Zba he) hg (by decide) (by decide) he hpl
theorem Zut {x : Str} {c : String} {p p2 : Pos} (hm : X.mg "isinstance" = none) (hmc : X.mg x = none) (hv : bootBuiltins x = some (.type c)) (hk : ∀ d : D, d.isExc = false → PySem.W.kitOne X.K (.type d.pyTy) (.type c) = some (d.pyTy == c || (c == "int" && d.pyTy == "bool"))) (ha : PE X a (Ze Z fa)) (hg : Gl X "isinstance" := by rfl) (hgc : Gl X x := by rfl)
    (hn : x ≠ "__name__" := by decide) (hdb : (x == ("__debug__" : Str)) = false := by decide)
    (he : starEach [a, .Name x p2] X.env = (false, eval a X.env) :: starEach [.Name x p2] X.env := by rfl) (he2 : starEach [.Name x p2] X.env = (false, eval (.Name x p2) X.env) :: starEach [] X.env := by rfl) (hpl : (backTo pos (starEach [.Name x p2] X.env)).any (·.1) = false := by rfl) :
    PE X (.Call (.Name "isinstance" p) [a, .Name x p2] [] pos) (Ze Z (unF (isiD c) fa)) :=
  (Zf9 Zrc hg hm boot_isinstance (Zb9 ha (Zb9 (Ztq (v := .ty c) hgc hmc hv rfl hn hdb) Zc6 he2) he) (by decide) (by decide) he hpl).imp fun σ H Q h => by
    have h2 := l_un (Z01 hk) h
    exact h2
theorem Zuu {op op' : CmpOp} {r r' : R2} {g g' : D → D → Option SV} (ho : OpR X (compareOp op) r) (hp : Zbr Z r g) (ho' : OpR X (compareOp op') r') (hp' : Zbr Z r' g') (ha : PE X a (Ze Z fa)) (hb : PE X b (Ze Z fb)) (hc : PE X c (Ze Z fc)) (hm : lastMarks [op, op'] [b, c] = false := by with_unfolding_all rfl) :
    PE X (.Compare a [op, op'] [b, c] pos) (Ze Z (Zop g g' fa fb fc)) := (Zqt ho ho' ha hb hc hm).imp fun _ _ _ h => Zuh hp hp' h
theorem Z8 (i : Nat) {x : Str} (hN : X.N.Nodup) (hi : X.N[i]? = some x := by rfl) (hx : Loc X.env.scope x := by first | exact Or.inl rfl | exact Or.inr rfl) (hf : X.fn x = true ∨ X.env.scope.names.lookup x = some .local := by first | exact .inl rfl | exact .inr rfl) : PG X (.Name x pos) (Zf4 Z (Zg i)) := (Ztu hN hi hx hf).imp fun _ _ _ _ h => Zuj h
theorem Zos : PGs X [] (Zfs Z Zgp) := Ztv.imp fun _ _ _ _ h => Zxs h
theorem Zfl {es : List Expr} {g : FG} {r : FGs} (h1 : PG X a (Zf4 Z g)) (h2 : PGs X es (Zfs Z r)) (hs : (assignEach (a :: es) X.env).map (·.2) = assign a X.env :: (assignEach es X.env).map (·.2) := by rfl) : PGs X (a :: es) (Zfs Z (Zcb g r)) := (Zqp h1 h2 hs).imp fun _ _ _ _ h => Zuk h
theorem Zuv {es : List Expr} {k n : Nat} {g : FGs} (hc : X.calm = true) (h : PGs X es (Zfs Z g)) (hn : (assignEach es X.env).length = n := by rfl) (hst : (assignEach es X.env).findIdx? (·.1) = none := by rfl) : PG X (.Tuple es k pos) (Zf4 Z (Zf5 n g)) := (Zwp hc h hn hst).imp fun _ _ _ _ h => Zxt h
theorem Zk9 {tg : Expr} {p : Pos} (hm : X.mg "range" = none) (ha : PE X a (Ze Z fa)) (hg : Gl X "range" := by rfl) (hs : starEach [a] X.env = [(false, eval a X.env)] := by rfl) : PI X tg (.Call (.Name "range" p) [a] [] pos) (Zgq Z (rngI (Zc fa Zi))) := (Znz hg hm (Zm ha Zba hs) hs).imp fun _ _ _ h => Zxu h
theorem Z3 {N' : List Str} {scope : Scope} {src : List BSrc} (kind : scope.kind = .function) (nocell : (scope.names.all fun y => !(y.2 == .cell)) = true) (names : (scope.names.all fun y => !(y.2 == .local) || (scope.names.lookup y.1 == some .local)) = true)
    (free : (scope.names.all fun y => !(y.2 == .free) || (X.env.kindOf y.1 == some .cell) || (X.env.kindOf y.1 == some .free)) = true) (len : src.length = N'.length)
    (cap : ((List.range src.length).all fun k => match src[k]?, N'[k]? with
      | some (.cap j), some x => (X.N[j]? == some x) && ((X.env.kindOf x == some .cell) || (X.env.kindOf x == some .free)) && (scope.names.lookup x == some .free)
      | some .acc, some x => scope.names.lookup x == none
      | _, _ => true) = true) : CompScope X N' scope src := by
  have capk : ∀ (k : Nat) (q : BSrc) (x : Str), src[k]? = some q → N'[k]? = some x → (match some q, some x with
      | some (.cap j), some x => (X.N[j]? == some x) && ((X.env.kindOf x == some .cell) || (X.env.kindOf x == some .free)) && (scope.names.lookup x == some .free)
      | some .acc, some x => scope.names.lookup x == none
      | _, _ => true) = true := fun k q x h1 h2 => by
    have hk : k < src.length := (List.getElem?_eq_some_iff.mp h1).1
    have := List.all_eq_true.mp cap k (List.mem_range.mpr hk)
    rw [h1, h2] at this
    exact this
  refine ⟨kind, fun y hy e => ?_, fun y hy e => ?_, fun y hy e => ?_, len, fun k j x h1 h2 => ?_, fun k x h1 h2 => ?_⟩
  · have := List.all_eq_true.mp nocell y hy
    rw [e] at this; cases this
  · have := List.all_eq_true.mp names y hy
    rw [e] at this
    simpa using this
  · have := List.all_eq_true.mp free y hy
    rw [e] at this
    simpa using this
  · have := capk k (.cap j) x h1 h2
    simp only [Bool.and_eq_true, Bool.or_eq_true, beq_iff_eq] at this
    exact ⟨this.1.1, this.1.2, this.2⟩
  · have := capk k .acc x h1 h2
    simpa using this
theorem Zd7 {src : List BSrc} (k : Nat) (acc : src[k]? = some .acc) (uni : ((List.range src.length).all fun i => match src[i]? with
      | some .acc => i == k
      | _ => true) = true) : SrcOk src k := ⟨acc, fun i h => by
    have hi : i < src.length := (List.getElem?_eq_some_iff.mp h).1
    have := List.all_eq_true.mp uni i (List.mem_range.mpr hi)
    rw [h] at this
    simpa using this⟩
theorem Zla (K : PySem.W.Frag) : ∀ d : D, d.isExc = false → PySem.W.kitOne K (.type d.pyTy) (.type "str") = some (d.pyTy == "str" || ("str" == "int" && d.pyTy == "bool")) := by intro d h; cases d <;> first | (cases h; done) | with_unfolding_all rfl
theorem xg {tg : Expr} {g : FG} (h : ∀ Z : Ent X.K, PG X tg (Zf4 Z g)) : PG X tg (xG X.K g) := fun pins s σ H v u Q I r ⟨Z, q⟩ => h Z pins s σ H v u Q I r q
theorem xe {e : Expr} {f : FE} (h : ∀ Z : Ent X.K, PE X e (Ze Z f)) : PE X e (xE X.K f) := fun pins s σ H Q I ⟨Z, q⟩ => h Z pins s σ H Q I q
theorem xt {e : Expr} {f : FT} (h : ∀ Z : Ent X.K, PT X e (Zaq Z f)) : PTs X [e] (xT X.K f) := fun pins s σ H Q I ⟨Z, q⟩ => Zuc (h Z) pins s σ H Q I q
theorem xt0 : PTs X [] (xT X.K Za9) := fun pins s σ H Q I ⟨Z, q⟩ => by
  obtain ⟨F, δ, own, b, δ', sr, e, k⟩ := q
  cases e
  exact Zub pins s σ H Q I (k H F own (Same.refl H) (Same.refl F) sr)
theorem Zfv {N' : List Str} {scope : Scope} {src : List BSrc} {k : Nat} {tg elt iter : Expr} {ifs : List Expr} {fi : FD} {g : FG} {tt : FT} {te : FE} (hc : X.calm = true) (S : CompScope X N' scope src) (So : SrcOk src k) (hk : k ∉ g.tch) (hi : PI X tg iter (Zgq Z fi))
    (hg : ∀ (C : Addr) (s₀ : Shared) (H₀ : Hp) (ex : List Addr), PG (X.block N' scope C s₀ H₀ ex) tg (xG X.K g)) (ht : ∀ (C : Addr) (s₀ : Shared) (H₀ : Hp) (ex : List Addr), PTs (X.block N' scope C s₀ H₀ ex) ifs (xT X.K tt)) (he : ∀ (C : Addr) (s₀ : Shared) (H₀ : Hp) (ex : List Addr), PE (X.block N' scope C s₀ H₀ ex) elt (xE X.K te))
    (hs : ∀ x, foldedSetIterable iter X.env x = pure x := by intro _; rfl) : PE X (.ListComp elt [⟨tg, iter, ifs, 0⟩] scope pos) (Ze Z (Zdm src k fi g tt te)) := (Zud hc S hi hg ht he hs).imp fun _ _ _ h => Zs0 So hk h
theorem Zai : PSs X [] (Zo Z Zbs) := Zts.imp fun _ _ _ h => Zxo h
theorem Zf {st : Stmt} {rest : List Stmt} {f g : FS} (h1 : PS X st (Zo Z f)) (h2 : PSs X rest (Zo Z g)) : PSs X (st :: rest) (Zo Z (seqF f g)) := (Zqn h1 h2).imp fun _ _ _ h => Z0r h
theorem Zj {st : Stmt} {f : FS} (h : PS X st (Zo Z f)) : PSs X [st] (Zo Z f) := Ztt h
theorem Zam (h : PE X a (Ze Z fa)) : PS X (.Return (some a) pos) (Zo Z (retF fa)) := (Zsm h).imp fun _ _ _ h => Zxp h
theorem s_if {t : FT} {f g : FS} {bt be : List Stmt} (hc : PT X c (Zaq Z t)) (ha : PSs X bt (Zo Z f)) (hb : PSs X be (Zo Z g)) : PS X (.If c bt be pos) (Zo Z (ifS t f g)) := (Z0d hc ha hb).imp fun _ _ _ h => Z0s h
theorem Zb8 (i : Nat) {x : Str} {pos' : Pos} (hN : X.N.Nodup) (he : PE X a (Ze Z fa)) (hi : X.N[i]? = some x := by rfl) (hx : Loc X.env.scope x := by first | exact Or.inl rfl | exact Or.inr rfl) (hs : swapsWith a (some (.Name x pos')) pos.line X.env = pure false := by rfl) (hf : X.fn x = true ∨ X.env.scope.names.lookup x = some .local := by first | exact .inl rfl | exact .inr rfl) :
    PS X (.Assign [.Name x pos'] a pos) (Zo Z (setF i fa)) := (Znx hN hi hx he hs hf).imp fun _ _ _ h => Zui h
theorem Zck (i : Nat) {N' : List Str} {scope : Scope} {src : List BSrc} {k : Nat} {tg elt iter : Expr} {ifs : List Expr} {fi : FD} {g : FG} {tt : FT} {te : FE} {y : Str} {py spos : Pos} (hc : X.calm = true) (S : CompScope X N' scope src) (So : SrcOk src k) (hk : k ∉ g.tch) (hi : PI X tg iter (Zgq Z fi))
    (hg : ∀ (C : Addr) (s₀ : Shared) (H₀ : Hp) (ex : List Addr), PG (X.block N' scope C s₀ H₀ ex) tg (xG X.K g)) (ht : ∀ (C : Addr) (s₀ : Shared) (H₀ : Hp) (ex : List Addr), PTs (X.block N' scope C s₀ H₀ ex) ifs (xT X.K tt)) (he : ∀ (C : Addr) (s₀ : Shared) (H₀ : Hp) (ex : List Addr), PE (X.block N' scope C s₀ H₀ ex) elt (xE X.K te))
    (hN : X.N.Nodup) (hiy : X.N[i]? = some y := by rfl) (hx : X.env.scope.names.lookup y = some .local := by rfl) (hsw : swapsWith (.ListComp elt [⟨tg, iter, ifs, 0⟩] scope pos) (some (.Name y py)) spos.line X.env = pure true := by rfl)
    (hs : ∀ x, foldedSetIterable iter X.env x = pure x := by intro _; rfl) : PS X (.Assign [.Name y py] (.ListComp elt [⟨tg, iter, ifs, 0⟩] scope pos) spos) (Zo Z (setF i (Zdm src k fi g tt te))) :=
  (Zm7 hc S hi hg ht he hN hiy hx hsw hs).imp fun D σ H h => by
    obtain ⟨F, δ, own, rv, δ', s, e, q⟩ := Zui h
    exact Zs0 So hk ⟨F, δ, own, rv, δ', s, e, q⟩
theorem Zri {tg : Expr} {g : FG} (he : PE X a (Ze Z fa)) (hg : PG X tg (Zf4 Z g)) (hs : swapsWithSole [tg] a pos.line X.env = pure false := by rfl) (hw : swappedStores [tg] a X.env = pure none := by rfl) (h1 : (assignEach [tg] X.env).map (·.2) = [assign tg X.env] := by rfl) :
    PS X (.Assign [tg] a pos) (Zo Z (Zk0 g fa)) := (Zwq he hg hs hw h1).imp fun _ _ _ h => Zq9 h
theorem Zf6 {tg iter : Expr} {body : List Stmt} {fi : FD} {g : FG} {f : FS} (hp : PassesOwn (model X.prog X.w) X.A X.env X.xe) (hc : X.calm = true) (hi : PI X tg iter (Zgq Z fi)) (hg : PG X tg (Zf4 Z g)) (hb : PSs X body (Zo Z f)) (hs : ∀ x, foldedSetIterable iter X.env x = pure x := by intro _; rfl) :
    PS X (.For tg iter body [] pos) (Zo Z (forF fi g f)) := (Zws hp hc hi hg hb hs).imp fun _ _ _ h => Z0t h
theorem Zuw (n : Nat) {t : FT} {body : List Stmt} {f : FS} (hp : PassesOwn (model X.prog X.w) X.A X.env X.xe) (hc : PT X c (Zaq Z t)) (hb : PSs X body (Zo Z f)) : PS X (.While c body [] pos) (Zo Z (Zd4 t f n)) := (Zqq hp hc hb).imp fun _ _ _ h => Zul h
theorem Znd (i : Nat) {x : Str} {px apos cpos : Pos} (hb : PE X b (Ze Z fb)) (hN : X.N[i]? = some x := by rfl) (hv : Vis X.env.scope x := by first | exact Or.inl rfl | exact Or.inr (Or.inl rfl) | exact Or.inr (Or.inr rfl)) (hd : (x == ("__debug__" : Str)) = false := by decide)
    (hcd : (x == ("__classdict__" : Str)) = false := by decide) (hbase : attributeBase (.Name x px) "append" X.env (eval (.Name x px) X.env) = eval (.Name x px) X.env := by rfl)
    (hfew : ((backTo cpos (starEach [b] X.env)).all (fun x => !x.1) && (backToKw cpos (keywordEach [] X.env)).all (fun x => x.1.isSome) && decide ([b].length + ([] : List Keyword).length + (if ([] : List Keyword).isEmpty then 0 else 1) < 30)) = true := by rfl)
    (hline : (apos.endLine == cpos.line) = true := by rfl) (hs : starEach [b] X.env = (false, eval b X.env) :: starEach [] X.env := by rfl) (hpl : (backTo cpos (starEach [] X.env)).any (·.1) = false := by rfl) (hsw : swapsWith (.Call (.Attribute (.Name x px) "append" apos) [b] [] cpos) none pos.line X.env = pure false := by rfl) :
    PS X (.Expr (.Call (.Attribute (.Name x px) "append" apos) [b] [] cpos) pos) (Zo Z (appF i fb)) :=
  (Zks (Zkw PySem.F.plainAttrs_list PySem.F.slot_list_append PySem.F.type_list_append Zd0 (Zhf (i := i) hN hv hd hcd) (Zb9 hb Zc6 hs) hbase hfew hline hs hpl) hsw).imp fun _ _ _ h => Z0u h
end
@[simp] noncomputable def Zc0 (f : FS) (n : Nat) (ds : List D) : Option SV := match f (Zhk n ds) with
  | some (.rt sv) => some sv
  | some (.nx _) => some (.fz .non)
  | _ => none
theorem Zaa {N : List Str} {n : Nat} {f : FS} {vs : List V} {H : Hp} {Q : VK} {E : XK} (h : spOf K n (Zc0 f N.length) vs H Q E) : ∃ F, Zo (ent H F : Ent K) f { nx := fun _ H' => Q .non H', rt := Q } (L2.start N vs) H := by
  obtain ⟨F, ds, sv, le, r, hn, e, k⟩ := h
  unfold Zc0 at e
  split at e
  · rename_i sw hf
    cases e
    exact ⟨F, F, _, _, .rt sv, Zh8 (N := N) le r, hf, fun v H' F' ns a b c d e' nd ok => k v H' F' ns d a b c e' nd ok⟩
  · rename_i δ hf
    cases e
    exact ⟨F, F, _, _, .nx δ, Zh8 (N := N) le r, hf, fun σ' H' F' own' a s' => k .non H' F' [] s'.old a s'.le s'.fro (.fz .non) List.nodup_nil fun _ h => (nomatch h)⟩
  · cases e
theorem Zl8 {F : Hp} : ∀ ns : List Int, Reps K F (ns.map D.int) (ns.map V.int)
  | [] => .nil
  | n :: r => .cons (.int n) (Zl8 r)
end DL
namespace DL
open PySem PySem.Spec PyProof.Rows L2
variable {K : PySem.W.Frag}
@[simp] noncomputable def Zot (f : D → D → Option Bool) : List D → List D → Option Bool
  | x :: xs, y :: ys => (f x y).bind fun b => (Zot f xs ys).bind fun c => some (b && c)
  | _, _ => some true
@[simp] noncomputable def Zgv (f : D → D → Option Bool) : D → D → Option Bool
  | .lst xs, .lst ys => if xs.length = ys.length then Zot f xs ys else some false
  | .tup xs, .tup ys => (Zot f xs ys).bind fun b => some (b && decide (xs.length = ys.length))
  | .lst _, .tup _ => some false
  | .tup _, .lst _ => some false
  | d1, d2 => eqS d1 d2
@[simp] noncomputable def eqN : Nat → D → D → Option Bool
  | 0 => fun _ _ => none
  | n + 1 => Zgv (eqN n)
theorem Zia {F H : Hp} {d1 d2 : D} {x y : V} {b : Bool} (e : eqS d1 d2 = some b) (r1 : RepN K F H d1 x) (r2 : RepN K F H d2 y) : Zca x = true ∧ Zca y = true ∧ b = eqV x y := by
  unfold eqS at e
  split at e <;> cases e <;> (first | obtain rfl := r1.non | obtain rfl := r1.int | obtain rfl := r1.bl | obtain rfl := r1.str) <;> (first | obtain rfl := r2.non | obtain rfl := r2.int | obtain rfl := r2.bl | obtain rfl := r2.str) <;> refine ⟨rfl, rfl, ?_⟩ <;> first | rfl | simp [eqV]
section
variable {X : Cx} {pins : List (Addr × Obj)} {σ : L2.St} {F H : Hp} {s : Shared}
theorem Zrj {x y : V} {v : Value} (rx : RelV x v) (ry : RelV y v) (fx : Zca x = true) (fy : Zca y = true) : eqV x y = true := by
  cases x with
  | non => cases rx; cases y with
    | non => rfl
    | bl b => cases ry
    | int b => obtain ⟨t, e⟩ := ry; cases e
    | str b => obtain ⟨t, e⟩ := ry; cases e
    | _ => cases fy
  | bl a => cases rx; cases y with
    | non => cases ry
    | bl b => cases ry; simp [eqV]
    | int b => obtain ⟨t, e⟩ := ry; cases e
    | str b => obtain ⟨t, e⟩ := ry; cases e
    | _ => cases fy
  | int a => obtain ⟨t, rfl⟩ := rx; cases y with
    | non => cases ry
    | bl b => cases ry
    | int b => obtain ⟨t, e⟩ := ry; cases e; simp [eqV]
    | str b => obtain ⟨t, e⟩ := ry; cases e
    | _ => cases fy
  | str a => obtain ⟨t, rfl⟩ := rx; cases y with
    | non => cases ry
    | bl b => cases ry
    | int b => obtain ⟨t, e⟩ := ry; cases e
    | str b => obtain ⟨t, e⟩ := ry; cases e; simp [eqV]
    | _ => cases fy
  | _ => cases fx
theorem Zne {h : Heap} {a : Addr} {i1 i2 : Array Value} (h1 : h.IsList a i1) (h2 : h.IsList a i2) : i1 = i2 := by
  obtain ⟨o, e1, c1, n1, d1⟩ := h1
  obtain ⟨o2, e2, c2, n2, d2⟩ := h2
  rw [e1] at e2; cases e2
  rw [d1] at d2; cases d2; rfl
theorem Zlb {h : Heap} {a : Addr} {i1 i2 : Array Value} (h1 : h.IsTuple a i1) (h2 : h.IsTuple a i2) : i1 = i2 := by
  obtain ⟨o, e1, c1, n1, d1⟩ := h1
  obtain ⟨o2, e2, c2, n2, d2⟩ := h2
  rw [e1] at e2; cases e2
  rw [d1] at d2; cases d2; rfl
theorem Zlc {f : D → D → Option Bool} (hf : ∀ d1 d2 b x y v, Rep X.K F d1 x → RelV x v → Rep X.K F d2 y → RelV y v → f d1 d2 = some b → b = true) : ∀ {xs ys : List D} {vs ws : List V} {us : List Value} {b : Bool}, Reps X.K F xs vs → Vals vs us → Reps X.K F ys ws → Vals ws us → Zot f xs ys = some b → b = true
  | _, _, _, _, _, _, .nil, .nil, .nil, .nil, e => by cases e; rfl
  | _, _, _, _, _, _, .cons r1 t1, .cons v1 w1, .cons r2 t2, .cons v2 w2, e => by
    obtain ⟨b, e1, e2⟩ := Option.bind_eq_some_iff.mp e
    obtain ⟨c, e3, e4⟩ := Option.bind_eq_some_iff.mp e2
    cases e4
    rw [hf _ _ _ _ _ _ r1 v1 r2 v2 e1, Zlc hf t1 w1 t2 w2 e3]; rfl
theorem Zou (I : Inv X pins σ H s) (le : Same F H) {f : D → D → Option Bool} (ih : ∀ (d1 d2 : D) (b : Bool) (x y : V) (v : Value), Rep X.K F d1 x → RelV x v → Rep X.K F d2 y → RelV y v → f d1 d2 = some b → b = true) (d1 d2 : D) (b : Bool) (x y : V) (v : Value) (r1 : Rep X.K F d1 x) (v1 : RelV x v) (r2 : Rep X.K F d2 y) (v2 : RelV y v) (e : Zgv f d1 d2 = some b) : b = true := by
    unfold Zgv at e
    split at e
    · rename_i xs ys
      cases r1 with
      | lst q1 p1 =>
      cases r2 with
      | lst q2 p2 =>
      cases v1; cases v2
      obtain ⟨i1, w1, l1, _⟩ := I.list (Zc7 le q1)
      obtain ⟨i2, w2, l2, _⟩ := I.list (Zc7 le q2)
      have z := Zne l1.isList l2.isList
      have z : i1 = i2 := by simpa using z
      subst z
      split at e
      · exact Zlc (ih) p1 w1 p2 w2 e
      · rename_i hl
        have h1 := w1.length
        have h2 := w2.length
        have h3 := p1.length
        have h4 := p2.length
        exact absurd (by omega) hl
    · rename_i xs ys
      cases r1 with
      | tup q1 p1 =>
      cases r2 with
      | tup q2 p2 =>
      cases v1; cases v2
      obtain ⟨i1, w1, l1, _⟩ := I.tuple (Zc8 le (Zjq q1))
      obtain ⟨i2, w2, l2, _⟩ := I.tuple (Zc8 le (Zjq q2))
      have z := Zlb l1 l2
      have z : i1 = i2 := by simpa using z
      subst z
      obtain ⟨c, e1, e2⟩ := Option.bind_eq_some_iff.mp e
      cases e2
      have h1 := w1.length
      have h2 := w2.length
      have h3 := p1.length
      have h4 := p2.length
      rw [Zlc (ih) p1 w1 p2 w2 e1, decide_eq_true (by omega)]; rfl
    · cases r1 with
      | lst q1 p1 =>
      cases r2 with
      | tup q2 p2 =>
      cases v1; cases v2
      obtain ⟨i1, w1, l1, _⟩ := I.list (Zc7 le q1)
      obtain ⟨i2, w2, l2, _⟩ := I.tuple (Zc8 le (Zjq q2))
      exact absurd rfl (SeqAt.ne_of_list_tuple (s := s) l1.isList l2)
    · cases r1 with
      | tup q1 p1 =>
      cases r2 with
      | lst q2 p2 =>
      cases v1; cases v2
      obtain ⟨i1, w1, l1, _⟩ := I.tuple (Zc8 le (Zjq q1))
      obtain ⟨i2, w2, l2, _⟩ := I.list (Zc7 le q2)
      exact absurd rfl (SeqAt.ne_of_list_tuple (s := s) l2.isList l1)
    · obtain ⟨f1, f2, rfl⟩ := Zia (H := H) e (RepN.of r1) (RepN.of r2)
      exact Zrj v1 v2 f1 f2
theorem Zib {A : Around} {f : D → D → Option Bool} (hf : ∀ d1 d2 b x y v u, Rep X.K F d1 x → RelV x v → Rep X.K F d2 y → RelV y u → f d1 d2 = some b → SeqAt.EqAt A s v u b) : ∀ {xs ys : List D} {vs ws : List V} {us zs : List Value} {b : Bool}, Reps X.K F xs vs → Vals vs us → Reps X.K F ys ws → Vals ws zs → Zot f xs ys = some b →
    ∃ e : Nat → Bool, (∀ j (h1 : j < us.length) (h2 : j < zs.length), SeqAt.EqAt A s us[j] zs[j] (e j)) ∧ (List.range (min us.length zs.length)).all e = b
  | _, _, _, _, _, _, _, .nil, .nil, _, _, e => by cases e; exact ⟨fun _ => true, fun j h1 => absurd h1 (Nat.not_lt_zero _), by simp⟩
  | _, _, _, _, _, _, _, .cons r1 t1, .cons v1 w1, .nil, .nil, e => by cases e; exact ⟨fun _ => true, fun j _ h2 => absurd h2 (Nat.not_lt_zero _), by simp⟩
  | _, _, _, _, _, _, _, .cons r1 t1, .cons v1 w1, .cons r2 t2, .cons v2 w2, e => by
    obtain ⟨b, e1, e2⟩ := Option.bind_eq_some_iff.mp e
    obtain ⟨c, e3, e4⟩ := Option.bind_eq_some_iff.mp e2
    cases e4
    obtain ⟨g, g1, g2⟩ := Zib hf t1 w1 t2 w2 e3
    refine ⟨fun | 0 => b | j + 1 => g j, fun j h1 h2 => ?_, ?_⟩
    · cases j with
      | zero => exact hf _ _ _ _ _ _ _ r1 v1 r2 v2 e1
      | succ j => exact g1 j (Nat.lt_of_succ_lt_succ h1) (Nat.lt_of_succ_lt_succ h2)
    · rw [List.length_cons, List.length_cons, Nat.succ_min_succ, List.range_succ_eq_map, List.all_cons, List.all_map, ← g2]
      rfl
theorem rcN (I : Inv X pins σ H s) (le : Same F H) {A : Around} {f : D → D → Option Bool} {d1 d2 : D} {b : Bool} {x y : V} {v u : Value}
    (ih : ∀ d1 d2 b x y v u, Rep X.K F d1 x → RelV x v → Rep X.K F d2 y → RelV y u → f d1 d2 = some b → SeqAt.EqAt A.in1 s v u b) (r1 : RepN X.K F H d1 x) (v1 : RelV x v) (r2 : RepN X.K F H d2 y) (v2 : RelV y u)
    (e : Zgv f d1 d2 = some b) (hu : A.units < cLine) (hr : Zca x = false ∨ Zca y = false) : (∃ a c, v = .ref a ∧ u = .ref c) ∧ SeqAt.RcAt A s v u b ∧ SeqAt.RcNeAt A s v u (!b) := by
  unfold Zgv at e
  split at e
  · obtain ⟨a1, vs1, rfl, q1, p1⟩ := r1.lst le
    obtain ⟨a2, vs2, rfl, q2, p2⟩ := r2.lst le
    cases v1; cases v2
    obtain ⟨i1, w1, l1, _⟩ := I.list q1
    obtain ⟨i2, w2, l2, _⟩ := I.list q2
    have h1 := w1.length
    have h2 := w2.length
    have h3 := p1.length
    have h4 := p2.length
    refine ⟨⟨_, _, rfl, rfl⟩, ?_⟩
    split at e
    · rename_i hl
      obtain ⟨g, g1, g2⟩ := Zib ih p1 w1 p2 w2 e
      have hm : min i1.length i2.length = i1.toArray.size := by simp; omega
      rw [hm] at g2
      subst g2
      have hz : i1.toArray.size = i2.toArray.size := by simp; omega
      exact ⟨SeqAt.RcAt.lists l1.isList l2.isList hz hu (fun j j1 j2 => by simpa using g1 j (by simpa using j1) (by simpa using j2)), SeqAt.RcNeAt.lists l1.isList l2.isList hz hu (fun j j1 j2 => by simpa using g1 j (by simpa using j1) (by simpa using j2))⟩
    · rename_i hl
      cases e
      have hz : (i1.toArray.size != i2.toArray.size) = true := by simp; omega
      exact ⟨SeqAt.RcAt.lists_lengths l1.isList l2.isList hz hu, SeqAt.RcNeAt.lists_lengths l1.isList l2.isList hz hu⟩
  · rename_i xs ys
    obtain ⟨a1, vs1, rfl, q1, p1⟩ := r1.tup le
    obtain ⟨a2, vs2, rfl, q2, p2⟩ := r2.tup le
    cases v1; cases v2
    obtain ⟨i1, w1, l1, _⟩ := I.tuple q1
    obtain ⟨i2, w2, l2, _⟩ := I.tuple q2
    have h1 := w1.length
    have h2 := w2.length
    have h3 := p1.length
    have h4 := p2.length
    obtain ⟨c, e1, e2⟩ := Option.bind_eq_some_iff.mp e
    cases e2
    refine ⟨⟨_, _, rfl, rfl⟩, ?_⟩
    obtain ⟨g, g1, g2⟩ := Zib ih p1 w1 p2 w2 e1
    subst g2
    have e3 : ((List.range (min i1.length i2.length)).all g && decide (xs.length = ys.length)) = ((List.range (min i1.toArray.size i2.toArray.size)).all g && i1.toArray.size == i2.toArray.size) := by
      have : (i1.toArray.size == i2.toArray.size) = decide (xs.length = ys.length) := by
        rw [List.size_toArray, List.size_toArray, ← h1, ← h2, ← h3, ← h4]; rfl
      rw [this]; simp
    rw [e3]
    exact ⟨SeqAt.RcAt.tuples l1 l2 hu (fun j j1 j2 => by simpa using g1 j (by simpa using j1) (by simpa using j2)), SeqAt.RcNeAt.tuples l1 l2 hu (fun j j1 j2 => by simpa using g1 j (by simpa using j1) (by simpa using j2))⟩
  · obtain ⟨a1, vs1, rfl, q1, p1⟩ := r1.lst le
    obtain ⟨a2, vs2, rfl, q2, p2⟩ := r2.tup le
    cases v1; cases v2
    cases e
    obtain ⟨i1, w1, l1, _⟩ := I.list q1
    obtain ⟨i2, w2, l2, _⟩ := I.tuple q2
    exact ⟨⟨_, _, rfl, rfl⟩, SeqAt.RcAt.list_tuple l1.isList l2 hu, SeqAt.RcNeAt.list_tuple l1.isList l2 hu⟩
  · obtain ⟨a1, vs1, rfl, q1, p1⟩ := r1.tup le
    obtain ⟨a2, vs2, rfl, q2, p2⟩ := r2.lst le
    cases v1; cases v2
    cases e
    obtain ⟨i1, w1, l1, _⟩ := I.tuple q1
    obtain ⟨i2, w2, l2, _⟩ := I.list q2
    exact ⟨⟨_, _, rfl, rfl⟩, SeqAt.RcAt.tuple_list l1 l2.isList hu, SeqAt.RcNeAt.tuple_list l1 l2.isList hu⟩
  · obtain ⟨f1, f2, _⟩ := Zia e r1 r2
    rcases hr with hr | hr
    · rw [f1] at hr; cases hr
    · rw [f2] at hr; cases hr
end
@[simp] noncomputable def D.isFlat : D → Bool
  | .non => true | .bl _ => true | .int _ => true | .str _ => true | _ => false
theorem Zhm {F H : Hp} {d : D} {x : V} (r : RepN K F H d x) (h : d.isFlat = false) : Zca x = false := by
  obtain ⟨sv, ns, e, n, sh, hp⟩ := r
  cases sh with
  | fz r => cases e; cases r <;> first | rfl | cases h
  | ol r => rfl
  | oK e' r => rfl
  | oT kb e' r => rfl
  | oN e' r => rfl
  | oL _ r => rfl
section
variable {Z : Ent K}
@[simp] noncomputable def negD : D → Option SV
  | .int i => some (.fz (.int (-i)))
  | _ => none
theorem Z06 : Zuf Z (rU fun i => .int (-i)) negD := by
  intro F H σ δ own x d sv Q s r e k
  unfold negD at e
  split at e
  · cases e; exact ⟨_, r.int, k.fz s (.int _)⟩
  · cases e
end
section
variable {X : Cx} {Z : Ent X.K} {a b c : Expr} {fa fb fc : FE} {pos : Pos}
theorem Zrk (ha : PE X a (Ze Z fa)) : PE X (.UnaryOp .USub a pos) (Ze Z (unF negD fa)) := (Zwt Zso ha).imp fun _ _ _ h => l_un Z06 h
end
end DL
namespace L2
open PySem PySem.Spec PyProof.Rows
section
variable {X : Cx} {tg : Expr}
noncomputable def Its (z : Str) : It := ⟨fun i _ => i < z.length, fun i H x H' => H' = H ∧ ∃ c, z.cps[i]? = some c ∧ x = .str ⟨#[c]⟩, fun i _ => z.length ≤ i⟩
theorem Zov {P : Program} {w : World} {K : PySem.W.Frag} {tg : Expr} (z : Str) (t : Tok) (it : Addr) : Turn P w K tg (Its z) [it] it (fun i h => h.IsStrIter it (strIterType z) z t i) where
  mem := by simp
  obj := fun i h st b hb => by
    have e : b = it := by simpa using hb
    subst e
    obtain ⟨o, e, c, d⟩ := st
    exact ⟨o, e, fun v q => by rw [d] at q; cases q⟩
  keep := fun i h h' st k => by
    obtain ⟨o, e, c, d⟩ := st
    exact ⟨o, k it (by simp) o e, c, d⟩
  item := by
    intro X hP hw hK hc i pins s σ H E I hf st hg
    subst hP hw hK
    obtain ⟨f0, f1, f2, f3, f4, f5⟩ := hf it (by simp)
    have hlt : i < z.cps.size := hg
    have hx : z.cps[i]? = some z.cps[i] := by simp [hlt]
    have fin : ∀ h', h'.IsStrIter it (strIterType z) z t (i + 1) → Heap.SameBut it s.heap h' → ∃ u, some (Value.str ⟨#[z.cps[i]]⟩ s.toks) = some u ∧ wpAny (model X.prog X.w) X.A (letOwnedTupleGo tg (.ref it) u) (fun _ s2 => ∃ x H', Inv X pins σ H' s2 ∧ RelV x u ∧ (Its z).yld i H x H' ∧ s2.heap.IsStrIter it (strIterType z) z t (i + 1) ∧ ∀ b ∈ [it], H' b = none) E { s with heap := h', toks := s.toks + 1 } := fun h' st' sb => by
      have I1 : Inv X pins σ H { s with heap := h', toks := s.toks + 1 } := I.turned (t' := s.toks + 1) (fun b o hb q => (sb.2 b hb).trans q) f0 f1 f3 f4 f5
      obtain ⟨o, e, c, d⟩ := id st'
      have hn : ["enumerate", "zip", "dict_itemiterator", "dict_reverseitemiterator", "odict_iterator", "itertools.zip_longest", "itertools.pairwise"].contains (strIterType z) = false := by
        unfold strIterType
        split <;> decide
      exact ⟨_, rfl, Zqr (s := { s with heap := h', toks := s.toks + 1 }) e c d hn ⟨.str ⟨#[z.cps[i]]⟩, H, I1, ⟨_, rfl⟩, ⟨rfl, _, hx, rfl⟩, st', fun b hb => (hf b hb).1⟩⟩
    cases ha : z.cps.all (· < 128) with
    | false =>
      have et : strIterType z = "str_iterator" := by unfold strIterType; rw [ha]; rfl
      rw [et] at st fin
      rw [et]
      exact wpAny_pyNext_wide_item st hx fin
    | true =>
      have et : strIterType z = "str_ascii_iterator" := by unfold strIterType; rw [ha]; rfl
      rw [et] at st fin
      rw [et]
      exact wpAny_pyNext_ascii_item st hx fin
  done := by
    intro X hP hw hK hc i pins s σ H E I hf st hg
    subst hP hw hK
    obtain ⟨f0, f1, f2, f3, f4, f5⟩ := hf it (by simp)
    have hge : z.cps.size ≤ i := hg
    have hx : z.cps[i]? = none := by simp [hge]
    cases ha : z.cps.all (· < 128) with
    | false =>
      have et : strIterType z = "str_iterator" := by unfold strIterType; rw [ha]; rfl
      rw [et] at st
      exact wpAny_pyNext_wide_end (I.ok.hd hc) st hx fun h' eb => ⟨rfl, I.turned (t' := s.toks) (fun b o hb q => eb b o hb q) f0 f1 f3 f4 f5⟩
    | true =>
      have et : strIterType z = "str_ascii_iterator" := by unfold strIterType; rw [ha]; rfl
      rw [et] at st
      exact wpAny_pyNext_ascii_end (I.ok.hd hc) st hx fun h' eb => ⟨rfl, I.turned (t' := s.toks) (fun b o hb q => eb b o hb q) f0 f1 f3 f4 f5⟩
  self := fun _ _ _ _ _ st h => by
    cases ha : z.cps.all (· < 128) with
    | false =>
      have et : strIterType z = "str_iterator" := by unfold strIterType; rw [ha]; rfl
      rw [et] at st
      exact wpAny_pyIter_striter_wide st h
    | true =>
      have et : strIterType z = "str_ascii_iterator" := by unfold strIterType; rw [ha]; rfl
      rw [et] at st
      exact wpAny_pyIter_striter_ascii st h
noncomputable def iAny (K : PySem.W.Frag) (tl : TE) : TI := fun σ H R => tl σ H fun x H1 => (∃ a, x = .ref a ∧ (∃ xs, SqL K H1 a xs) ∧ R (Itl K a) H1) ∨ (∃ a, x = .ref a ∧ (∃ xs, SqT K H1 a xs) ∧ R (Itt K a) H1) ∨ (∃ z, x = .str z ∧ R (Its z) H1)
theorem Zx7 {l : Expr} {tl : TE} (hl : PE X l tl) : PI X tg l (iAny X.K tl) := by
  intro pins s σ H R I h
  refine thn (hl pins s σ H _ I h) fun v s1 ⟨x, H1, I1, r1, q1⟩ => ?_
  rcases q1 with ⟨a, e, ⟨xs, hq⟩, q⟩ | ⟨a, e, ⟨xs, hq⟩, q⟩ | ⟨z, e, q⟩
  · subst e
    cases r1
    obtain ⟨its, rv, p, hz⟩ := I1.list hq
    refine wpAny_pyIter_list p.isList ?_
    refine ⟨s1.heap.objs.size, [s1.heap.objs.size], _, _, H1, rfl, I1.kept (t' := s1.toks) fun b o e => Heap.get?_push_of_some _ e, Zny a _, ⟨_, Heap.get?_push_size _ rfl, rfl, rfl⟩, fun b hb => ?_, q⟩
    have e : b = s1.heap.objs.size := by simpa using hb
    subst e
    exact I1.fpOk (Nat.le_refl _) (I1.hok.fresh (Nat.le_refl _))
  · subst e
    cases r1
    obtain ⟨its, rv, p, hz⟩ := I1.tuple hq
    refine wpAny_pyIter_tuple (show s1.heap.IsTuple a its.toArray from p) ?_
    refine ⟨s1.heap.objs.size, [s1.heap.objs.size], _, _, H1, rfl, I1.kept (t' := s1.toks) fun b o e => Heap.get?_push_of_some _ e, Zm0 a _, ⟨_, Heap.get?_push_size _ rfl, rfl, rfl⟩, fun b hb => ?_, q⟩
    have e : b = s1.heap.objs.size := by simpa using hb
    subst e
    exact I1.fpOk (Nat.le_refl _) (I1.hok.fresh (Nat.le_refl _))
  · subst e
    obtain ⟨t, rfl⟩ := r1
    refine wpAny_pyIter_strU ?_
    refine ⟨s1.heap.objs.size, [s1.heap.objs.size], _, _, H1, rfl, I1.kept (t' := s1.toks) fun b o e => Heap.get?_push_of_some _ e, Zov z t _, ⟨_, Heap.get?_push_size _ rfl, rfl, rfl⟩, fun b hb => ?_, q⟩
    have e : b = s1.heap.objs.size := by simpa using hb
    subst e
    exact I1.fpOk (Nat.le_refl _) (I1.hok.fresh (Nat.le_refl _))
theorem Zjv : ∀ l : List (Str × Tok), Vals ((l.map (·.1)).map V.str) (strValues l)
  | [] => .nil
  | (x, t) :: r => .cons ⟨t, rfl⟩ (Zjv r)
noncomputable def Zs2 : V → List V → Hp → VK → Prop := fun x xs H Q => ∃ a b, x = .str a ∧ xs = [.str b] ∧ (b.length == 0) = false ∧ a.length ≤ sizeLine ∧ (Txt.split a b).length ≤ sizeLine ∧ ∀ p, H p = none → Q (.ref p) (upd H p (.lst ((Txt.split a b).map V.str)))
theorem Zrl : MtR X "str.split" Zs2 := by
  intro pins s σ H x xs v us Q I rx rs h
  obtain ⟨a, b, rfl, rfl, hb, ha, hz, q⟩ := h
  obtain ⟨t, rfl⟩ := rx
  obtain ⟨u, rfl, ru⟩ := Zf2 rs
  obtain ⟨t', rfl⟩ := ru
  have one : Txt.split a b = [a] → ∀ tk, EP X pins σ Q (.ref s.heap.objs.size) { s with toks := tk, heap := s.heap.push { cls := .type "list", data := .seq #[.str a t] } } := fun e tk => by
    rw [e] at q
    exact ⟨.ref _, _, I.lnew (t' := tk) (ys := [.str a]) (its := [.str a t]) (.cons ⟨t, rfl⟩ .nil) (by show 1 ≤ sizeLine; decide), rfl, q _ I.fresh⟩
  cases h1 : (decide (a.length < b.length) || decide (Builtin.Str.strKind a < Builtin.Str.strKind b))
  · cases hf : (Builtin.Str.occurrences a b 0 a.length (a.length + 1)).isEmpty
    · have e : Txt.split a b = Builtin.Str.partsBetween a (Builtin.Str.occurrences a b 0 a.length (a.length + 1)) b.length := (if_neg (ne_true_of_eq_false h1)).trans (if_neg (ne_true_of_eq_false hf))
      rw [e] at hz q
      refine call_meets F.slot_str_split (typeIs_str _ _ _) F.entry_str_split (F.args_str_split_2 _ _) (meets_str_split_sep a b t t' h1 hb hf ha hz) ?_
      rw [strsFrom_eq]
      have hv := Zjv (numbered s.toks (Builtin.Str.partsBetween a (Builtin.Str.occurrences a b 0 a.length (a.length + 1)) b.length))
      rw [numbered_texts] at hv
      exact ⟨.ref _, _, I.lnew (t' := _) hv (by rw [List.length_map]; exact hz), rfl, q _ I.fresh⟩
    · exact call_meets F.slot_str_split (typeIs_str _ _ _) F.entry_str_split (F.args_str_split_2 _ _) (meets_str_split_not_found a b t t' h1 hb hf) (one ((if_neg (ne_true_of_eq_false h1)).trans (if_pos hf)) s.toks)
  · exact call_meets F.slot_str_split (typeIs_str _ _ _) F.entry_str_split (F.args_str_split_2 _ _) (meets_str_split_cannot_occur a b t t' h1) (one (if_pos h1) s.toks)
noncomputable def Zx8 : V → List V → Hp → VK → Prop := fun x xs H Q => ∃ a b, x = .str a ∧ xs = [.str b] ∧ (b.length == 0) = false ∧ a.length ≤ sizeLine ∧ ∀ p, H p = none → Q (.ref p) (upd H p (.tup [.str (Txt.partition a b).1, .str (Txt.partition a b).2.1, .str (Txt.partition a b).2.2]))
theorem Inv.tnew {pins : List (Addr × Obj)} {σ : L2.St} {H : Hp} {s : Shared} {ys : List V} {its : List Value} {t' : Nat} (I : Inv X pins σ H s) (hv : Vals ys its) (hz : ys.length ≤ sizeLine) :
    Inv X pins σ (upd H s.heap.objs.size (.tup ys)) { s with heap := s.heap.push { cls := .type "tuple", data := .seq its.toArray }, toks := t' } :=
  I.laid (fun _ _ q => Heap.get?_push_of_some _ q) (Nat.le_refl _) ⟨hz, its, hv, ⟨_, Heap.get?_push_size _ rfl, rfl, _, rfl⟩⟩
theorem Zux : MtR X "str.partition" Zx8 := by
  intro pins s σ H x xs v us Q I rx rs h
  obtain ⟨a, b, rfl, rfl, hb, ha, q⟩ := h
  obtain ⟨t, rfl⟩ := rx
  obtain ⟨u, rfl, ru⟩ := Zf2 rs
  obtain ⟨t', rfl⟩ := ru
  refine call_meets F.slot_str_partition (typeIs_str _ _ _) F.entry_str_partition (F.args_str_partition_2 _ _) (meets_str_partition a b t t' hb ha) ?_
  unfold Txt.partition at q
  cases e : Builtin.Str.occurrences a b 0 a.length 1 with
  | nil =>
    rw [e] at q
    exact ⟨.ref _, _, I.tnew (t' := s.toks + 1) (ys := [.str a, .str Str.empty, .str Str.empty]) (its := [.str a t, .str Str.empty s.toks, .str Str.empty s.toks]) (.cons ⟨_, rfl⟩ (.cons ⟨_, rfl⟩ (.cons ⟨_, rfl⟩ .nil))) (by show 3 ≤ sizeLine; decide), rfl, q _ I.fresh⟩
  | cons i r =>
    rw [e] at q
    exact ⟨.ref _, _, I.tnew (t' := s.toks + 1 + 1) (ys := [.str (Builtin.Str.strSub a 0 i), .str b, .str (Builtin.Str.strSub a (i + b.length) a.length)]) (its := [.str (Builtin.Str.strSub a 0 i) s.toks, .str b t',   .str (Builtin.Str.strSub a (i + b.length) a.length) (s.toks + 1)]) (.cons ⟨_, rfl⟩ (.cons ⟨_, rfl⟩ (.cons ⟨_, rfl⟩ .nil))) (by show 3 ≤ sizeLine; decide), rfl, q _ I.fresh⟩
noncomputable def rAll (K : PySem.W.Frag) : List V → Hp → VK → Prop := fun xs H Q => ∃ (p : Addr) (bs : List Bool), xs = [.ref p] ∧ SqL K H p (bs.map V.bl) ∧ Q (.bl (bs.all id)) H
theorem Zl9 : ∀ {bs : List Bool} {us : List Value}, Vals (bs.map V.bl) us → us = bs.map Value.bool
  | [], _, r => by rw [List.map_nil] at r; cases r; rfl
  | b :: bs, _, r => by
    rw [List.map_cons] at r
    cases r with
    | cons h t =>
      cases (show _ = Value.bool b from h)
      rw [Zl9 t]; rfl
theorem Zjw : ∀ bs : List Bool, (List.range bs.length).all (fun i => (bs[i]?).getD true) = bs.all id
  | [] => rfl
  | b :: bs => by
    rw [List.length_cons, List.range_succ_eq_map, List.all_cons, List.all_map, List.all_cons, ← Zjw bs]
    rfl
theorem Zrm (hc : X.calm = true) : Zes X (.builtin "all") (rAll X.K) := by
  intro pins s σ H xs us Q I rs h
  obtain ⟨p, bs, rfl, hq, q⟩ := h
  obtain ⟨u, rfl, ru⟩ := Zf2 rs
  cases ru
  obtain ⟨its, rv, pl, hz⟩ := I.list hq
  have e := Zl9 rv
  subst e
  refine call_all_walk (wpAny_pyIter_list pl.isList ?_)
  have hne : p ≠ s.heap.objs.size := fun z => by
    obtain ⟨o, ho, _⟩ := pl.isList
    have := Heap.lt_size ho
    rw [z] at this; exact Nat.lt_irrefl _ this
  refine ⟨s.heap.objs.size, _, _, _, _, _, fun i => (bs[i]?).getD true, rfl, Walks.list (by first | exact I.ok.hd hc | (rw [show X.A.in1.handled = X.A.handled from rfl]; exact I.ok.hd hc)) _ p hne (bs.map Value.bool).toArray, ⟨⟨_, Heap.get?_push_size _ rfl, rfl, rfl⟩, pl.isList.at fun o e => Heap.get?_push_of_some _ e⟩, ?_, fun h' tk hk => ?_⟩
  · intro i v s' Q' E' hP hQ
    have hP' : (bs.map Value.bool)[i]? = some v := by simpa using hP
    rw [List.getElem?_map] at hP'
    cases hb : bs[i]? with
    | none => rw [hb] at hP'; cases hP'
    | some b =>
      rw [hb] at hP'
      cases hP'
      dsimp only at hQ
      rw [hb] at hQ
      exact wpAny_truthy_bool hQ
  · have e : (List.range (bs.map Value.bool).toArray.size).all (fun i => (bs[i]?).getD true) = bs.all id := by
      rw [List.size_toArray, List.length_map]; exact Zjw bs
    rw [e]
    refine ⟨.bl _, H, I.kept (t' := tk) fun b o hb => hk b o (fun z => ?_) (Heap.get?_push_of_some _ hb), rfl, q⟩
    have z' : b = s.heap.objs.size := by simpa using z
    have := Heap.lt_size hb
    rw [z'] at this; exact Nat.lt_irrefl _ this
end
end L2
namespace DL
open PySem PySem.Spec PyProof.Rows L2
variable {K : PySem.W.Frag}
noncomputable def signs (z : Str) : List D := z.cps.toList.map fun c => .str ⟨#[c]⟩
theorem Zld {z : Str} {F : Hp} : Zjr K (Its z) F (signs z) := fun F' H sF sH i => by
  have hl : (signs z).length = z.length := by unfold signs; rw [List.length_map]; rfl
  refine ⟨fun d hd => ?_, fun h => by rw [hl] at h; exact h⟩
  have hi : i < z.length := by
    have := (List.getElem?_eq_some_iff.mp hd).1
    rw [hl] at this; exact this
  refine ⟨hi, fun x H' ⟨e1, c, e2, e3⟩ => ?_⟩
  subst e1 e3
  unfold signs at hd
  rw [List.getElem?_map] at hd
  have e4 : z.cps.toList[i]? = some c := by simpa using e2
  rw [e4] at hd
  cases hd
  exact ⟨Same.refl _, [], List.nodup_nil, fun _ h => (nomatch h), .str _⟩
section
variable {Z : Ent K} {H : Hp} {σ : L2.St} {Q : VK} {E : Ends}
@[simp] noncomputable def anyI (fe : FE) : FD := fun δ => (fe δ).bind fun p => (frz p.1 p.2).bind fun q => match q.1 with
  | .lst xs => some (xs, q.2)
  | .tup xs => some (xs, q.2)
  | .str z => some (signs z, q.2)
  | _ => none
theorem Zx9 {fe : FE} {R : It → Hp → Prop} (h : Zgq Z (anyI fe) σ H R) : iAny K (Ze Z fe) σ H R := by
  obtain ⟨F, δ, own, ds, δ', s, e, k⟩ := h
  obtain ⟨⟨rv, δ1⟩, e1, e2⟩ := Option.bind_eq_some_iff.mp e
  obtain ⟨⟨d, δ2⟩, e3, e4⟩ := Option.bind_eq_some_iff.mp e2
  refine ⟨F, δ, own, rv, δ1, s, e1, fun v H1 F1 own1 sH sF s1 r1 => ?_⟩
  obtain ⟨F2, sF2, s2, r2⟩ := s1.settleR r1
  obtain ⟨F3, own3, sF3, s3, r3⟩ := s2.frzR r2 e3
  dsimp only at e4
  split at e4
  · cases e4
    cases r3 with
    | lst h r => exact .inl ⟨_, rfl, ⟨_, Zc7 s3.le h⟩, k _ H1 F3 own3 sH (sF.trans (sF2.trans sF3)) s3 (Zk1 h r)⟩
  · cases e4
    cases r3 with
    | tup h r => exact .inr (.inl ⟨_, rfl, ⟨_, Zc8 s3.le (Zjq h)⟩, k _ H1 F3 own3 sH (sF.trans (sF2.trans sF3)) s3 (Znc (Zjq h) r)⟩)
  · cases e4
    cases r3 with
    | str x => exact .inr (.inr ⟨_, rfl, k _ H1 F3 own3 sH (sF.trans (sF2.trans sF3)) s3 Zld⟩)
  · cases e4
@[simp] noncomputable def inS (i j : Str) : Bool := !(Builtin.Str.occurrences j i 0 j.length 1).isEmpty
@[simp] noncomputable def inD : D → D → Option SV
  | .str i, .str j => some (.fz (.bl (inS i j)))
  | _, _ => none
theorem p_in : Zbr Z (fun x y H Q => ∃ i j, x = .str i ∧ y = .str j ∧ Q (.bl (!(Builtin.Str.occurrences j i 0 j.length 1).isEmpty)) H) inD := by
  intro F H σ δ own x y d1 d2 sv Q s r1 r2 e k
  unfold inD at e
  split at e
  · cases e; exact ⟨_, _, r1.str, r2.str, k.fz s (.bl _)⟩
  · cases e
@[simp] noncomputable def Zjx : List D → Option SV
  | [.str a, .str b] => if (b.length == 0) = false ∧ a.length ≤ PySem.sizeLine ∧ (Txt.split a b).length ≤ PySem.sizeLine then some (.ol ((Txt.split a b).map D.str)) else none
  | _ => none
theorem Zjy {F : Hp} : ∀ xs : List Str, Reps K F (xs.map D.str) (xs.map V.str)
  | [] => .nil
  | x :: r => .cons (.str x) (Zjy r)
theorem Zuy : Zrd Z Zs2 Zjx := by
  intro F H σ δ own vs ds sv Q s r e k
  unfold Zjx at e
  split at e
  · rename_i a b
    split at e
    · rename_i h
      cases e
      cases r with
      | cons h1 t => cases t with
        | cons h2 t => cases t; exact ⟨_, _, rfl, a, b, h1.str, by rw [h2.str], h.1, h.2.1, h.2.2, fun p hp => k.lst s (Zjy _) hp⟩
    · cases e
  · cases e
@[simp] noncomputable def Zei : List D → Option SV
  | [.str a, .str b] => if (b.length == 0) = false ∧ a.length ≤ PySem.sizeLine then some (.fz (.tup [.str (Txt.partition a b).1, .str (Txt.partition a b).2.1, .str (Txt.partition a b).2.2])) else none
  | _ => none
theorem Zle : Zrd Z Zx8 Zei := by
  intro F H σ δ own vs ds sv Q s r e k
  unfold Zei at e
  split at e
  · rename_i a b
    split at e
    · rename_i h
      cases e
      cases r with
      | cons h1 t => cases t with
        | cons h2 t => cases t; exact ⟨_, _, rfl, a, b, h1.str, by rw [h2.str], h.1, h.2, fun p hp => k.tup s (.cons (.str _) (.cons (.str _) (.cons (.str _) .nil))) hp⟩
    · cases e
  · cases e
@[simp] noncomputable def bools? : List D → Option (List Bool)
  | [] => some []
  | .bl x :: r => (bools? r).bind fun t => some (x :: t)
  | _ => none
theorem Zma {F : Hp} : ∀ {ds : List D} {xs : List Bool} {vs : List V}, bools? ds = some xs → Reps K F ds vs → vs = xs.map V.bl
  | [], _, _, e, r => by cases e; cases r; rfl
  | d :: ds, _, _, e, r => by
    cases r with
    | cons h t =>
      unfold bools? at e
      split at e
      · rename_i e0; cases e0
      · rename_i x r0 e0
        cases e0
        obtain ⟨ys, e1, e2⟩ := Option.bind_eq_some_iff.mp e
        cases e2
        cases h
        rw [Zma e1 t]; rfl
      · cases e
@[simp] noncomputable def allD : List D → Option SV
  | [.lst xs] => (bools? xs).bind fun bs => some (.fz (.bl (bs.all id)))
  | _ => none
theorem Z07 : Zha Z (rAll K) allD := by
  intro F H σ δ own vs ds sv Q s r e k
  unfold allD at e
  split at e
  · obtain ⟨bs, e1, e2⟩ := Option.bind_eq_some_iff.mp e
    cases e2
    cases r with
    | cons h1 t =>
      cases t
      obtain ⟨a, vs, rfl, ha, ra⟩ := h1.lst s.le
      rw [Zma e1 ra] at ha
      exact ⟨a, bs, rfl, ha, k.fz s (.bl _)⟩
  · cases e
end
section
variable {X : Cx} {Z : Ent X.K} {a b c : Expr} {fa fb fc : FE} {pos : Pos} {tg : Expr}
theorem Zc5 (ha : PE X a (Ze Z fa)) : PI X tg a (Zgq Z (anyI fa)) := fun pins s σ H R I h => Zx7 ha pins s σ H R I (Zx9 h)
theorem Zow {apos cpos : Pos} (ha : PE X a (Ze Z fa)) (hb : PE X b (Ze Z fb)) (hbase : attributeBase a "split" X.env (eval a X.env) = eval a X.env := by rfl)
    (hfew : ((backTo cpos (starEach [b] X.env)).all (fun x => !x.1) && (backToKw cpos (keywordEach [] X.env)).all (fun x => x.1.isSome) && decide ([b].length + ([] : List Keyword).length + (if ([] : List Keyword).isEmpty then 0 else 1) < 30)) = true := by rfl)
    (hline : (apos.endLine == cpos.line) = true := by rfl) (hs : starEach [b] X.env = (false, eval b X.env) :: starEach [] X.env := by rfl) (hpl : (backTo cpos (starEach [] X.env)).any (·.1) = false := by rfl) :
    PE X (.Call (.Attribute a "split" apos) [b] [] cpos) (Ze Z (bmF "str" Zjx fa (Zc fb Zi))) :=
  (Zkw PySem.F.plainAttrs_str PySem.F.slot_str_split PySem.F.type_str_split Zrl ha (Zm hb Zba hs) hbase hfew hline hs hpl).imp fun _ _ _ h => l_bm Zuy h
theorem Zlf {apos cpos : Pos} (ha : PE X a (Ze Z fa)) (hb : PE X b (Ze Z fb)) (hbase : attributeBase a "partition" X.env (eval a X.env) = eval a X.env := by rfl)
    (hfew : ((backTo cpos (starEach [b] X.env)).all (fun x => !x.1) && (backToKw cpos (keywordEach [] X.env)).all (fun x => x.1.isSome) && decide ([b].length + ([] : List Keyword).length + (if ([] : List Keyword).isEmpty then 0 else 1) < 30)) = true := by rfl)
    (hline : (apos.endLine == cpos.line) = true := by rfl) (hs : starEach [b] X.env = (false, eval b X.env) :: starEach [] X.env := by rfl) (hpl : (backTo cpos (starEach [] X.env)).any (·.1) = false := by rfl) :
    PE X (.Call (.Attribute a "partition" apos) [b] [] cpos) (Ze Z (bmF "str" Zei fa (Zc fb Zi))) :=
  (Zkw PySem.F.plainAttrs_str PySem.F.slot_str_partition PySem.F.type_str_partition Zux ha (Zm hb Zba hs) hbase hfew hline hs hpl).imp fun _ _ _ h => l_bm Zle h
theorem Z08 {p : Pos} (hm : X.mg "all" = none) (ha : PE X a (Ze Z fa)) (hc : X.calm = true := by rfl) (hg : Gl X "all" := by rfl) (he : starEach [a] X.env = (false, eval a X.env) :: starEach [] X.env := by rfl) (hpl : (backTo pos (starEach [] X.env)).any (·.1) = false := by rfl) : PE X (.Call (.Name "all" p) [a] [] pos) (Ze Z (Zb7 allD (Zc fa Zi))) :=
  Zor (Zrm hc) Z07 hm boot_all (Zm ha Zba he) hg (by decide) (by decide) he hpl
end
end DL
namespace L2
open PySem PySem.Spec PyProof.Rows
open AutoSeq1 (wpAny_loadPart')
section
variable {prog : Program} {w : World} {A : Around} {E : Value → Shared → Prop} {s : Shared}
end
section
variable {X : Cx} {tg : Expr}
end
end L2
namespace DL
open PySem PySem.Spec PyProof.Rows L2
variable {K : PySem.W.Frag}
section
variable {Z : Ent K} {H : Hp} {σ : L2.St} {Q : VK}
end
section
variable {X : Cx} {Z : Ent X.K} {a : Expr} {fa : FE} {pos : Pos}
end
end DL
namespace L2
open PySem PySem.Spec PyProof.Rows
variable {X : Cx}
noncomputable def Zs3 (K : PySem.W.Frag) : V → List V → Hp → VK → Prop := fun x xs H Q => ∃ sep p ys, x = .str sep ∧ xs = [.ref p] ∧ (SqL K H p (ys.map V.str) ∨ SqT K H p (ys.map V.str)) ∧ JoinOk sep ys = true ∧ Q (.str (Txt.join sep ys)) H
theorem Zrn : MtR X "str.join" (Zs3 X.K) := by
  intro pins s σ H x xs v us Q I rx rs h
  obtain ⟨sep, p, ys, rfl, rfl, hq, hok, q⟩ := h
  rcases hq with hq | hq
  · exact Zup pins s σ H _ _ v us Q I rx rs ⟨sep, p, ys, rfl, rfl, hq, hok, q⟩
  · obtain ⟨t, rfl⟩ := rx
    obtain ⟨u, rfl, ru⟩ := Zf2 rs
    cases ru
    obtain ⟨its, rv, pl, hz⟩ := I.tuple hq
    obtain ⟨l, e1, e2⟩ := Zew rv
    subst e1 e2
    have hok' := hok
    unfold JoinOk at hok'
    rw [Bool.not_eq_true'] at hok'
    obtain ⟨o, ho, hc, n, hd⟩ := (show s.heap.IsTuple p (strValues l).toArray from pl)
    exact call_meets F.slot_str_join (typeIs_str _ _ _) F.entry_str_join (F.args_str_join_2 _ _) (meets_str_join_tuple sep t p l hok') ⟨⟨o, n, ho, hc, hd⟩, post_join l ⟨joinFit_length hok', fun t' k => ⟨.str (Txt.join sep (l.map (·.1))), H, I.tok _, ⟨_, rfl⟩, q⟩⟩⟩
end L2
namespace DL
open PySem PySem.Spec PyProof.Rows L2
variable {K : PySem.W.Frag}
@[simp] noncomputable def Zcg : List D → Option SV
  | [.str sep, .lst xs] => (strs? xs).bind fun ys => if JoinOk sep ys = true then some (.fz (.str (Txt.join sep ys))) else none
  | [.str sep, .tup xs] => (strs? xs).bind fun ys => if JoinOk sep ys = true then some (.fz (.str (Txt.join sep ys))) else none
  | _ => none
theorem Zuz {Z : Ent K} : Zrd Z (Zs3 K) Zcg := by
  intro F H σ δ own vs ds sv Q s r e k
  unfold Zcg at e
  split at e
  · obtain ⟨ys, e1, e2⟩ := Option.bind_eq_some_iff.mp e
    split at e2
    · rename_i hok
      cases e2
      cases r with
      | cons h1 t1 =>
        cases t1 with
        | cons h2 t2 =>
          cases t2
          obtain ⟨a, us, ex, ha, ra⟩ := h2.lst s.le
          rw [Zk5 e1 ra] at ha
          exact ⟨_, _, rfl, _, a, ys, h1.str, by rw [ex], .inl ha, hok, k.fz s (.str _)⟩
    · cases e2
  · obtain ⟨ys, e1, e2⟩ := Option.bind_eq_some_iff.mp e
    split at e2
    · rename_i hok
      cases e2
      cases r with
      | cons h1 t1 =>
        cases t1 with
        | cons h2 t2 =>
          cases t2
          obtain ⟨a, us, ex, ha, ra⟩ := h2.tup s.le
          rw [Zk5 e1 ra] at ha
          exact ⟨_, _, rfl, _, a, ys, h1.str, by rw [ex], .inr ha, hok, k.fz s (.str _)⟩
    · cases e2
  · cases e
section
variable {X : Cx} {Z : Ent X.K} {a b : Expr} {fa fb : FE}
theorem Zbt {apos cpos : Pos} (ha : PE X a (Ze Z fa)) (hb : PE X b (Ze Z fb)) (hbase : attributeBase a "join" X.env (eval a X.env) = eval a X.env := by rfl)
    (hfew : ((backTo cpos (starEach [b] X.env)).all (fun x => !x.1) && (backToKw cpos (keywordEach [] X.env)).all (fun x => x.1.isSome) && decide ([b].length + ([] : List Keyword).length + (if ([] : List Keyword).isEmpty then 0 else 1) < 30)) = true := by rfl)
    (hline : (apos.endLine == cpos.line) = true := by rfl) (hs : starEach [b] X.env = (false, eval b X.env) :: starEach [] X.env := by rfl) (hpl : (backTo cpos (starEach [] X.env)).any (·.1) = false := by rfl) :
    PE X (.Call (.Attribute a "join" apos) [b] [] cpos) (Ze Z (bmF "str" Zcg fa (Zc fb Zi))) :=
  (Zkw PySem.F.plainAttrs_str PySem.F.slot_str_join PySem.F.type_str_join Zrn ha (Zm hb Zba hs) hbase hfew hline hs hpl).imp fun _ _ _ h => l_bm Zuz h
end
end DL
namespace L2
open PySem PySem.Spec PyProof.Rows
variable {X : Cx}
noncomputable def Z09 : R2 := fun x y H Q => ∃ a v, x = .ref a ∧ DGet H a y (some v) ∧ Q v H
noncomputable def rDIn : R2 := fun y x H Q => ∃ a o, x = .ref a ∧ DGet H a y o ∧ Q (.bl o.isSome) H
theorem Zhn (hu : X.A.units + 1 < cLine) : OpR X (compareOp .In) rDIn := by
  intro pins s σ H y x v u Q I ry rx h
  obtain ⟨a, o, rfl, g, q⟩ := h
  cases rx
  exact d_in hu I g ry fun s' I' => ⟨.bl o.isSome, H, I', rfl, q⟩
end L2
namespace DL
open PySem PySem.Spec PyProof.Rows L2
variable {K : PySem.W.Frag}
@[simp] noncomputable def D.key? : D → Option Key
  | .int i => some (.inl i)
  | .str x => some (.inr x)
  | _ => none
@[simp] noncomputable def keys? : List D → Option (List Key)
  | [] => some []
  | d :: r => d.key?.bind fun k => (keys? r).bind fun t => some (k :: t)
section
variable {κ : Type} [DecidableEq κ]
@[simp] noncomputable def look (ks : List κ) (vs : List D) (k : κ) : Option D := match ks, vs with
  | a :: ks, v :: vs => if a = k then some v else look ks vs k
  | _, _ => none
theorem Zlg {F : Hp} (k : κ) : ∀ (kvs : List (κ × V)) (ds : List D), Reps K F ds (kvs.map (·.2)) → match look (kvs.map (·.1)) ds k with
    | some d => ∃ v, valV kvs k = some v ∧ Rep K F d v
    | none => valV kvs k = none
  | [], _, r => by cases r; exact Zqx
  | p :: kvs, _, r => by
    cases r with
    | @cons d v ds vs h t =>
      show match (if p.1 = k then some d else look (kvs.map (·.1)) ds k) with
        | some d => ∃ v, valV (p :: kvs) k = some v ∧ Rep K F d v
        | none => valV (p :: kvs) k = none
      by_cases e : p.1 = k
      · rw [if_pos e]
        exact ⟨p.2, Zga e, h⟩
      · rw [if_neg e, Zgb e]
        exact Zlg k kvs ds t
@[simp] noncomputable def putA (ks : List κ) (vs : List D) (k : κ) (v : D) : List κ × List D :=
  if k ∈ ks then (ks, (ks.zip vs).map fun p => if p.1 = k then v else p.2) else (ks ++ [k], vs ++ [v])
theorem Reps.length_map {F : Hp} {α : Type} {ds : List D} {kvs : List (α × V)} (r : Reps K F ds (kvs.map (·.2))) : ds.length = kvs.length := by rw [r.length, List.length_map]
theorem Zox {F : Hp} {k : κ} {d : D} {v : V} (hd : Rep K F d v) : ∀ (kvs : List (κ × V)) (ds : List D), Reps K F ds (kvs.map (·.2)) →
    Reps K F (((kvs.map (·.1)).zip ds).map fun p => if p.1 = k then d else p.2) ((kvs.map fun kv => if kv.1 = k then (kv.1, v) else kv).map (·.2))
  | [], _, r => by cases r; exact .nil
  | p :: kvs, _, r => by
    cases r with
    | @cons d' v' ds vs h t =>
      have ih := Zox (k := k) hd kvs ds t
      show Reps K F ((if p.1 = k then d else d') :: (((kvs.map (·.1)).zip ds).map fun p => if p.1 = k then d else p.2)) ((if p.1 = k then (p.1, v) else p).2 :: ((kvs.map fun kv => if kv.1 = k then (kv.1, v) else kv).map (·.2)))
      refine .cons ?_ ih
      by_cases e : p.1 = k
      · rw [if_pos e, if_pos e]; exact hd
      · rw [if_neg e, if_neg e]; exact h
theorem Zro {k : κ} {v : V} (kvs : List (κ × V)) : (kvs.map fun kv => if kv.1 = k then (kv.1, v) else kv).map (·.1) = kvs.map (·.1) := by
  rw [List.map_map]
  refine List.map_congr_left fun p _ => ?_
  show (if p.1 = k then (p.1, v) else p).1 = p.1
  split <;> rfl
theorem Zoy (k : κ) (kvs : List (κ × V)) : (kvs.any fun kv => decide (kv.1 = k)) = true ↔ k ∈ kvs.map (·.1) := by
  rw [List.any_eq_true, List.mem_map]
  constructor
  · rintro ⟨p, h1, h2⟩; exact ⟨p, h1, of_decide_eq_true h2⟩
  · rintro ⟨p, h1, h2⟩; exact ⟨p, h1, decide_eq_true h2⟩
theorem Zs4 {F : Hp} {k : κ} {d : D} {v : V} (hd : Rep K F d v) (kvs : List (κ × V)) (ds : List D) (r : Reps K F ds (kvs.map (·.2))) :
    (putK kvs k v).map (·.1) = (putA (kvs.map (·.1)) ds k d).1 ∧ Reps K F (putA (kvs.map (·.1)) ds k d).2 ((putK kvs k v).map (·.2)) := by
  unfold putK putA
  by_cases h : k ∈ kvs.map (·.1)
  · rw [if_pos h, if_pos ((Zoy k kvs).mpr h)]
    exact ⟨Zro kvs, Zox hd kvs ds r⟩
  · rw [if_neg h, if_neg fun z => h ((Zoy k kvs).mp z), List.map_append, List.map_append]
    exact ⟨rfl, r.snoc hd⟩
end
theorem Zoz {F H : Hp} {d : D} {k : Key} {y : V} (e : d.key? = some k) (r : RepN K F H d y) : y = kV k := by
  cases d with
  | int i => cases e; exact r.int
  | str x => cases e; exact r.str
  | _ => cases e
theorem Zu0 {F : Hp} {d : D} {k : Key} {y : V} (e : d.key? = some k) (r : Rep K F d y) : y = kV k := Zoz (H := F) e (RepN.of r)
theorem Zlh {F : Hp} : ∀ {ds : List D} {ks : List Key} {vs : List V}, keys? ds = some ks → Reps K F ds vs → vs = ks.map kV
  | [], _, _, e, r => by cases e; cases r; rfl
  | d :: ds, _, _, e, r => by
    cases r with
    | cons h t =>
      obtain ⟨k, e1, e2⟩ := Option.bind_eq_some_iff.mp e
      obtain ⟨t', e3, e4⟩ := Option.bind_eq_some_iff.mp e2
      cases e4
      rw [Zu0 e1 h, Zlh e3 t]; rfl
theorem RepN.tupH {F H : Hp} {xs : List D} {v : V} (le : Same F H) (h : RepN K F H (.tup xs) v) : ∃ a vs, v = .ref a ∧ H a = some (.tup vs) ∧ Reps K F xs vs := by
  obtain ⟨sv, ns, e, n, sh, hp⟩ := h
  cases sh with
  | fz r => cases e; cases r with | tup h r => exact ⟨_, _, rfl, le _ _ h, r⟩
  | ol r => cases e
  | oK e' r => cases e
  | oT kb e' r => cases e
  | oN e' r => cases n
  | oL _ r => cases n
@[simp] noncomputable def getO : D → D → Option (Option D)
  | .dK ks vs, d => d.key?.bind fun k => some (look ks vs k)
  | .dT ks vs, .tup xs => (keys? xs).bind fun k => some (look ks vs k)
  | _, _ => none
theorem Zmb {F H : Hp} {d1 d2 : D} {x y : V} {o : Option D} (le : Same F H) (e : getO d1 d2 = some o) (r1 : RepN K F H d1 x) (r2 : RepN K F H d2 y) :
    ∃ a, x = .ref a ∧ IsD H a ∧ match o with
      | some d => ∃ v, DGet H a y (some v) ∧ Rep K F d v
      | none => DGet H a y none := by
  unfold getO at e
  split at e
  · obtain ⟨k, e1, e2⟩ := Option.bind_eq_some_iff.mp e
    obtain ⟨a, kvs, rfl, ha, rfl, rr⟩ := r1.dK le
    refine ⟨a, rfl, .inl ⟨kvs, ha.rd⟩, ?_⟩
    rw [Zoz e1 r2]
    have z := Zlg k kvs _ rr
    have g := DGet.k (k := k) ha
    rw [Option.some.inj e2] at z
    cases o with
    | none => rw [show valV kvs k = none from z] at g; exact g
    | some d => obtain ⟨v, z1, z2⟩ := z; rw [z1] at g; exact ⟨v, g, z2⟩
  · obtain ⟨k, e1, e2⟩ := Option.bind_eq_some_iff.mp e
    obtain ⟨a, kvs, rfl, ha, rfl, rr⟩ := r1.dT le
    obtain ⟨b, vs, rfl, hb, rb⟩ := r2.tupH le
    refine ⟨a, rfl, .inr ⟨kvs, ha.rd⟩, ?_⟩
    rw [Zlh e1 rb] at hb
    have z := Zlg k kvs _ rr
    have g := DGet.t ha hb
    rw [Option.some.inj e2] at z
    cases o with
    | none => rw [show valV kvs k = none from z] at g; exact g
    | some d => obtain ⟨v, z1, z2⟩ := z; rw [z1] at g; exact ⟨v, g, z2⟩
  · cases e
section
variable {Z : Ent K}
@[simp] noncomputable def Zu1 (d1 d2 : D) : Option SV := (getO d1 d2).bind fun o => o.bind fun d => some (.fz d)
theorem Zya : Zbr Z Z09 Zu1 := by
  intro F H σ δ own x y d1 d2 sv Q s r1 r2 e k
  obtain ⟨o, e1, e2⟩ := Option.bind_eq_some_iff.mp e
  obtain ⟨d, e3, e4⟩ := Option.bind_eq_some_iff.mp e2
  cases e4
  subst e3
  obtain ⟨a, rfl, _, v, g, rv⟩ := Zmb s.le e1 r1 r2
  exact ⟨a, v, rfl, g, k.fz s rv⟩
@[simp] noncomputable def inDd (d1 d2 : D) : Option SV := (getO d2 d1).bind fun o => some (.fz (.bl o.isSome))
theorem Zyb : Zbr Z rDIn inDd := by
  intro F H σ δ own x y d1 d2 sv Q s r1 r2 e k
  obtain ⟨o, e1, e2⟩ := Option.bind_eq_some_iff.mp e
  cases e2
  obtain ⟨a, rfl, _, g⟩ := Zmb s.le e1 r2 r1
  cases o with
  | none => exact ⟨a, none, rfl, g, k.fz s (.bl _)⟩
  | some d => obtain ⟨v, g, _⟩ := g; exact ⟨a, some v, rfl, g, k.fz s (.bl _)⟩
@[simp] noncomputable def D.isD : D → Bool
  | .dK _ _ => true | .dT _ _ => true | _ => false
@[simp] noncomputable def ixX (d1 d2 : D) : Option SV := if d1.isD = true then Zu1 d1 d2 else ixD d1 d2
@[simp] noncomputable def inX (d1 d2 : D) : Option SV := if d2.isD = true then inDd d1 d2 else inD d1 d2
theorem Zo0 {H : Hp} {σ : L2.St} {Q : VK} {fa fb : FE} {g g1 g2' : D → D → Option SV} (hg : ∀ d1 d2 sv, g d1 d2 = some sv → g1 d1 d2 = some sv ∨ g2' d1 d2 = some sv) (h : Ze Z (binF g fa fb) σ H Q) : Ze Z (binF g1 fa fb) σ H Q ∨ Ze Z (binF g2' fa fb) σ H Q := by
  obtain ⟨F, δ, own, rv, δ', s, e, k⟩ := h
  obtain ⟨⟨rvs, δ1⟩, e1, e2⟩ := Option.bind_eq_some_iff.mp e
  obtain ⟨ds, e3, e4⟩ := Option.bind_eq_some_iff.mp e2
  obtain ⟨sv, e5, e6⟩ := Option.bind_eq_some_iff.mp e4
  have : (g2 g1) ds = some sv ∨ (g2 g2') ds = some sv := by
    unfold g2 at e5 ⊢
    split at e5
    · exact hg _ _ _ e5
    · cases e5
  rcases this with z | z
  · exact .inl ⟨F, δ, own, rv, δ', s, Option.bind_eq_some_iff.mpr ⟨_, e1, Option.bind_eq_some_iff.mpr ⟨_, e3, Option.bind_eq_some_iff.mpr ⟨_, z, e6⟩⟩⟩, k⟩
  · exact .inr ⟨F, δ, own, rv, δ', s, Option.bind_eq_some_iff.mpr ⟨_, e1, Option.bind_eq_some_iff.mpr ⟨_, e3, Option.bind_eq_some_iff.mpr ⟨_, z, e6⟩⟩⟩, k⟩
theorem Z1a : Zbr Z (fun x y H Q => (∃ i j, x = .str i ∧ y = .str j ∧ Q (.bl (!(Builtin.Str.occurrences j i 0 j.length 1).isEmpty)) H) ∨ rDIn x y H Q) inX := by
  intro F H σ δ own x y d1 d2 sv Q s r1 r2 e k
  unfold inX at e
  split at e
  · exact .inr (Zyb F H σ δ own x y d1 d2 sv Q s r1 r2 e k)
  · exact .inl (p_in F H σ δ own x y d1 d2 sv Q s r1 r2 e k)
end
section
variable {X : Cx} {Z : Ent X.K} {a b c : Expr} {fa fb fc : FE} {pos : Pos}
theorem Zu (hu : X.A.units + 1 < cLine) (ha : PE X a (Ze Z fa)) (hb : PE X b (Ze Z fb)) (hs : Zn8 b := by intro _ _; rfl) : PE X (.Subscript a b pos) (Ze Z (binF ixX fa fb)) := fun pins s σ H Q I h => by
  rcases Zo0 (g1 := Zu1) (g2' := ixD) (fun d1 d2 sv e => by
    unfold ixX at e
    split at e
    · exact .inl e
    · exact .inr e) h with h | h
  · exact Zt7 hu ha hb hs pins s σ H Q I (Zom Zya h)
  · exact Zqw Zw9 ha hb hs pins s σ H Q I (Zom p_ix h)
end
end DL
namespace L2
open PySem PySem.Spec PyProof.Rows
variable {X : Cx}
noncomputable def Zs5 : V → List V → Hp → VK → Prop := fun x xs H Q => ∃ a, x = .ref a ∧ ((∃ y o, xs = [y] ∧ DGet H a y o ∧ Q (o.getD .non) H) ∨ (∃ y z o, xs = [y, z] ∧ DGet H a y o ∧ Q (o.getD z) H))
theorem Zu2 (hu : X.A.units + 1 < cLine) : MtR X "dict.get" Zs5 := by
  intro pins s σ H x xs v us Q I rx rs h
  obtain ⟨a, rfl, h⟩ := h
  cases rx
  rcases h with ⟨y, o, rfl, g, q⟩ | ⟨y, z, o, rfl, g, q⟩
  · obtain ⟨u, rfl, ru⟩ := Zf2 rs
    exact Zxf hu I g ru fun w' s' I' r' => ⟨_, H, I', r', q⟩
  · obtain ⟨u, w', rfl, r1, r2⟩ := Zw1 rs
    exact Zxg hu I g r1 r2 fun w' s' I' r' => ⟨_, H, I', r', q⟩
end L2
namespace DL
open PySem PySem.Spec PyProof.Rows L2
variable {K : PySem.W.Frag}
section
variable {Z : Ent K} {H : Hp} {σ : L2.St} {Q : VK} {E : Ends}
@[simp] noncomputable def Zli : FE := fun δ => some (.tmp (.oK [] []), δ)
theorem Zu3 (h : Ze Z Zli σ H Q) : Zsv σ H Q := by
  obtain ⟨F, δ, own, rv, δ', s, e, k⟩ := h
  cases e
  intro p hp
  have f : Fin Z F H σ δ own (.oK [] []) Q := fun v H' F' ns a b c t => k v H' F' own a b c ⟨ns, t⟩
  exact f.one s (.oK (kvs := []) rfl .nil) hp
@[simp] noncomputable def SV.isOD : Option (Option SV) → Bool
  | some (some (.oK _ _)) => true
  | some (some (.oT _ _)) => true
  | _ => false
@[simp] noncomputable def putS (kd d : D) : Option (Option SV) → Option SV
  | some (some (.oK ks vs)) => kd.key?.bind fun k => if vs.length < PySem.sizeLine then some (.oK (putA ks vs k d).1 (putA ks vs k d).2) else none
  | some (some (.oT ks vs)) => match kd with
    | .tup xs => (keys? xs).bind fun k => if vs.length < PySem.sizeLine then some (.oT (putA ks vs k d).1 (putA ks vs k d).2) else none
    | _ => none
  | _ => none
@[simp] noncomputable def putF (i : Nat) (fk fv : FE) : FS := fun δ => (fv δ).bind fun p => (frz p.1 p.2).bind fun q => if SV.isOD (q.2[i]?) = true then (fk q.2).bind fun r => (rdv r.1 r.2).bind fun kd => (putS kd q.1 (r.2[i]?)).bind fun sv => some (.nx (r.2.set i (some sv))) else none
theorem Zrp {F : Hp} {ks : List Key} {ds : List D} {v : V} {ns : Zp} (h : Shape K F (.oK ks ds) v ns) : ∃ a kvs ep, v = .ref a ∧ ns = [(a, .dK kvs ep)] ∧ kvs.map (·.1) = ks ∧ Reps K F ds (kvs.map (·.2)) := by
  cases h with
  | oK e r => exact ⟨_, _, _, rfl, rfl, e, r⟩
theorem Zrq {F : Hp} {ks : List (List Key)} {ds : List D} {v : V} {ns : Zp} (h : Shape K F (.oT ks ds) v ns) : ∃ a kvs ep bs, v = .ref a ∧ ns = [(a, .dT kvs ep bs)] ∧ KB F kvs bs ∧ kvs.map (·.1) = ks ∧ Reps K F ds (kvs.map (·.2)) := by
  cases h with
  | oT kb e r => exact ⟨_, _, _, _, rfl, rfl, kb, e, r⟩
theorem KB.put {F : Hp} {kvs : List (List Key × V)} {bs : List Addr} {k : List Key} {b : Addr} {v : V} (h : KB F kvs bs) (hb : F b = some (.tup (k.map kV))) : KB F (putK kvs k v) (putB kvs bs k b) := by
  unfold putK putB
  split
  · unfold KB at *
    clear hb
    rename_i hq
    clear hq
    induction h with
    | nil => exact .nil
    | @cons p c ps cs h1 t ih =>
      rw [List.map_cons]
      refine .cons ?_ ih
      by_cases e : p.1 = k
      · rw [if_pos e]; exact h1
      · rw [if_neg e]; exact h1
  · exact Paired.snoc h hb
theorem RepN.tupF {F H : Hp} {xs : List D} {v : V} (h : RepN K F H (.tup xs) v) : ∃ a vs, v = .ref a ∧ F a = some (.tup vs) ∧ Reps K F xs vs := by
  obtain ⟨sv, ns, e, n, sh, hp⟩ := h
  cases sh with
  | fz r => cases e; cases r with | tup h r => exact ⟨_, _, rfl, h, r⟩
  | ol r => cases e
  | oK e' r => cases e
  | oT kb e' r => cases e
  | oN e' r => cases n
  | oL _ r => cases n
theorem Zu4 {o : Option (Option SV)} (h : SV.isOD o = true) : ∃ sv, o = some (some sv) := by
  unfold SV.isOD at h
  split at h
  · exact ⟨_, rfl⟩
  · exact ⟨_, rfl⟩
  · cases h
theorem Z1b {i : Nat} {fk fv : FE} (h : Zo Z (putF i fk fv) E σ H) : Zxe (tVar i) (Ze Z fk) (Ze Z fv) E σ H := by
  obtain ⟨F, δ, own, fl, s, e, k⟩ := h
  obtain ⟨⟨rv, δ1⟩, e1, e⟩ := Option.bind_eq_some_iff.mp e
  obtain ⟨⟨d, δ2⟩, e2, e⟩ := Option.bind_eq_some_iff.mp e
  dsimp only at e
  split at e
  · rename_i hod
    obtain ⟨⟨rk, δ3⟩, e3, e⟩ := Option.bind_eq_some_iff.mp e
    obtain ⟨kd, e4, e⟩ := Option.bind_eq_some_iff.mp e
    obtain ⟨sv, e5, e⟩ := Option.bind_eq_some_iff.mp e
    cases e
    refine ⟨F, δ, own, rv, δ1, s, e1, fun v H1 F1 own1 sH1 sF1 s1 r1 => ?_⟩
    obtain ⟨F2, sF2, s2, r2⟩ := s1.settleR r1
    obtain ⟨F3, own3, sF3, s3, r3⟩ := s2.frzR r2 e2
    obtain ⟨sv0, hsv0⟩ := Zu4 hod
    obtain ⟨x, hx, _⟩ := s3.at' i sv0 hsv0
    refine ⟨x, hx, F3, δ2, own3, rk, δ3, s3, e3, fun y H4 F4 own4 sH4 sF4 s4 r4 => ?_⟩
    obtain ⟨F5, sF5, s5, r5⟩ := s4.settleR r4
    have rk' := s5.rd r5 e4
    have rd : Rep K F5 d v := r3.mono (sF4.trans sF5)
    have sF : Same F F5 := sF1.trans (sF2.trans (sF3.trans (sF4.trans sF5)))
    dsimp only at e5
    generalize ho : δ3[i]? = o at e5
    unfold putS at e5
    split at e5
    · rename_i ks vs
      obtain ⟨kk, f1, f2⟩ := Option.bind_eq_some_iff.mp e5
      split at f2
      · rename_i hz
        cases f2
        obtain ⟨x', hx', sh⟩ := s5.at' i _ ho
        rw [hx] at hx'; cases hx'
        obtain ⟨a, kvs, ep0, ea, en, rfl, rr⟩ := Zrp sh
        subst ea
        have mb : (a, HO.dK kvs ep0) ∈ own4 i := by rw [en]; exact List.mem_cons_self
        have hH := (s5.ok i _ mb).2.2
        have z := Zs4 (k := kk) rd kvs vs rr
        refine ⟨a, rfl, ?_⟩
        rw [Zoz f1 rk']
        refine DPut.k ⟨_, hH⟩ (by rw [← rr.length_map]; exact hz) fun ep => ?_
        exact k σ _ F5 _ sF (s5.change (sv' := .oK (putA (kvs.map (·.1)) vs kk d).1 (putA (kvs.map (·.1)) vs kk d).2) (o' := .dK (putK kvs kk v) ep) (ns' := [(a, .dK (putK kvs kk v) ep)]) ho hx mb (.oK z.1 z.2) (fun p hp => .inl (List.mem_singleton.mp hp)) nd1)
      · cases f2
    · rename_i ks vs
      split at e5
      · rename_i xs
        obtain ⟨kk, f1, f2⟩ := Option.bind_eq_some_iff.mp e5
        split at f2
        · rename_i hz
          cases f2
          obtain ⟨x', hx', sh⟩ := s5.at' i _ ho
          rw [hx] at hx'; cases hx'
          obtain ⟨a, kvs, ep0, bs0, ea, en, kb, rfl, rr⟩ := Zrq sh
          subst ea
          have mb : (a, HO.dT kvs ep0 bs0) ∈ own4 i := by rw [en]; exact List.mem_cons_self
          have hH := (s5.ok i _ mb).2.2
          have z := Zs4 (k := kk) rd kvs vs rr
          obtain ⟨b, us, rfl, hbF, rb⟩ := rk'.tupF
          rw [Zlh f1 rb] at hbF
          refine ⟨a, rfl, DPut.t ⟨_, _, hH⟩ (s5.le _ _ hbF) (by rw [← rr.length_map]; exact hz) fun ep ep1 bs1 hq => ?_⟩
          rw [hH] at hq
          cases hq
          exact k σ _ F5 _ sF (s5.change (sv' := .oT (putA (kvs.map (·.1)) vs kk d).1 (putA (kvs.map (·.1)) vs kk d).2) (o' := .dT (putK kvs kk v) ep (putB kvs bs0 kk b)) (ns' := [(a, .dT (putK kvs kk v) ep (putB kvs bs0 kk b))]) ho hx mb (.oT (kb.put hbF) z.1 z.2) (fun p hp => .inl (List.mem_singleton.mp hp)) nd1)
        · cases f2
      · cases e5
    · cases e5
  · cases e
@[simp] noncomputable def bmDF (T : String) (g : D → List D → Option SV) (fo : FE) (fd : FD) : FE := fun δ => (fo δ).bind fun p => (rdv p.1 p.2).bind fun d0 => if tyOk T d0 = true then (fd p.2).bind fun q => (rdv p.1 q.2).bind fun d1 => (g d1 q.1).bind fun sv => some (.tmp sv, q.2) else none
noncomputable def Zyc (Z : Ent K) (r : V → List V → Hp → VK → Prop) (g : D → List D → Option SV) : Prop :=
  ∀ (F H : Hp) (σ : L2.St) (δ : DSt) (own : Nat → Zp) (x : V) (d : D) (vs : List V) (ds : List D) (sv : SV) (Q : VK), SR Z F H σ δ own → RepN K F H d x → Reps K F ds vs → g d ds = some sv → Fin Z F H σ δ own sv Q → r x vs H Q
theorem Z1c {T : String} {r : V → List V → Hp → VK → Prop} {g : D → List D → Option SV} {fo : FE} {fd : FD} (hg : Zyc Z r g) (h : Ze Z (bmDF T g fo fd) σ H Q) : tBM K T r (Ze Z fo) (Zem Z fd) σ H Q := by
  obtain ⟨F, δ, own, rv, δ', s, e, k⟩ := h
  obtain ⟨⟨rv1, δ1⟩, e1, e⟩ := Option.bind_eq_some_iff.mp e
  obtain ⟨d0, e2, e⟩ := Option.bind_eq_some_iff.mp e
  dsimp only at e
  split at e
  · rename_i ht
    obtain ⟨⟨ds, δ2⟩, e3, e⟩ := Option.bind_eq_some_iff.mp e
    obtain ⟨d1, e4, e⟩ := Option.bind_eq_some_iff.mp e
    obtain ⟨sv, e5, e⟩ := Option.bind_eq_some_iff.mp e
    cases e
    refine ⟨F, δ, own, rv1, δ1, s, e1, fun v H1 F1 own1 sH1 sF1 s1 r1 => ?_⟩
    obtain ⟨F1', sF1', s1', r1'⟩ := s1.settleR r1
    refine ⟨Zx2 s1'.le (s1'.rd r1' e2) ht, F1', δ1, own1, ds, δ2, s1', e3, fun vs H2 F2 own2 sH2 sF2 s2 r2 => ?_⟩
    exact hg F2 H2 σ δ2 own2 v d1 vs ds sv Q s2 (s2.rd (r1'.mono sF2) e4) r2 e5 fun q H4 F4 ns sH4 sF4 s4 t4 =>
      k q H4 F4 own2 (sH1.trans (sH2.trans sH4)) (sF1.trans (sF1'.trans (sF2.trans sF4))) s4 ⟨ns, t4⟩
  · cases e
@[simp] noncomputable def Zjz : D → List D → Option SV
  | d, [y] => (getO d y).bind fun o => some (.fz (o.getD .non))
  | d, [y, z] => (getO d y).bind fun o => some (.fz (o.getD z))
  | _, _ => none
theorem Zu5 : Zyc Z Zs5 Zjz := by
  intro F H σ δ own x d vs ds sv Q s r1 r2 e k
  unfold Zjz at e
  split at e
  · obtain ⟨o, e1, e2⟩ := Option.bind_eq_some_iff.mp e
    cases e2
    cases r2 with
    | cons h t =>
      cases t
      obtain ⟨a, rfl, _, g⟩ := Zmb s.le e1 r1 (RepN.of h)
      cases o with
      | none => exact ⟨a, rfl, .inl ⟨_, none, rfl, g, k.fz s .non⟩⟩
      | some d => obtain ⟨v, g, rv⟩ := g; exact ⟨a, rfl, .inl ⟨_, some v, rfl, g, k.fz s rv⟩⟩
  · obtain ⟨o, e1, e2⟩ := Option.bind_eq_some_iff.mp e
    cases e2
    cases r2 with
    | cons h t =>
      cases t with
      | cons h2 t =>
        cases t
        obtain ⟨a, rfl, _, g⟩ := Zmb s.le e1 r1 (RepN.of h)
        cases o with
        | none => exact ⟨a, rfl, .inr ⟨_, _, none, rfl, g, k.fz s h2⟩⟩
        | some d => obtain ⟨v, g, rv⟩ := g; exact ⟨a, rfl, .inr ⟨_, _, some v, rfl, g, k.fz s rv⟩⟩
  · cases e
end
section
variable {X : Cx} {Z : Ent X.K} {a b c : Expr} {fa fb fc : FE} {pos : Pos}
theorem Zgw : PE X (.Dict [] [] pos) (Ze Z Zli) := Zqz.imp fun _ _ _ h => Zu3 h
theorem Zs6 {apos cpos : Pos} {es : List Expr} {fd : FD} (hu : X.A.units + 1 < cLine) (ha : PE X a (Ze Z fa)) (hb : PA X (b :: es) (Zem Z fd)) (hbase : attributeBase a "get" X.env (eval a X.env) = eval a X.env := by rfl)
    (hfew : ((backTo cpos (starEach (b :: es) X.env)).all (fun x => !x.1) && (backToKw cpos (keywordEach [] X.env)).all (fun x => x.1.isSome) && decide ((b :: es).length + ([] : List Keyword).length + (if ([] : List Keyword).isEmpty then 0 else 1) < 30)) = true := by rfl)
    (hline : (apos.endLine == cpos.line) = true := by rfl) (hs : starEach (b :: es) X.env = (false, eval b X.env) :: starEach es X.env := by rfl) (hpl : (backTo cpos (starEach es X.env)).any (·.1) = false := by rfl) :
    PE X (.Call (.Attribute a "get" apos) (b :: es) [] cpos) (Ze Z (bmDF "dict" Zjz fa fd)) :=
  (Zkw PySem.F.plainAttrs_dict PySem.F.slot_dict_get PySem.F.type_dict_get (Zu2 hu) ha hb hbase hfew hline hs hpl).imp fun _ _ _ h => Z1c Zu5 h
theorem Zu6 (i : Nat) {x : Str} {px p1 : Pos} (hu : X.A.units + 1 < cLine) (hb : PE X b (Ze Z fb)) (hv' : PE X a (Ze Z fa)) (hN : X.N[i]? = some x := by rfl) (hv : Vis X.env.scope x := by first | exact Or.inl rfl | exact Or.inr (Or.inl rfl) | exact Or.inr (Or.inr rfl)) (hd : (x == ("__debug__" : Str)) = false := by decide)
    (hcd : (x == ("__classdict__" : Str)) = false := by decide) (hs : swapsWith a (some (.Subscript (.Name x px) b p1)) pos.line X.env = pure false := by rfl) :
    PS X (.Assign [.Subscript (.Name x px) b p1] a pos) (Zo Z (putF i fb fa)) := (Zt8 hu (Zhf (i := i) hN hv hd hcd) hb hv' hs).imp fun _ _ _ h => Z1b h
end
end DL
namespace L2
open PySem PySem.Spec PyProof.Rows
variable {X : Cx}
noncomputable def Zo1 : List V → Hp → VK → Prop := fun xs H Q => ∃ a kvs, xs = [.ref a] ∧ RdK H a kvs ∧ ∀ p ep, H p = none → Q (.ref p) (upd H p (.dK kvs ep))
theorem Zlj : Zes X (.type "dict") Zo1 := by
  intro pins s σ H xs us Q I rs h
  obtain ⟨a, kvs, rfl, e, q⟩ := h
  obtain ⟨u, rfl, ru⟩ := Zf2 rs
  cases ru
  exact Zq0 I e fun p ep s' hp I' => ⟨.ref p, _, I', rfl, q p ep hp⟩
end L2
namespace DL
open PySem PySem.Spec PyProof.Rows L2
variable {K : PySem.W.Frag}
section
variable {Z : Ent K} {H : Hp} {σ : L2.St} {Q : VK} {E : Ends}
@[simp] noncomputable def Zrr : List D → Option SV
  | [.dK ks vs] => some (.oK ks vs)
  | _ => none
theorem Zrs : Zha Z Zo1 Zrr := by
  intro F H σ δ own vs ds sv Q s r e k
  unfold Zrr at e
  split at e
  · cases e
    cases r with
    | cons h t =>
      cases t
      obtain ⟨a, kvs, rfl, ha, ek, rr⟩ := h.dK s.le
      exact ⟨a, kvs, rfl, ha.rd, fun p ep hp => k.one s (.oK ek rr) hp⟩
  · cases e
end
section
variable {X : Cx} {Z : Ent X.K} {a b c : Expr} {fa fb fc : FE} {pos : Pos}
theorem Zrt {p : Pos} (hm : X.mg "dict" = none) (ha : PE X a (Ze Z fa)) (hg : Gl X "dict" := by rfl) (he : starEach [a] X.env = (false, eval a X.env) :: starEach [] X.env := by rfl) (hpl : (backTo pos (starEach [] X.env)).any (·.1) = false := by rfl) : PE X (.Call (.Name "dict" p) [a] [] pos) (Ze Z (Zb7 Zrr (Zc fa Zi))) :=
  Zk8 Zlj Zrs hm boot_dict (Zm ha Zba he) hg (by decide) (by decide) he hpl
end
end DL
namespace L2
open PySem PySem.Spec PyProof.Rows
section
variable {prog : Program} {w : World} {A : Around} {E : Value → Shared → Prop} {s : Shared}
theorem Znf {Q : Int → Shared → Prop} (h : Q 0xFCA86420 { s with toks := s.toks + 1 }) : wpAny (model prog w) A (pyHash .none) Q E s := by
  have hT : s.TypeIs .none "NoneType" := rfl
  refine PySem.W.pyHash_slot (v := .none) (Q := Q) hT F.slot_NoneType_hash F.entry_NoneType_hash (F.args_NoneType_hash_1 _) rfl (.inl rfl) ?_
  show wpAny (model prog w) A.in1 (mkInt 0xFCA86420 >>= fun v => ret v) _ E s
  refine wpAny_bind (wpAny_mkInt ?_)
  exact wpAny_pure ⟨_, _, rfl, h⟩
end
noncomputable def Zu7 : Option Key → Value → Bool
  | none, .none => true
  | none, _ => false
  | some k, v => Zgg k v
theorem Zak {k : Option Key} {v : Value} (h : Zu7 k v = true) : (k = none ∧ v = .none) ∨ ∃ j, k = some j ∧ Zgg j v = true := by
  cases k with
  | none => cases v <;> first | exact .inl ⟨rfl, rfl⟩ | cases h
  | some j => exact .inr ⟨j, rfl, h⟩
theorem Zic {j : Key} (h : Zgg j .none = true) : False := by
  rcases Z0 h with ⟨i, t, _, e⟩ | ⟨x, t, _, e⟩ <;> cases e
noncomputable def Zo2 (prog : Program) (w : World) : PySem.KeyKind prog w (Option Key) where
  is := Zu7
  hash := fun | none => 0xFCA86420 | some k => (Zx prog w).hash k
  inj := fun v a b ha hb => by
    rcases Zak ha with ⟨rfl, rfl⟩ | ⟨i, rfl, hi⟩
    · rcases Zak hb with ⟨rfl, _⟩ | ⟨j, rfl, hj⟩
      · rfl
      · exact (Zic hj).elim
    · rcases Zak hb with ⟨rfl, rfl⟩ | ⟨j, rfl, hj⟩
      · exact (Zic hi).elim
      · rw [(Zx prog w).inj v i j hi hj]
  byValue := fun k v h => by
    rcases Zak h with ⟨rfl, rfl⟩ | ⟨i, rfl, hi⟩
    · rfl
    · exact (Zx prog w).byValue i v hi
  pyHash := fun {A E s k v Q} hv h => by
    rcases Zak hv with ⟨rfl, rfl⟩ | ⟨i, rfl, hi⟩
    · exact Znf h
    · exact (Zx prog w).pyHash hi h
  eqBool := fun {A E s a b u v Q} hu hv h => by
    rcases Zak hu with ⟨rfl, rfl⟩ | ⟨i, rfl, hi⟩
    · rcases Zak hv with ⟨rfl, rfl⟩ | ⟨j, rfl, hj⟩
      · exact SeqAt.EqAt.same _ _ _ _ _ (by simpa using h)
      · rw [decide_eq_false (fun z => nomatch z)] at h
        rcases Z0 hj with ⟨i, t, rfl, rfl⟩ | ⟨x, t, rfl, rfl⟩
        · exact SeqAt.EqAt.none_int i t _ _ _ _ h
        · exact SeqAt.EqAt.none_str x t _ _ _ _ h
    · rcases Zak hv with ⟨rfl, rfl⟩ | ⟨j, rfl, hj⟩
      · rw [decide_eq_false (fun z => nomatch z)] at h
        rcases Z0 hi with ⟨i, t, rfl, rfl⟩ | ⟨x, t, rfl, rfl⟩
        · exact SeqAt.EqAt.int_none i t _ _ _ _ h
        · exact SeqAt.EqAt.str_none x t _ _ _ _ h
      · refine (Zx prog w).eqBool hi hj ?_
        have e : decide (some i = some j) = decide (i = j) := by simp
        rw [← e]; exact h
  «strs» := fun k x t v h => by
    rcases Zak h with ⟨rfl, e⟩ | ⟨i, rfl, hi⟩
    · cases e
    · exact (Zx prog w).strs i x t v hi
variable {X : Cx}
theorem Zu8 {P : Program} {w : World} {h : Heap} {a : Addr} {vs : List (Key × Value)} (d : h.DictOf (Zx P w) a vs) : h.MapOf (Zo2 P w) a (fun | none => none | some k => valueAt vs k) := by
  obtain ⟨o, es, ep, ho, hc, hd, hk, hf⟩ := d.mapOf
  refine ⟨o, es, ep, ho, hc, hd, fun e he => ?_, fun k => ?_⟩
  · obtain ⟨k, h1, h2⟩ := hk e he
    exact ⟨some k, h1, h2⟩
  · cases k with
    | some k => exact hf k
    | none =>
      show (es.find? fun e => Zu7 none e.key).map (·.val) = none
      rw [Array.find?_eq_none.mpr fun e he z => ?_]
      · rfl
      · obtain ⟨k, h1, _⟩ := hk e he
        rcases Zak z with ⟨_, e2⟩ | ⟨j, e2, _⟩
        · rw [e2] at h1; exact Zic h1
        · cases e2
noncomputable def Zo3 (neg : Bool) : R2 := fun y x H Q => ∃ a kvs, y = .non ∧ x = .ref a ∧ RdK H a kvs ∧ Q (.bl neg) H
theorem Zj0 : OpR X (compareOp .In) (Zo3 false) := by
  intro pins s σ H y x v u Q I ry rx h
  obtain ⟨a, kvs, rfl, rfl, e, q⟩ := h
  cases ry
  cases rx
  obtain ⟨z, hd, vs, rel, dd⟩ := Zji I.hok e
  exact wpAny_in_of (knd := Zo2 X.prog X.w) (k := none) rfl hd (Zu8 dd) ⟨.bl false, H, I.tok _, rfl, q⟩
end L2
namespace L2
open PySem PySem.Spec PyProof.Rows
noncomputable def Zmc (es : Array DictEntry) (kvs : List (Str × Value)) : Prop := es.size = kvs.length ∧ ∀ (i : Nat) (p : Str × Value), kvs[i]? = some p → ∃ e t, es[i]? = some e ∧ e.key = .str p.1 t ∧ e.val = p.2
noncomputable def Zid (h : Heap) (a : Addr) (kvs : List (Str × Value)) : Prop := ∃ o es ep, h.get? a = some o ∧ o.ExactDict ∧ o.data = .dict es ep ∧ Zmc es kvs
noncomputable def Zdn (kvs : List (Str × Value)) (x : Str) : Option Nat := kvs.findIdx? fun p => decide (p.1 = x)
theorem Zmc.find {es : Array DictEntry} {kvs : List (Str × Value)} (h : Zmc es kvs) (x : Str) : (es.findIdx? fun e => e.key.isStr x) = Zdn kvs x := by
  unfold Zdn
  have hA : (es.findIdx? fun e => e.key.isStr x) = es.toList.findIdx? fun e => e.key.isStr x := by obtain ⟨l⟩ := es; simp
  rw [hA]
  have : ∀ (es : List DictEntry) (kvs : List (Str × Value)), es.length = kvs.length → (∀ (i : Nat) (p : Str × Value), kvs[i]? = some p → ∃ e t, es[i]? = some e ∧ e.key = .str p.1 t ∧ e.val = p.2) →
      es.findIdx? (fun e => e.key.isStr x) = kvs.findIdx? fun p => decide (p.1 = x) := by
    intro es
    induction es with
    | nil => intro kvs hl _; cases kvs with
      | nil => rfl
      | cons p r => cases hl
    | cons e es ih =>
      intro kvs hl hp
      cases kvs with
      | nil => cases hl
      | cons p r =>
        obtain ⟨e', t, h1, h2, h3⟩ := hp 0 p rfl
        obtain rfl : e = e' := by simpa using h1
        have hk : e.key.isStr x = decide (p.1 = x) := by
          rw [h2]
          show (p.1 == x) = _
          by_cases z : p.1 = x
          · rw [z]; simp
          · rw [decide_eq_false z]; exact beq_eq_false_iff_ne.mpr z
        rw [List.findIdx?_cons, List.findIdx?_cons, hk, ih r (by simpa using hl) (fun i q hq => hp (i + 1) q (by simpa using hq))]
  exact this es.toList kvs (by rw [Array.length_toList]; exact h.1) (fun i p hp => by
    obtain ⟨e, t, h1, h2⟩ := h.2 i p hp
    exact ⟨e, t, by rw [Array.getElem?_toList]; exact h1, h2⟩)
section
variable {prog : Program} {w : World} {A : Around} {E : Value → Shared → Prop} {s : Shared}
theorem Zo4 {d : Addr} {o : Obj} {es : Array DictEntry} {ep : Nat} {kvs : List (Str × Value)} {x : Str} {t : Tok} {n : Int} {Q : Option Nat → Shared → Prop} (ho : s.heap.get? d = some o) (hd : o.data = .dict es ep) (hp : Zmc es kvs) (q : Q (Zdn kvs x) s) :
    wpAny (model prog w) A (dictFind d (.str x t) n) Q E s := by
  have hall : (es.all fun e => isExactStrKey e.key) = true := by
    rw [Array.all_eq_true]
    intro i hi
    have hi' : i < kvs.length := by rw [← hp.1]; exact hi
    obtain ⟨e, t', h1, h2, _⟩ := hp.2 i kvs[i] (by simp [hi'])
    rw [Array.getElem?_eq_getElem hi] at h1
    cases h1
    rw [h2]; rfl
  unfold dictFind
  try with_reducible refine wpAny_holding ?_
  refine wpAny_bind (wpAny_dictEntries ho hd ?_)
  dsimp only
  rw [if_pos hall]
  unfold foundByValue
  rw [hp.find x]
  cases hj : Zdn kvs x with
  | none => rw [hj] at q; exact wpAny_pure q
  | some j =>
    rw [hj] at q
    obtain ⟨hlt, hx, _⟩ := List.findIdx?_eq_some_iff_getElem.mp hj
    obtain ⟨e, t', h1, h2, h3⟩ := hp.2 j kvs[j] (by simp [hlt])
    have hx' : kvs[j].1 = x := of_decide_eq_true hx
    rw [hx'] at h2
    dsimp only
    rw [h1]
    dsimp only
    refine wpAny_bind (wpAny_dictEpoch ho hd ?_)
    rw [h2]
    refine wpAny_bind (SeqAt.EqAt.str_str x t' x t prog w _ _ ?_)
    refine wpAny_bind (wpAny_dictEpoch ho hd ?_)
    rw [if_neg (by simp)]
    simp only [beq_self_eq_true, if_true]
    exact wpAny_bind (wpAny_rule (wpAny_pure q))
end
inductive SHits (A : Around) (s : Shared) (kb : List (Str × Value)) : List (Str × Value) → Bool → Prop where
  | nil : SHits A s kb [] true
  | miss {k : Str} {v : Value} {r : List (Str × Value)} : Zdn kb k = none → SHits A s kb ((k, v) :: r) false
  | hit {k : Str} {v : Value} {r : List (Str × Value)} {j : Nat} {p : Str × Value} {e b : Bool} : Zdn kb k = some j → kb[j]? = some p → SeqAt.EqAt A s v p.2 e → SHits A s kb r b → SHits A s kb ((k, v) :: r) (e && b)
section
variable {prog : Program} {w : World} {A : Around} {E : Value → Shared → Prop} {s : Shared}
theorem Zho {nm : String} {a b : Addr} {ka kb : List (Str × Value)} {r : Bool} {Q : Bool → Shared → Prop} (ha : (a == sysModules) = false) (hb : (b == sysModules) = false) (da : Zid s.heap a ka) (db : Zid s.heap b kb)
    (hits : ka.length = kb.length → SHits A s kb ka r) (q : Q (ka.length == kb.length && r) s) : wpAny (model prog w) A (Builtin.Dict.samePairs nm a b) Q E s := by
  obtain ⟨oa, es, ep, ga, _, dta, pa⟩ := da
  obtain ⟨ob, es', ep', gb, _, dtb, pb⟩ := db
  have la := pa.1
  have lb := pb.1
  unfold Builtin.Dict.samePairs Builtin.Dict.showsAll
  rw [if_neg (by rw [ha]; exact Bool.false_ne_true), if_neg (by rw [hb]; exact Bool.false_ne_true)]
  refine wpAny_bind (wpAny_pure (wpAny_bind (wpAny_pure (wpAny_bind (wpAny_dictEntries ga dta ?_)))))
  refine wpAny_bind (wpAny_dictEntries gb dtb ?_)
  by_cases hz : es.size = es'.size
  · have hl : ka.length = kb.length := by omega
    have q' : Q r s := by simpa [hl] using q
    have hh := hits hl
    rw [if_neg (by rw [hz]; simp)]
    refine wpAny_bind (wpAny_dictEpoch ga dta (wpAny_bind ?_))
    rw [Std.Legacy.Range.forIn_eq_forIn_range']
    simp only [Std.Legacy.Range.size, Nat.sub_zero, Nat.add_sub_cancel, Nat.div_one]
    refine wpAny_forIn_list _ (fun rest x s' => s' = s ∧ x = (none, ()) ∧ ∃ i, rest = List.range' i (es.size - i) ∧ i ≤ es.size ∧ SHits A s kb (ka.drop i) r) _ ?_ ?_ _ _ ⟨rfl, rfl, 0, by simp, Nat.zero_le _, hh⟩
    · rintro x rest y s' ⟨rfl, rfl, i, hr, hi, hS⟩
      have hlt : i < es.size := by
        rcases Nat.lt_or_ge i es.size with z | z
        · exact z
        · rw [Nat.sub_eq_zero_of_le z] at hr; cases hr
      rw [show es.size - i = (es.size - (i + 1)) + 1 by omega, List.range'_succ] at hr
      injection hr with hx hrest
      subst hx
      have hlk : x < ka.length := by omega
      obtain ⟨e, t, h1, h2, h3⟩ := pa.2 x ka[x] (by simp [hlk])
      rw [List.drop_eq_getElem_cons hlk] at hS
      refine wpAny_bind (wpAny_dictEntries ga dta ?_)
      rw [h1]
      show wpAny _ _ (holding [e.key, e.val] _ >>= _) _ _ _
      rw [h2]
      refine wpAny_bind (wpAny_holding (wpAny_bind (Zo4 gb dtb pb ?_)))
      generalize hk : ka[x] = p at hS h2 h3 ⊢
      obtain ⟨k, v⟩ := p
      cases hS with
      | miss hn =>
        rw [hn]
        refine wpAny_pure ?_
        show wpAny _ _ (if (!false) = true then _ else _) _ _ _
        rw [if_pos (by decide)]
        exact wpAny_pure (wpAny_pure q')
      | @hit _ _ _ j p' eb bb hn hp he hr' =>
        rw [hn]
        obtain ⟨f, t', g1, g2, g3⟩ := pb.2 j p' hp
        refine wpAny_bind (wpAny_dictEntries gb dtb ?_)
        rw [g1]
        rw [show e.val = v from h3]
        dsimp only
        rw [g3]
        refine wpAny_holding (he prog w _ _ ?_)
        cases eb with
        | false =>
          rw [Bool.false_and] at q'
          show wpAny _ _ (if (!false) = true then _ else _) _ _ _
          rw [if_pos (by decide)]
          exact wpAny_pure (wpAny_pure q')
        | true =>
          show wpAny _ _ (if (!true) = true then _ else _) _ _ _
          rw [if_neg (by decide)]
          refine wpAny_bind (wpAny_dictEpoch ga dta ?_)
          rw [if_neg (by simp)]
          exact wpAny_pure ⟨rfl, rfl, x + 1, hrest, hlt, by rw [Bool.true_and]; exact hr'⟩
    · rintro x s' ⟨rfl, rfl, i, hr, hi, hS⟩
      have e : i = es.size := by
        rcases Nat.lt_or_ge i es.size with z | z
        · rw [show es.size - i = (es.size - (i + 1)) + 1 by omega, List.range'_succ] at hr; cases hr
        · omega
      rw [e, la, List.drop_length] at hS
      cases hS
      exact wpAny_pure q'
  · rw [if_pos (by simpa using hz)]
    have hf : (ka.length == kb.length) = false := by rw [← la, ← lb]; simpa using hz
    rw [hf, Bool.false_and] at q
    exact wpAny_bind (wpAny_rule (wpAny_pure q))
end
section
variable {A : Around} {s : Shared} {a b : Addr} {ka kb : List (Str × Value)} {r : Bool}
theorem Zid.typeIs (d : Zid s.heap a ka) : s.TypeIs (.ref a) "dict" := let ⟨o, _, _, ho, hc, _⟩ := d; ⟨o, ho, hc.1⟩
theorem Zmd (ha : (a == sysModules) = false) (hb : (b == sysModules) = false) (da : Zid s.heap a ka) (db : Zid s.heap b kb) (hu : A.units < cLine) (hits : ka.length = kb.length → SHits A.in1 s kb ka r) : SeqAt.RcAt A s (.ref a) (.ref b) (ka.length == kb.length && r) := fun prog w E Q q => by
  refine wpAny_richCompare_same_room (op := .Eq) da.typeIs db.typeIs PySem.F.slot_dict_eq (wpAny_call_entry PySem.F.slot_dict_eq da.typeIs PySem.F.entry_dict_eq ?_ (PySem.F.args_dict_eq_2 _ _)) hu; show wpAny _ _ (Builtin.Dict.dictSlotArgs "__eq__" ⟨[.ref a, .ref b], []⟩ >>= _) _ _ s
  refine wpAny_bind ?_; unfold Builtin.Dict.dictSlotArgs; refine wpAny_bind (wpAny_notOrdered_dict da.typeIs ?_); show wpAny _ _ (pure (Value.ref a, Value.ref b)) _ _ s
  refine wpAny_pure (wpAny_bind (wpAny_isInstance (T := "dict") db.typeIs PySem.F.sub_dict_dict ?_)); simp only [Bool.not_true, Bool.false_eq_true, if_false]
  refine wpAny_bind (wpAny_pure (wpAny_bind (wpAny_pure (wpAny_bind (Zho ha hb da db hits ?_)))))
  exact wpAny_pure ⟨_, rfl, (fun x => nomatch x), by simpa using q⟩
theorem Zhp (ha : (a == sysModules) = false) (hb : (b == sysModules) = false) (da : Zid s.heap a ka) (db : Zid s.heap b kb) (hu : A.units < cLine) (hits : ka.length = kb.length → SHits A.in1 s kb ka r) : SeqAt.RcNeAt A s (.ref a) (.ref b) (!(ka.length == kb.length && r)) := fun prog w E Q q => by
  refine wpAny_richCompare_same_room (op := .NotEq) da.typeIs db.typeIs PySem.F.slot_dict_ne (wpAny_call_entry PySem.F.slot_dict_ne da.typeIs PySem.F.entry_dict_ne ?_ (PySem.F.args_dict_ne_2 _ _)) hu; show wpAny _ _ (Builtin.Dict.dictSlotArgs "__ne__" ⟨[.ref a, .ref b], []⟩ >>= _) _ _ s
  refine wpAny_bind ?_; unfold Builtin.Dict.dictSlotArgs; refine wpAny_bind (wpAny_notOrdered_dict da.typeIs ?_); show wpAny _ _ (pure (Value.ref a, Value.ref b)) _ _ s
  refine wpAny_pure (wpAny_bind (wpAny_isInstance (T := "dict") db.typeIs PySem.F.sub_dict_dict ?_)); simp only [Bool.not_true, Bool.false_eq_true, if_false]
  refine wpAny_bind (wpAny_pure (wpAny_bind (wpAny_pure (wpAny_bind (Zho ha hb da db hits ?_)))))
  exact wpAny_pure ⟨_, rfl, (fun x => nomatch x), by simpa using q⟩
end
end L2
namespace DL
open PySem PySem.Spec PyProof.Rows L2
variable {K : PySem.W.Frag}
@[simp] noncomputable def strK? : List Key → Option (List Str)
  | [] => some []
  | .inr x :: r => (strK? r).bind fun t => some (x :: t)
  | _ => none
@[simp] noncomputable def eqKV (f : D → D → Option Bool) (ys : List Str) (us : List D) : List Str → List D → Option Bool
  | x :: xs, v :: vs => match look ys us x with
    | none => some false
    | some u => (f v u).bind fun b => (eqKV f ys us xs vs).bind fun c => some (b && c)
  | _, _ => some true
@[simp] noncomputable def Zgx (f : D → D → Option Bool) : D → D → Option Bool
  | .dK ks vs, .dK ks' vs' => (strK? ks).bind fun xs => (strK? ks').bind fun ys => if xs.length = ys.length then eqKV f ys vs' xs vs else some false
  | d1, d2 => Zgv f d1 d2
@[simp] noncomputable def eqM : Nat → D → D → Option Bool
  | 0 => fun _ _ => none
  | n + 1 => Zgx (eqM n)
theorem Zo5 {P : Program} {w : World} : ∀ {es : List DictEntry} {kvs : List (Key × Value)} {xs : List Str}, Pairs (Zx P w) es kvs → strK? (kvs.map (·.1)) = some xs →
    ∃ skv : List (Str × Value), skv.map (·.1) = xs ∧ skv.map (·.2) = kvs.map (·.2) ∧ es.length = skv.length ∧ ∀ (i : Nat) (p : Str × Value), skv[i]? = some p → ∃ e t, es[i]? = some e ∧ e.key = .str p.1 t ∧ e.val = p.2
  | _, _, _, .nil, e => by cases e; exact ⟨[], rfl, rfl, rfl, fun i p h => by simp at h⟩
  | _, _, _, @Pairs.cons _ _ _ _ _ en kv es kvs hi hv t, e => by
    obtain ⟨k, v⟩ := kv
    cases k with
    | inl i => cases e
    | inr x =>
      have e : (strK? (kvs.map (·.1))).bind (fun t => some (x :: t)) = some _ := e
      obtain ⟨xs, e1, e2⟩ := Option.bind_eq_some_iff.mp e
      cases e2
      obtain ⟨skv, h1, h2, h3, h4⟩ := Zo5 t e1
      refine ⟨(x, v) :: skv, by rw [List.map_cons, h1], by rw [List.map_cons, List.map_cons, h2], by rw [List.length_cons, List.length_cons, h3], fun i p hp => ?_⟩
      cases i with
      | zero =>
        obtain rfl : (x, v) = p := by simpa using hp
        rcases Z0 (show Zgg (.inr x) en.key = true from hi) with ⟨j, t', e3, _⟩ | ⟨y, t', e3, e4⟩
        · cases e3
        · cases e3; exact ⟨en, t', rfl, e4, hv⟩
      | succ i => exact h4 i p (by simpa using hp)
theorem Zlk : ∀ {kvs : List (Key × V)} {vs : List (Key × Value)}, KV kvs vs → vs.map (·.1) = kvs.map (·.1) ∧ Vals (kvs.map (·.2)) (vs.map (·.2))
  | _, _, .nil => ⟨rfl, .nil⟩
  | _, _, .cons h t => ⟨by rw [List.map_cons, List.map_cons, h.1, (Zlk t).1], .cons h.2 (Zlk t).2⟩
section
variable {X : Cx} {pins : List (Addr × Obj)} {σ : L2.St} {F H : Hp} {s : Shared}
theorem Zie (I : Inv X pins σ H s) {a : Addr} {kvs : List (Key × V)} {xs : List Str} (ha : HK H a kvs) (e : strK? (kvs.map (·.1)) = some xs) :
    (a == sysModules) = false ∧ ∃ skv : List (Str × Value), Zid s.heap a skv ∧ skv.map (·.1) = xs ∧ Vals (kvs.map (·.2)) (skv.map (·.2)) ∧ (kvs.map (·.1)).Nodup := by
  obtain ⟨z, hd, vs, rel, dd⟩ := Zxd I.hok ha
  obtain ⟨k1, k2⟩ := Zlk rel
  obtain ⟨o, es, ep, ho, hc, hdt, _, hp, nd⟩ := dd
  rw [← k1] at e
  obtain ⟨skv, h1, h2, h3, h4⟩ := Zo5 hp e
  refine ⟨hd, skv, ⟨o, es, ep, ho, hc, hdt, by rw [← h3]; simp, fun i p hpp => ?_⟩, h1, by rw [h2]; exact k2, by rw [← k1]; exact nd⟩
  obtain ⟨en, t, g1, g2⟩ := h4 i p hpp
  exact ⟨en, t, by rw [← Array.getElem?_toList]; exact g1, g2⟩
theorem Zfm (x : Str) : ∀ (skv : List (Str × Value)) (us : List D) (Us : List V), Reps X.K F us Us → Vals Us (skv.map (·.2)) → match look (skv.map (·.1)) us x with
    | none => Zdn skv x = none
    | some u => ∃ j p U, Zdn skv x = some j ∧ skv[j]? = some p ∧ Rep X.K F u U ∧ RelV U p.2
  | [], _, _, r, v => by cases v; cases r; rfl
  | p :: skv, _, _, r, v => by
    cases v with
    | @cons U u' Us us' hU tU =>
    cases r with
    | @cons d v' ds vs' h t =>
      have ih := Zfm x skv ds Us t tU
      show match (if p.1 = x then some d else look (skv.map (·.1)) ds x) with
        | none => Zdn (p :: skv) x = none
        | some u => ∃ j q U, Zdn (p :: skv) x = some j ∧ (p :: skv)[j]? = some q ∧ Rep X.K F u U ∧ RelV U q.2
      have hpl : Zdn (p :: skv) x = if p.1 = x then some 0 else (Zdn skv x).map (· + 1) := by
        unfold Zdn
        rw [List.findIdx?_cons]
        by_cases e : p.1 = x <;> simp [e]
      by_cases e : p.1 = x
      · rw [if_pos e, hpl, if_pos e]
        exact ⟨0, p, U, rfl, rfl, h, hU⟩
      · rw [if_neg e, hpl, if_neg e]
        cases hl : look (skv.map (·.1)) ds x with
        | none => rw [hl] at ih; dsimp only at ih ⊢; rw [ih]; rfl
        | some u =>
          rw [hl] at ih
          obtain ⟨j, q, U', h1, h2, h3, h4⟩ := ih
          exact ⟨j + 1, q, U', by rw [h1]; rfl, by simpa using h2, h3, h4⟩
theorem Zo6 {A : Around} {f : D → D → Option Bool} (ih : ∀ d1 d2 b x y v u, Rep X.K F d1 x → RelV x v → Rep X.K F d2 y → RelV y u → f d1 d2 = some b → SeqAt.EqAt A s v u b) {skv2 : List (Str × Value)} {us : List D} {Us : List V} (ru : Reps X.K F us Us) (vu : Vals Us (skv2.map (·.2))) :
    ∀ (skv : List (Str × Value)) (vs : List D) (Vs : List V) (r : Bool), Reps X.K F vs Vs → Vals Vs (skv.map (·.2)) → eqKV f (skv2.map (·.1)) us (skv.map (·.1)) vs = some r → SHits A s skv2 skv r
  | [], _, _, _, r, v, e => by cases v; cases r; cases e; exact .nil
  | p :: skv, _, _, _, r, v, e => by
    obtain ⟨k, w⟩ := p
    cases v with
    | @cons V0 u' Vs us' hV tV =>
    cases r with
    | @cons d v' ds vs' h t =>
      have lp := Zfm (X := X) (F := F) k skv2 us Us ru vu
      have e : (match look (skv2.map (·.1)) us k with
        | none => some false
        | some u => (f d u).bind fun b => (eqKV f (skv2.map (·.1)) us (skv.map (·.1)) ds).bind fun c => some (b && c)) = some _ := e
      cases hl : look (skv2.map (·.1)) us k with
      | none =>
        rw [hl] at lp e
        cases e
        exact .miss lp
      | some u =>
        rw [hl] at lp e
        obtain ⟨j, q, U, h1, h2, h3, h4⟩ := lp
        obtain ⟨b, e1, e2⟩ := Option.bind_eq_some_iff.mp e
        obtain ⟨c, e3, e4⟩ := Option.bind_eq_some_iff.mp e2
        cases e4
        exact .hit h1 h2 (ih _ _ _ _ _ _ _ h hV h3 h4 e1) (Zo6 ih ru vu skv ds Vs c t tV e3)
end
end DL
namespace DL
open PySem PySem.Spec PyProof.Rows L2
variable {K : PySem.W.Frag}
theorem Zj1 : ∀ (skv : List (Str × Value)), (skv.map (·.1)).Nodup → ∀ q ∈ skv, ∃ j, Zdn skv q.1 = some j ∧ skv[j]? = some q
  | [], _, _, h => nomatch h
  | p :: r, nd, q, h => by
    obtain ⟨n1, n2⟩ := List.nodup_cons.mp nd
    have hpl : Zdn (p :: r) q.1 = if p.1 = q.1 then some 0 else (Zdn r q.1).map (· + 1) := by
      unfold Zdn
      rw [List.findIdx?_cons]
      by_cases e : p.1 = q.1 <;> simp [e]
    rcases List.mem_cons.mp h with e | e
    · subst e; exact ⟨0, by rw [hpl, if_pos rfl], rfl⟩
    · obtain ⟨j, h1, h2⟩ := Zj1 r n2 q e
      have hne : ¬ p.1 = q.1 := fun z => n1 (List.mem_map.mpr ⟨q, e, z.symm⟩)
      exact ⟨j + 1, by rw [hpl, if_neg hne, h1]; rfl, by simpa using h2⟩
theorem Zme : ∀ {ks : List Key} {xs : List Str}, strK? ks = some xs → ks = xs.map Sum.inr
  | [], _, e => by cases e; rfl
  | .inr x :: ks, _, e => by
    obtain ⟨t, e1, e2⟩ := Option.bind_eq_some_iff.mp e
    cases e2
    rw [Zme e1]; rfl
  | .inl i :: ks, _, e => by cases e
theorem Zng {ks : List Key} {xs : List Str} (e : strK? ks = some xs) (nd : ks.Nodup) : xs.Nodup := by
  rw [Zme e] at nd
  have z : (xs.map Sum.inr : List Key).Pairwise (· ≠ ·) := nd
  rw [List.pairwise_map] at z
  exact z.imp fun h e => h (by rw [e])
section
variable {X : Cx} {pins : List (Addr × Obj)} {σ : L2.St} {F H : Hp} {s : Shared}
theorem Zj2 {f : D → D → Option Bool} (ih : ∀ (d1 d2 : D) (b : Bool) (x y : V) (v : Value), Rep X.K F d1 x → RelV x v → Rep X.K F d2 y → RelV y v → f d1 d2 = some b → b = true) {skv : List (Str × Value)} {us : List D} {Us : List V} (ru : Reps X.K F us Us) (vu : Vals Us (skv.map (·.2))) :
    ∀ (skv1 : List (Str × Value)) (vs : List D) (Vs : List V) (r : Bool), (∀ q ∈ skv1, ∃ j, Zdn skv q.1 = some j ∧ skv[j]? = some q) → Reps X.K F vs Vs → Vals Vs (skv1.map (·.2)) → eqKV f (skv.map (·.1)) us (skv1.map (·.1)) vs = some r → r = true
  | [], _, _, _, _, r, v, e => by cases v; cases r; cases e; rfl
  | p :: skv1, _, _, _, hs, r, v, e => by
    obtain ⟨k, w⟩ := p
    cases v with
    | @cons V0 u' Vs us' hV tV =>
    cases r with
    | @cons d v' ds vs' h t =>
      have lp := Zfm (X := X) (F := F) k skv us Us ru vu
      obtain ⟨j, hj1, hj2⟩ := hs (k, w) List.mem_cons_self
      have e : (match look (skv.map (·.1)) us k with
        | none => some false
        | some u => (f d u).bind fun b => (eqKV f (skv.map (·.1)) us (skv1.map (·.1)) ds).bind fun c => some (b && c)) = some _ := e
      cases hl : look (skv.map (·.1)) us k with
      | none =>
        rw [hl] at lp
        rw [show Zdn skv k = some j from hj1] at lp
        cases lp
      | some u =>
        rw [hl] at lp e
        obtain ⟨j', q, U, h1, h2, h3, h4⟩ := lp
        rw [show Zdn skv k = some j from hj1] at h1
        cases h1
        rw [hj2] at h2
        cases h2
        obtain ⟨b, e1, e2⟩ := Option.bind_eq_some_iff.mp e
        obtain ⟨c, e3, e4⟩ := Option.bind_eq_some_iff.mp e2
        cases e4
        rw [ih _ _ _ _ _ _ h hV h3 h4 e1, Zj2 ih ru vu skv1 ds Vs c (fun q hq => hs q (List.mem_cons_of_mem _ hq)) t tV e3]; rfl
theorem Zif (I : Inv X pins σ H s) (le : Same F H) : ∀ (n : Nat) (d1 d2 : D) (b : Bool) (x y : V) (v : Value), Rep X.K F d1 x → RelV x v → Rep X.K F d2 y → RelV y v → eqM n d1 d2 = some b → b = true
  | 0, _, _, _, _, _, _, _, _, _, _, e => by cases e
  | n + 1, d1, d2, b, x, y, v, r1, v1, r2, v2, e => by
    unfold eqM Zgx at e
    split at e
    · cases r1 with
      | @dK a ks ds kvs ep1 h1 e1 rr1 =>
      cases r2 with
      | @dK a' ks' ds' kvs' ep2 h2 e2 rr2 =>
      cases v1
      cases (show Value.ref a = Value.ref a' from v2)
      rw [h1] at h2
      cases h2
      subst e1 e2
      obtain ⟨xs, f1, e⟩ := Option.bind_eq_some_iff.mp e
      obtain ⟨ys, f2, e⟩ := Option.bind_eq_some_iff.mp e
      rw [f1] at f2
      cases f2
      rw [if_pos rfl] at e
      obtain ⟨_, skv, _, hk, hv, nd⟩ := Zie I ⟨_, le _ _ h1⟩ f1
      have ndx := Zng f1 nd
      rw [← hk] at e ndx
      exact Zj2 (Zif I le n) rr2 hv skv _ _ b (Zj1 skv ndx) rr1 hv e
    · exact Zou I le (Zif I le n) d1 d2 b x y v r1 v1 r2 v2 e
theorem rcM (I : Inv X pins σ H s) (le : Same F H) {A : Around} {f : D → D → Option Bool} {d1 d2 : D} {b : Bool} {x y : V} {v u : Value}
    (ih : ∀ d1 d2 b x y v u, Rep X.K F d1 x → RelV x v → Rep X.K F d2 y → RelV y u → f d1 d2 = some b → SeqAt.EqAt A.in1 s v u b) (r1 : RepN X.K F H d1 x) (v1 : RelV x v) (r2 : RepN X.K F H d2 y) (v2 : RelV y u)
    (e : Zgx f d1 d2 = some b) (hu : A.units < cLine) (hr : Zca x = false ∨ Zca y = false) : (∃ a c, v = .ref a ∧ u = .ref c) ∧ SeqAt.RcAt A s v u b ∧ SeqAt.RcNeAt A s v u (!b) := by
  unfold Zgx at e
  split at e
  · obtain ⟨a1, kvs1, rfl, ha1, rfl, rr1⟩ := r1.dK le
    obtain ⟨a2, kvs2, rfl, ha2, rfl, rr2⟩ := r2.dK le
    cases v1; cases v2
    obtain ⟨xs, f1, e⟩ := Option.bind_eq_some_iff.mp e
    obtain ⟨ys, f2, e⟩ := Option.bind_eq_some_iff.mp e
    obtain ⟨m1, skv1, sd1, hk1, hv1, _⟩ := Zie I ha1 f1
    obtain ⟨m2, skv2, sd2, hk2, hv2, _⟩ := Zie I ha2 f2
    have l1 : skv1.length = xs.length := by rw [← hk1, List.length_map]
    have l2 : skv2.length = ys.length := by rw [← hk2, List.length_map]
    refine ⟨⟨_, _, rfl, rfl⟩, ?_⟩
    split at e
    · rename_i hl
      rw [← hk1, ← hk2] at e
      have hits : skv1.length = skv2.length → SHits A.in1 s skv2 skv1 b := fun _ => Zo6 ih rr2 hv2 skv1 _ _ b rr1 hv1 e
      have hb : b = (skv1.length == skv2.length && b) := by rw [l1, l2, hl]; simp
      rw [hb]
      exact ⟨Zmd m1 m2 sd1 sd2 hu hits, Zhp m1 m2 sd1 sd2 hu hits⟩
    · rename_i hl
      cases e
      have hits : skv1.length = skv2.length → SHits A.in1 s skv2 skv1 false := fun z => absurd (by omega) hl
      have hb : false = (skv1.length == skv2.length && false) := by simp
      rw [hb]
      exact ⟨Zmd m1 m2 sd1 sd2 hu hits, Zhp m1 m2 sd1 sd2 hu hits⟩
  · exact rcN I le ih r1 v1 r2 v2 e hu hr
theorem Zo7 (I : Inv X pins σ H s) (le : Same F H) : ∀ (n : Nat) (A : Around) (d1 d2 : D) (b : Bool) (x y : V) (v u : Value), A.units + n < cLine → Rep X.K F d1 x → RelV x v → Rep X.K F d2 y → RelV y u → eqM n d1 d2 = some b → SeqAt.EqAt A s v u b
  | 0, _, _, _, _, _, _, _, _, _, _, _, _, _, e => by cases e
  | n + 1, A, d1, d2, b, x, y, v, u, hu, r1, v1, r2, v2, e => by
    by_cases hf : Zca x = true ∧ Zca y = true
    · have e' : eqS d1 d2 = some b := by
        unfold eqM Zgx at e
        split at e
        · cases r1; cases hf.1
        · unfold Zgv at e
          split at e
          · cases r1; cases hf.1
          · cases r1; cases hf.1
          · cases r1; cases hf.1
          · cases r1; cases hf.1
          · exact e
      obtain ⟨f1, f2, rfl⟩ := Zia (H := H) e' (RepN.of r1) (RepN.of r2)
      exact Zsr v1 v2 f1 f2
    · have hf' : Zca x = false ∨ Zca y = false := by
        cases h1 : Zca x with
        | false => exact .inl rfl
        | true => cases h2 : Zca y with
          | false => exact .inr rfl
          | true => exact absurd ⟨h1, h2⟩ hf
      obtain ⟨⟨a, c, rfl, rfl⟩, h1, _⟩ := rcM I le (A := A) (f := eqM n) (fun d1 d2 b x y v u q1 w1 q2 w2 e => Zo7 I le n A.in1 d1 d2 b x y v u (by have : A.in1.units = A.units + 1 := rfl; omega) q1 w1 q2 w2 e) (RepN.of r1) v1 (RepN.of r2) v2 e (by omega) hf'
      by_cases hac : a = c
      · subst hac
        rw [Zif I le (n + 1) d1 d2 b x y _ r1 v1 r2 v2 e]
        exact SeqAt.EqAt.same _
      · exact SeqAt.EqAt.of_refs hac h1
noncomputable def rEqM (K : PySem.W.Frag) (neg : Bool) : R2 := fun x y H Q => ∃ F d1 d2 b, Same F H ∧ RepN K F H d1 x ∧ RepN K F H d2 y ∧ eqM 48 d1 d2 = some b ∧ (Zca x = false ∨ Zca y = false) ∧ Q (.bl (if neg then !b else b)) H
theorem Zs7 (hu : X.A.units + 64 < cLine) : OpR X (compareOp .Eq) (rEqM X.K false) := by
  intro pins s σ H x y v u Q I rx ry h
  obtain ⟨F, d1, d2, b, le, r1, r2, e, hf, q⟩ := h
  obtain ⟨_, h1, _⟩ := rcM I le (A := X.A) (f := eqM 47) (fun d1 d2 b x y v u q1 w1 q2 w2 e => Zo7 I le 47 X.A.in1 d1 d2 b x y v u (by have : X.A.in1.units = X.A.units + 1 := rfl; omega) q1 w1 q2 w2 e) r1 rx r2 ry e (by omega) hf
  exact h1 X.prog X.w X.xe _ ⟨.bl b, H, I, rfl, q⟩
theorem Zyd (hu : X.A.units + 64 < cLine) : OpR X (compareOp .NotEq) (rEqM X.K true) := by
  intro pins s σ H x y v u Q I rx ry h
  obtain ⟨F, d1, d2, b, le, r1, r2, e, hf, q⟩ := h
  obtain ⟨_, _, h1⟩ := rcM I le (A := X.A) (f := eqM 47) (fun d1 d2 b x y v u q1 w1 q2 w2 e => Zo7 I le 47 X.A.in1 d1 d2 b x y v u (by have : X.A.in1.units = X.A.units + 1 := rfl; omega) q1 w1 q2 w2 e) r1 rx r2 ry e (by omega) hf
  exact h1 X.prog X.w X.xe _ ⟨.bl !b, H, I, rfl, q⟩
end
end DL
namespace DL
open PySem PySem.Spec PyProof.Rows L2
variable {K : PySem.W.Frag}
@[simp] noncomputable def eqY (d1 d2 : D) : Option SV := if d1.isFlat = true ∧ d2.isFlat = true then eqD d1 d2 else (eqM 48 d1 d2).bind fun b => some (.fz (.bl b))
@[simp] noncomputable def neY (d1 d2 : D) : Option SV := if d1.isFlat = true ∧ d2.isFlat = true then neD d1 d2 else (eqM 48 d1 d2).bind fun b => some (.fz (.bl !b))
@[simp] noncomputable def inY (d1 d2 : D) : Option SV := match d1, d2 with
  | .non, .dK _ _ => some (.fz (.bl false))
  | _, _ => inX d1 d2
section
variable {Z : Ent K}
theorem Zo8 {F H : Hp} {d1 d2 : D} {x y : V} (r1 : RepN K F H d1 x) (r2 : RepN K F H d2 y) (hf : ¬ (d1.isFlat = true ∧ d2.isFlat = true)) : Zca x = false ∨ Zca y = false := by
  cases h1 : d1.isFlat with
  | false => exact .inl (Zhm r1 h1)
  | true => cases h2 : d2.isFlat with
    | false => exact .inr (Zhm r2 h2)
    | true => exact absurd ⟨h1, h2⟩ hf
theorem Zye : Zbr Z (fun x y H Q => rEq x y H Q ∨ rEqM K false x y H Q) eqY := by
  intro F H σ δ own x y d1 d2 sv Q s r1 r2 e k
  unfold eqY at e
  split at e
  · exact .inl (p_eq F H σ δ own x y d1 d2 sv Q s r1 r2 e k)
  · rename_i hf
    obtain ⟨b, e1, e2⟩ := Option.bind_eq_some_iff.mp e
    cases e2
    exact .inr ⟨F, d1, d2, b, s.le, r1, r2, e1, Zo8 r1 r2 hf, k.fz s (.bl _)⟩
theorem Z1d : Zbr Z (fun x y H Q => rNe x y H Q ∨ rEqM K true x y H Q) neY := by
  intro F H σ δ own x y d1 d2 sv Q s r1 r2 e k
  unfold neY at e
  split at e
  · exact .inl (p_ne F H σ δ own x y d1 d2 sv Q s r1 r2 e k)
  · rename_i hf
    obtain ⟨b, e1, e2⟩ := Option.bind_eq_some_iff.mp e
    cases e2
    exact .inr ⟨F, d1, d2, b, s.le, r1, r2, e1, Zo8 r1 r2 hf, k.fz s (.bl _)⟩
theorem Z1e : Zbr Z (fun x y H Q => ((∃ i j, x = .str i ∧ y = .str j ∧ Q (.bl (!(Builtin.Str.occurrences j i 0 j.length 1).isEmpty)) H) ∨ rDIn x y H Q) ∨ Zo3 false x y H Q) inY := by
  intro F H σ δ own x y d1 d2 sv Q s r1 r2 e k
  unfold inY at e
  split at e
  · cases e
    obtain ⟨a, kvs, rfl, ha, _, _⟩ := r2.dK s.le
    exact .inr ⟨a, kvs, r1.non, rfl, ha.rd, k.fz s (.bl _)⟩
  · exact .inl (Z1a F H σ δ own x y d1 d2 sv Q s r1 r2 e k)
end
section
variable {X : Cx} {Z : Ent X.K} {a b c : Expr} {fa fb fc : FE} {pos : Pos}
theorem Zyf (hv : X.A.units + 64 < cLine) (ha : PE X a (Ze Z fa)) (hb : PE X b (Ze Z fb)) : PE X (.Compare a [.Eq] [b] pos) (Ze Z (binF eqY fa fb)) := Zx3 (Zwx.or (Zs7 hv)) Zye ha hb (Zgi _)
theorem Zen (hv : X.A.units + 64 < cLine) (ha : PE X a (Ze Z fa)) (hb : PE X b (Ze Z fb)) : PT X (.Compare a [.Eq] [b] pos) (Zaq Z (Zr (binF eqY fa fb))) := Zk7 (Zwx.or (Zs7 hv)) Zye ha hb (Zgi _)
theorem Zru (hv : X.A.units + 64 < cLine) (ha : PE X a (Ze Z fa)) (hb : PE X b (Ze Z fb)) : PT X (.Compare a [.NotEq] [b] pos) (Zaq Z (Zr (binF neY fa fb))) := Zk7 (Z0f.or (Zyd hv)) Z1d ha hb (Zgi _)
end
end DL
namespace DL
open PySem PySem.Spec PyProof.Rows L2
variable {K : PySem.W.Frag}
theorem SR.changeT {Z : Ent K} {F H : Hp} {σ : L2.St} {δ : DSt} {own : Nat → Zp} {i : Nat} {sv sv' svT : SV} {a : Addr} {o o' : HO} {v vT : V} {ns' nsT : Zp} (s : SR Z F H σ δ own) (t : TmpOk Z F H own svT vT nsT) (e : δ[i]? = some (some sv)) (hv : σ[i]? = some (some v))
    (ha : (a, o) ∈ own i) (hs : Shape K F sv' v ns') (hns : ∀ p ∈ ns', p = (a, o') ∨ (p ∈ own i ∧ p.1 ≠ a) ∨ p ∈ nsT) (nd : (adr ns').Nodup) : SR Z F (upd H a o') σ (δ.set i (some sv')) (put own i ns') := by
  obtain ⟨fa, ha0, hHa⟩ := s.ok i (a, o) ha
  have hi : i < δ.length := (List.getElem?_eq_some_iff.mp e).1
  refine ⟨fun b u eb => ?_, s.fro, fun b u eb => ?_, by rw [List.length_set]; exact s.len, fun j sw ej => ?_, fun j => ?_, fun j p hp => ?_, fun j k p q hjk hp hq => ?_⟩
  · rw [Zv fun z => by rw [z] at eb; rw [fa] at eb; cases eb]; exact s.le b u eb
  · rw [Zv fun z => by rw [z] at eb; rw [ha0] at eb; cases eb]; exact s.old b u eb
  · by_cases hj : j = i
    · subst hj
      rw [List.getElem?_set_self hi] at ej
      cases ej
      rw [Zs]
      exact ⟨v, hv, hs⟩
    · rw [List.getElem?_set_ne (Ne.symm hj)] at ej
      rw [Zac hj]
      exact s.at' j sw ej
  · by_cases hj : j = i
    · subst hj; rw [Zs]; exact nd
    · rw [Zac hj]; exact s.nod j
  · by_cases hj : j = i
    · subst hj
      rw [Zs] at hp
      rcases hns p hp with z | ⟨z, ne⟩ | z
      · subst z; exact ⟨fa, ha0, Zah⟩
      · obtain ⟨x, y, w⟩ := s.ok j p z
        exact ⟨x, y, by rw [Zv ne]; exact w⟩
      · obtain ⟨x, y, w⟩ := t.ok p z
        exact ⟨x, y, by rw [Zv (t.sep j p (a, o) z ha)]; exact w⟩
    · rw [Zac hj] at hp
      obtain ⟨x, y, w⟩ := s.ok j p hp
      exact ⟨x, y, by rw [Zv (s.sep j i p (a, o) hj hp ha)]; exact w⟩
  · have far : ∀ (l : Nat) (r q : Addr × HO), l ≠ i → r ∈ ns' → q ∈ own l → r.1 ≠ q.1 := fun l r q hl hr hq => by
      rcases hns r hr with z | ⟨z, _⟩ | z
      · subst z; exact s.sep i l (a, o) q (Ne.symm hl) ha hq
      · exact s.sep i l r q (Ne.symm hl) z hq
      · exact t.sep l r q z hq
    by_cases hj : j = i
    · subst hj
      rw [Zs] at hp
      rw [Zac (Ne.symm hjk)] at hq
      exact far k p q (Ne.symm hjk) hp hq
    · by_cases hk : k = i
      · subst hk
        rw [Zs] at hq
        rw [Zac hj] at hp
        exact fun z => far j q p hj hq hp z.symm
      · rw [Zac hj] at hp
        rw [Zac hk] at hq
        exact s.sep j k p q hjk hp hq
theorem Kids.snoc {F : Hp} : ∀ {xss : List (List D)} {ws : List V} {ns : Zp} {xs : List D} {b : Addr} {vs : List V}, Kids K F xss ws ns → Reps K F xs vs → Kids K F (xss ++ [xs]) (ws ++ [.ref b]) (ns ++ [(b, .lst vs)])
  | _, _, _, _, _, _, .nil, r => .cons r .nil
  | _, _, _, _, _, _, .cons h t, r => .cons h (t.snoc r)
section
variable {Z : Ent K} {H : Hp} {σ : L2.St} {Q : VK} {E : Ends}
theorem Kids.length {F : Hp} : ∀ {xss : List (List D)} {ws : List V} {ns : Zp}, Kids K F xss ws ns → xss.length = ws.length
  | _, _, _, .nil => rfl
  | _, _, _, .cons _ t => by rw [List.length_cons, List.length_cons, t.length]
end
theorem Kids.app {F : Hp} : ∀ {xss : List (List D)} {ws : List V} {ns : Zp} {p : Nat} {b : Addr}, Kids K F xss ws ns → ws[p]? = some (.ref b) → (adr ns).Nodup →
    ∃ xs vs, xss[p]? = some xs ∧ (b, HO.lst vs) ∈ ns ∧ Reps K F xs vs ∧ ∀ {d : D} {v : V}, Rep K F d v → ∃ ns', Kids K F (xss.set p (xs ++ [d])) ws ns' ∧ adr ns' = adr ns ∧ ∀ q ∈ ns', q = (b, HO.lst (vs ++ [v])) ∨ (q ∈ ns ∧ q.1 ≠ b)
  | _, _, _, _, _, .nil, e, _ => by simp at e
  | _, _, _, 0, b, @Kids.cons _ _ xs xss b' vs ws ns r t, e, nd => by
    have e' : b' = b := by simpa using e
    subst e'
    obtain ⟨n1, n2⟩ := List.nodup_cons.mp nd
    refine ⟨xs, vs, rfl, List.mem_cons_self, r, fun {d v} hd => ⟨(b', .lst (vs ++ [v])) :: ns, .cons (r.snoc hd) t, rfl, fun q hq => ?_⟩⟩
    rcases List.mem_cons.mp hq with z | z
    · exact .inl z
    · exact .inr ⟨List.mem_cons_of_mem _ z, fun w => n1 (List.mem_map.mpr ⟨q, z, w⟩)⟩
  | _, _, _, p + 1, b, @Kids.cons _ _ xs0 xss b' vs0 ws ns r t, e, nd => by
    obtain ⟨n1, n2⟩ := List.nodup_cons.mp nd
    obtain ⟨xs, vs, h1, h2, h3, h4⟩ := Kids.app (p := p) (b := b) t (by simpa using e) n2
    refine ⟨xs, vs, by simpa using h1, List.mem_cons_of_mem _ h2, h3, fun {d v} hd => ?_⟩
    obtain ⟨ns', k1, k2, k3⟩ := h4 hd
    refine ⟨(b', .lst vs0) :: ns', by rw [List.set_cons_succ]; exact .cons r k1, by show b' :: adr ns' = b' :: adr ns; rw [k2], fun q hq => ?_⟩
    rcases List.mem_cons.mp hq with z | z
    · refine .inr ⟨by rw [z]; exact List.mem_cons_self, fun w => n1 ?_⟩
      rw [z] at w
      exact List.mem_map.mpr ⟨_, h2, w.symm⟩
    · rcases k3 q z with w | ⟨w, w2⟩
      · exact .inl w
      · exact .inr ⟨List.mem_cons_of_mem _ w, w2⟩
section
variable {Z : Ent K} {H : Hp} {σ : L2.St} {Q : VK} {E : Ends}
end
end DL
namespace DL
open PySem PySem.Spec PyProof.Rows L2
variable {K : PySem.W.Frag}
section
variable {Z : Ent K} {H : Hp} {σ : L2.St} {E : Ends}
end
section
variable {X : Cx} {Z : Ent X.K} {a b c : Expr} {fa fb fc : FE} {pos : Pos}
end
end DL
namespace L2
open PySem PySem.Spec PyProof.Rows
variable {X : Cx}
noncomputable def Zyg : R2 := fun x y H Q => ∃ a k, x = .str a ∧ y = .int k ∧ MulOk a k ∧ Q (.str (Txt.mul a k)) H
theorem Zu9 : OpR X (binaryOp .Mult) Zyg := by
  intro pins s σ H x y v u Q I rx ry h
  obtain ⟨a, k, rfl, rfl, hm, q⟩ := h
  obtain ⟨t, rfl⟩ := rx
  obtain ⟨t', rfl⟩ := ry
  exact SB.mul hm fun t' k => ⟨.str _, H, I.tok _, ⟨_, rfl⟩, q⟩
end L2
namespace DL
open PySem PySem.Spec PyProof.Rows L2
variable {K : PySem.W.Frag}
@[simp] noncomputable def D.fv : D → V
  | .bl b => .bl b
  | .int i => .int i
  | .str x => .str x
  | _ => .non
theorem Zyh {F H : Hp} {d : D} {x : V} (r : RepN K F H d x) (h : d.isFlat = true) : x = d.fv ∧ Zca x = true := by
  cases d with
  | non => rw [r.non]; exact ⟨rfl, rfl⟩
  | bl b => rw [r.bl]; exact ⟨rfl, rfl⟩
  | int i => rw [r.int]; exact ⟨rfl, rfl⟩
  | str y => rw [r.str]; exact ⟨rfl, rfl⟩
  | _ => cases h
theorem Zs8 {F : Hp} : ∀ {ds : List D} {vs : List V}, Reps K F ds vs → ds.all D.isFlat = true → vs = ds.map D.fv ∧ vs.all Zca = true
  | _, _, .nil, _ => ⟨rfl, rfl⟩
  | _, _, .cons h t, e => by
    rw [List.all_cons, Bool.and_eq_true] at e
    obtain ⟨a1, a2⟩ := Zyh (H := F) (RepN.of h) e.1
    obtain ⟨b1, b2⟩ := Zs8 t e.2
    refine ⟨by rw [List.map_cons, ← a1, ← b1], by rw [List.all_cons, a2, b2]; rfl⟩
noncomputable def eqFl (y x : D) : Bool := eqV y.fv x.fv
@[simp] theorem Zz5 (a b : Str) : eqFl (.str a) (.str b) = decide (a = b) := by
  show (a == b) = decide (a = b)
  by_cases h : a = b
  · subst h; simp
  · rw [decide_eq_false h]; exact beq_eq_false_iff_ne.mpr h
@[simp] theorem Z1f (a b : Bool) : eqFl (.bl a) (.bl b) = decide (a = b) := by cases a <;> cases b <;> rfl
@[simp] theorem Zz6 : eqFl .non .non = true := rfl
@[simp] theorem Z1g (a : Str) : eqFl (.str a) .non = false := rfl
noncomputable def inFl (x : D) (xs : List D) : Bool := xs.any fun y => eqFl y x
theorem Zva {d : D} {ds : List D} : inV d.fv (ds.map D.fv) = inFl d ds := by
  unfold inV inFl
  rw [List.any_map]; rfl
noncomputable def D.seq? : D → Option (List D)
  | .lst xs => some xs
  | .tup xs => some xs
  | _ => none
@[simp] theorem Z1h (xs : List D) : D.seq? (.lst xs) = some xs := rfl
@[simp] theorem Z1i (xs : List D) : D.seq? (.tup xs) = some xs := rfl
@[simp] theorem Z1j (x : Str) : D.seq? (.str x) = none := rfl
@[simp] theorem Z2d (ks : List Key) (vs : List D) : D.seq? (.dK ks vs) = none := rfl
@[simp] theorem Z2e (ks : List (List Key)) (vs : List D) : D.seq? (.dT ks vs) = none := rfl
@[simp] noncomputable def inZ (d1 d2 : D) : Option SV := match d2.seq? with
  | some xs => if d1.isFlat = true ∧ xs.all D.isFlat = true then some (.fz (.bl (inFl d1 xs))) else none
  | none => inY d1 d2
section
variable {Z : Ent K} {H : Hp} {σ : L2.St} {Q : VK} {E : Ends}
theorem Zyi {F : Hp} {d : D} {x : V} {xs : List D} (le : Same F H) (r : RepN K F H d x) (h : d.seq? = some xs) : ∃ a vs, x = .ref a ∧ (SqL K H a vs ∨ SqT K H a vs) ∧ Reps K F xs vs := by
  cases d with
  | lst ys => cases h; obtain ⟨a, vs, e, q, rr⟩ := r.lst le; exact ⟨a, vs, e, .inl q, rr⟩
  | tup ys => cases h; obtain ⟨a, vs, e, q, rr⟩ := r.tup le; exact ⟨a, vs, e, .inr q, rr⟩
  | _ => cases h
theorem Zyj : Zbr Z (fun x y H Q => (((∃ i j, x = .str i ∧ y = .str j ∧ Q (.bl (!(Builtin.Str.occurrences j i 0 j.length 1).isEmpty)) H) ∨ rDIn x y H Q) ∨ Zo3 false x y H Q) ∨ rIn K false x y H Q) inZ := by
  intro F H σ δ own x y d1 d2 sv Q s r1 r2 e k
  unfold inZ at e
  split at e
  · rename_i xs hx
    split at e
    · rename_i hf
      cases e
      obtain ⟨a, vs, rfl, hq, rr⟩ := Zyi s.le r2 hx
      obtain ⟨e1, f1⟩ := Zyh r1 hf.1
      obtain ⟨e2, f2⟩ := Zs8 rr hf.2
      refine .inr ⟨a, vs, rfl, hq, f1, f2, ?_⟩
      rw [e1, e2, Zva]
      exact k.fz s (.bl _)
    · cases e
  · exact .inl (Z1e F H σ δ own x y d1 d2 sv Q s r1 r2 e k)
open Classical in
noncomputable def mulS (a : Str) (k : Int) : Option SV := if MulOk a k then some (.fz (.str (Txt.mul a k))) else none
theorem Zvb {a : Str} {k : Int} {sv : SV} (h : mulS a k = some sv) : MulOk a k ∧ sv = .fz (.str (Txt.mul a k)) := by
  unfold mulS at h
  split at h
  · rename_i hm; cases h; exact ⟨hm, rfl⟩
  · cases h
noncomputable def Zvc (i j : Int) : Prop := cMul i j = true
open Classical in
noncomputable def mulI (i j : Int) : Option SV := if Zvc i j then some (.fz (.int (i * j))) else none
theorem Zvd {i j : Int} {sv : SV} (h : mulI i j = some sv) : mulD (.int i) (.int j) = some sv := by
  unfold mulI at h
  split at h
  · rename_i hc
    cases h
    unfold Zvc at hc
    simp [hc]
  · cases h
theorem Zs9 {i j : Int} (h : -(2 ^ 64) < j ∧ j < 2 ^ 64) : mulI i j = some (.fz (.int (i * j))) := by
  unfold mulI
  rw [if_pos]
  unfold Zvc cMul
  rw [decide_eq_true h.1, decide_eq_true h.2]; simp
noncomputable def mulZ : D → D → Option SV
  | .str a, .int k => mulS a k
  | .int i, .int j => mulI i j
  | _, _ => none
@[simp] theorem Z1k (a : Str) (k : Int) : mulZ (.str a) (.int k) = mulS a k := rfl
@[simp] theorem Z1l (i j : Int) : mulZ (.int i) (.int j) = mulI i j := rfl
theorem Zyk : Zbr Z (fun x y H Q => rI CMul (fun i j => V.int (i * j)) x y H Q ∨ Zyg x y H Q) mulZ := by
  intro F H σ δ own x y d1 d2 sv Q s r1 r2 e k
  unfold mulZ at e
  split at e
  · obtain ⟨hm, rfl⟩ := Zvb e
    exact .inr ⟨_, _, r1.str, r2.int, hm, k.fz s (.str _)⟩
  · exact .inl (Z0v F H σ δ own x y _ _ sv Q s r1 r2 (Zvd e) k)
  · cases e
end
section
variable {X : Cx} {Z : Ent X.K} {a b c : Expr} {fa fb fc : FE} {pos : Pos}
theorem Z1m (hu : X.A.units + 1 < cLine) (ha : PE X a (Ze Z fa)) (hb : PE X b (Ze Z fb)) (hm : behindInMarks .In b = false := by rfl) : PE X (.Compare a [.In] [b] pos) (Ze Z (binF inZ fa fb)) := Zx3 (((Zi7.or (Zhn hu)).or Zj0).or Zjf) Zyj ha hb hm
theorem Zrv (hu : X.A.units + 1 < cLine) (ha : PE X a (Ze Z fa)) (hb : PE X b (Ze Z fb)) (hm : behindInMarks .In b = false := by rfl) : PT X (.Compare a [.In] [b] pos) (Zaq Z (Zr (binF inZ fa fb))) := Zk7 (((Zi7.or (Zhn hu)).or Zj0).or Zjf) Zyj ha hb hm
theorem Zta (ha : PE X a (Ze Z fa)) (hb : PE X b (Ze Z fb)) : PE X (.BinOp a .Mult b pos) (Ze Z (binF mulZ fa fb)) := Zre (Zwv.or Zu9) Zyk ha hb
end
end DL
namespace DL
open PySem PySem.Spec PyProof.Rows L2
end DL
namespace DL
open PySem PySem.Spec PyProof.Rows L2
variable {K : PySem.W.Frag}
section
variable {Z : Ent K} {H : Hp} {σ : L2.St} {Q : Bool → Hp → Prop}
end
section
variable {X : Cx} {Z : Ent X.K} {a : Expr} {ft : FT}
end
end DL
namespace DL
open PySem PySem.Spec PyProof.Rows L2
variable {K : PySem.W.Frag}
noncomputable def repP (n : Nat) (k : Int) : Prop := -(2 ^ 63) ≤ k ∧ k < 2 ^ 63 ∧ n * k.toNat ≤ PySem.sizeLine
section
variable {Z : Ent K} {H : Hp} {σ : L2.St} {Q : VK}
open Classical in
noncomputable def repI (xs : List D) : D → Option SV
  | .int k => if repP xs.length k then some (.ol (List.replicate k.toNat xs).flatten) else none
  | _ => none
@[simp] theorem Zz7 {xs : List D} {k : Int} (h : repP xs.length k) : repI xs (.int k) = some (.ol (List.replicate k.toNat xs).flatten) := by
  unfold repI; dsimp only; rw [if_pos h]
end
section
variable {X : Cx} {Z : Ent X.K} {a b : Expr} {fa fb : FE} {pos : Pos}
end
end DL
namespace DL
open PySem PySem.Spec PyProof.Rows L2
variable {K : PySem.W.Frag}
section
variable {Z : Ent K}
end
section
variable {X : Cx} {Z : Ent X.K} {a : Expr} {fa : FE} {pos : Pos}
end
end DL
namespace DL
open PySem L2
variable {K : PySem.W.Frag}
inductive RX where
  | v (rv : RV) (δ : DSt) | x (e : Exn) (δ : DSt)
inductive RL (α : Type) where
  | v (xs : List α) (δ : DSt) | x (e : Exn) (δ : DSt)
noncomputable abbrev FX := DSt → Option RX
noncomputable abbrev FAX := DSt → Option (RL RV)
noncomputable def XOk (Z : Ent K) (F : Hp) (σ : St) (e : Exn) (δ : DSt) : Prop := ∀ H' F' own' cls od, Same F F' → SR Z F' H' σ δ own' → Zoi K F' e cls od → Z.x cls od σ H'
theorem XOk.mono {Z : Ent K} {F F' : Hp} {σ : St} {e : Exn} {δ : DSt} (s : Same F F') (h : XOk Z F σ e δ) : XOk Z F' σ e δ := fun H2 F2 own cls od a => h H2 F2 own cls od (s.trans a)
noncomputable def Zeo (Z : Ent K) (f : FX) : TE := fun σ H Q => ∃ F δ own r, SR Z F H σ δ own ∧ f δ = some r ∧ match r with
  | .v rv δ' => ∀ v H' F' own', Same H H' → Same F F' → SR Z F' H' σ δ' own' → Zoj Z F' H' σ own' rv v → Q v H'
  | .x e δ' => XOk Z F σ e δ'
noncomputable def Zfw (Z : Ent K) (f : FAX) : TA := fun σ H Q => ∃ F δ own r, SR Z F H σ δ own ∧ f δ = some r ∧ match r with
  | .v rvs δ' => ∀ vs H' F' own', Same H H' → Same F F' → SR Z F' H' σ δ' own' → RVSs K F' σ rvs vs → Q vs H'
  | .x e δ' => XOk Z F σ e δ'
@[simp] noncomputable def FX.val (f : FX) : FE := fun δ => match f δ with
  | some (.v rv δ') => some (rv, δ')
  | _ => none
section
variable {Z : Ent K} {H : Hp} {σ : St} {Q : VK} {E : Ends}
theorem Zmf {f : FX} (h : Ze Z f.val σ H Q) : Zeo Z f σ H Q := by
  obtain ⟨F, δ, own, rv, δ', s, e, k⟩ := h
  unfold FX.val at e
  split at e
  · rename_i rv' δ2 hf
    cases e
    exact ⟨F, δ, own, _, s, hf, k⟩
  · cases e
theorem Zmg {f : FX} {F : Hp} {δ δ' : DSt} {own : Nat → Zp} {x : Exn} (s : SR Z F H σ δ own) (hf : f δ = some (.x x δ')) (k : XOk Z F σ x δ') : Zeo Z f σ H Q := ⟨F, δ, own, _, s, hf, k⟩
@[simp] noncomputable def Zrw (fe : FE) : FX := fun δ => (fe δ).bind fun p => some (.v p.1 p.2)
theorem Zve {fe : FE} (h : Zeo Z (Zrw fe) σ H Q) : Ze Z fe σ H Q := by
  obtain ⟨F, δ, own, r, s, e, k⟩ := h
  obtain ⟨⟨rv, δ'⟩, e1, e2⟩ := Option.bind_eq_some_iff.mp e
  cases e2
  exact ⟨F, δ, own, rv, δ', s, e1, k⟩
@[simp] noncomputable def Zig : FAX := fun δ => some (.v [] δ)
@[simp] noncomputable def Zgd (fx : FX) (fa : FAX) : FAX := fun δ => (fx δ).bind fun
  | .v rv δ1 => (fa δ1).bind fun
    | .v rvs δ2 => some (.v (rv :: rvs) δ2)
    | .x e δ2 => some (.x e δ2)
  | .x e δ1 => some (.x e δ1)
theorem Zo9 {R : List V → Hp → Prop} (h : Zfw Z Zig σ H R) : tNil σ H R := by
  obtain ⟨F, δ, own, r, s, e, k⟩ := h
  cases e
  exact k [] H F own (Same.refl H) (Same.refl F) s .nil
theorem Znh {fx : FX} {fa : FAX} {R : List V → Hp → Prop} (h : Zfw Z (Zgd fx fa) σ H R) : Zf3 (Zeo Z fx) (Zfw Z fa) σ H R := by
  obtain ⟨F, δ, own, r, s, e, k⟩ := h
  obtain ⟨r1, e1, e2⟩ := Option.bind_eq_some_iff.mp e
  cases r1 with
  | x x1 δ1 => cases e2; exact ⟨F, δ, own, _, s, e1, k⟩
  | v rv δ1 =>
    obtain ⟨r2, e3, e4⟩ := Option.bind_eq_some_iff.mp e2
    refine ⟨F, δ, own, _, s, e1, fun v H1 F1 own1 sH sF s1 r1 => ?_⟩
    obtain ⟨F2, sF2, s2, rr⟩ := s1.settleR r1
    cases r2 with
    | x x2 δ2 => cases e4; exact ⟨F2, δ1, own1, _, s2, e3, XOk.mono (sF.trans sF2) k⟩
    | v rvs δ2 =>
      cases e4
      exact ⟨F2, δ1, own1, _, s2, e3, fun vs H3 F3 own3 sH3 sF3 s3 r3 => k _ H3 F3 own3 (sH.trans sH3) (sF.trans (sF2.trans sF3)) s3 (.cons (rr.mono sF3) r3)⟩
@[simp] noncomputable def binX (g : D → D → Option SV) (fa fb : FX) : FX := fun δ => (fa δ).bind fun
  | .x e δ1 => some (.x e δ1)
  | .v r1 δ1 => (fb δ1).bind fun
    | .x e δ2 => some (.x e δ2)
    | .v r2 δ2 => (rdv r1 δ2).bind fun d1 => (rdv r2 δ2).bind fun d2 => (g d1 d2).bind fun sv => some (.v (.tmp sv) δ2)
end
inductive XO where
  | v (sv : SV) | x (e : Exn)
noncomputable def spX (K : PySem.W.Frag) (n : Nat) (g : List D → Option XO) : Sp := fun vs H Q E => ∃ F ds o, Same F H ∧ Reps K F ds vs ∧ ds.length = n ∧ g ds = some o ∧ match o with
  | .v sv => ∀ v H' F' ns, Same H H' → Same F F' → Same F' H' → (∀ (b : Addr) (o : HO), F' b = some o → F b = some o ∨ H b = none) → Shape K F' sv v ns → (adr ns).Nodup → (∀ p ∈ ns, F' p.1 = none ∧ H p.1 = none ∧ H' p.1 = some p.2) → Q v H'
  | .x e => ∀ cls od H' F', Same H H' → Same F F' → Same F' H' → (∀ (b : Addr) (o : HO), F' b = some o → F b = some o ∨ H b = none) → Zoi K F' e cls od → E cls od H'
theorem Zpa {n : Nat} {g : List D → Option XO} {vs : List V} {H : Hp} {Q : VK} {E : XK} (h : spX K n g vs H Q E) : vs.length = n := by
  obtain ⟨F, ds, o, le, r, hn, e, k⟩ := h
  rw [← r.length]; exact hn
@[simp] noncomputable def outX (f : FS) (n : Nat) (ds : List D) : Option XO := match f (Zhk n ds) with
  | some (.rt sv) => some (.v sv)
  | some (.nx _) => some (.v (.fz .non))
  | some (.ex e _) => some (.x e)
  | _ => none
noncomputable abbrev entX (H F : Hp) (E : XK) : Ent K := ⟨H, F, fun cls od _ H' => E cls od H'⟩
theorem SR.ent {Z Y : Ent K} {F H : Hp} {σ : St} {δ : DSt} {own : Nat → Zp} (s : SR Z F H σ δ own) (h1 : Z.h = Y.h := by rfl) (h2 : Z.f = Y.f := by rfl) : SR Y F H σ δ own :=
  ⟨s.le, h1 ▸ h2 ▸ s.fro, h1 ▸ s.old, s.len, s.at', s.nod, fun i p hp => h1 ▸ s.ok i p hp, s.sep⟩
theorem Zj3 {N : List Str} {n : Nat} {f : FS} {vs : List V} {H : Hp} {Q : VK} {E : XK} (h : spX K n (outX f N.length) vs H Q E) : ∃ F, Zo (entX H F E : Ent K) f { nx := fun _ H' => Q .non H', rt := Q } (L2.start N vs) H := by
  obtain ⟨F, ds, o, le, r, hn, e, k⟩ := h
  have s0 : SR (entX H F E : Ent K) F H (L2.start N vs) (Zhk N.length ds) fun _ => [] := (Zh8 (N := N) le r).ent
  unfold outX at e
  split at e
  · rename_i sw hf
    cases e
    exact ⟨F, F, _, _, .rt sw, s0, hf, fun v H' F' ns a b c d e' nd ok => k v H' F' ns d a b c e' nd ok⟩
  · rename_i δ hf
    cases e
    exact ⟨F, F, _, _, .nx δ, s0, hf, fun σ' H' F' own' a s' => k .non H' F' [] s'.old a s'.le s'.fro (.fz .non) List.nodup_nil fun _ h => (nomatch h)⟩
  · rename_i x δ hf
    cases e
    exact ⟨F, F, _, _, .ex x δ, s0, hf, fun σ' H' F' own' cls od a s' r' => k cls od H' F' s'.old a s'.le s'.fro r'⟩
  · cases e
section
variable {Z : Ent K} {H : Hp} {σ : St} {Q : VK} {E : Ends}
theorem SR.behind {F2 H1 F3 H3 : Hp} {δ2 : DSt} {own2 : Nat → Zp} (s2 : SR Z F2 H1 σ δ2 own2) (sH3 : Same H1 H3) (sF3 : Same F2 F3) (le3 : Same F3 H3) (fro3 : ∀ (b : Addr) (o : HO), F3 b = some o → F2 b = some o ∨ H1 b = none) : SR Z F3 H3 σ δ2 own2 := by
  refine ⟨le3, fun b o e => ?_, s2.old.trans sH3, s2.len, fun i sw ei => ?_, s2.nod, fun i p hp => ?_, s2.sep⟩
  · rcases fro3 b o e with z | z
    · exact s2.fro b o z
    · exact .inr (s2.old.free z)
  · obtain ⟨w, h1, h2⟩ := s2.at' i sw ei
    exact ⟨w, h1, h2.mono sF3⟩
  · obtain ⟨a, b, c⟩ := s2.ok i p hp
    refine ⟨?_, b, sH3 _ _ c⟩
    cases z : F3 p.1 with
    | none => rfl
    | some u =>
      rcases fro3 _ u z with y | y
      · rw [a] at y; cases y
      · rw [c] at y; cases y
@[simp] noncomputable def Zrx (n : Nat) (g : List D → Option XO) (fa : FAX) : FX := fun δ => (fa δ).bind fun
  | .x e δ1 => some (.x e δ1)
  | .v rvs δ1 => (DL.frzAll rvs δ1).bind fun q => if q.1.length = n then (g q.1).bind (fun
    | .v sv => some (.v (.tmp sv) (if sv.scal then δ1 else q.2))
    | .x e => some (.x e q.2)) else none
theorem Zvf {n : Nat} {g : List D → Option XO} {fa : FAX} (h : Zeo Z (Zrx n g fa) σ H Q) : Zsx (spX K n g) Z.x (Zfw Z fa) σ H Q := by
  obtain ⟨F, δ, own, rx, s, e, k⟩ := h
  obtain ⟨r1, e1, e2⟩ := Option.bind_eq_some_iff.mp e
  cases r1 with
  | x x1 δ1 => cases e2; exact ⟨F, δ, own, _, s, e1, k⟩
  | v rvs δ1 =>
    obtain ⟨⟨ds, δ2⟩, e3, e4⟩ := Option.bind_eq_some_iff.mp e2
    refine ⟨F, δ, own, _, s, e1, fun vs H1 F1 own1 sH sF s1 r1 => ?_⟩
    obtain ⟨F2, own2, sF2, s2, r2⟩ := s1.frzAll (own := own) (F := F) (δ := δ) r1 e3
    by_cases hn : ds.length = n
    · rw [if_pos hn] at e4
      obtain ⟨o, e5, e6⟩ := Option.bind_eq_some_iff.mp e4
      refine ⟨F2, ds, o, s2.le, r2, hn, e5, ?_⟩
      cases o with
      | x x2 =>
        cases e6
        exact fun cls od H3 F3 sH3 sF3 le3 fro3 rr => k H3 F3 own2 cls od (sF.trans (sF2.trans sF3)) (s2.behind sH3 sF3 le3 fro3) rr
      | v sv =>
        cases e6
        intro v H3 F3 ns sH3 sF3 le3 fro3 sh nd ok
        by_cases hs : sv.scal = true
        · rw [if_pos hs] at k
          obtain ⟨_, sh'⟩ := Zl2 (F' := F1) hs sh
          exact k v H3 F1 own1 (sH.trans sH3) sF (s1.grow sH3) ⟨[], sh', List.nodup_nil, fun _ h => (nomatch h), fun _ _ _ h => (nomatch h)⟩
        · rw [if_neg hs] at k
          exact k v H3 F3 own2 (sH.trans sH3) (sF.trans (sF2.trans sF3)) (s2.behind sH3 sF3 le3 fro3) ⟨ns, sh, nd, fun p hp => ⟨(ok p hp).1, (s2.old).free (ok p hp).2.1, (ok p hp).2.2⟩, fun i p q hp hq e => by
            have z := (s2.ok i q hq).2.2
            rw [← e, (ok p hp).2.1] at z; cases z⟩
    · rw [if_neg hn] at e4; cases e4
@[simp] noncomputable def setX (i : Nat) (fx : FX) : FS := fun δ => (fx δ).bind fun
  | .v rv δ1 => (stow i rv δ1).bind fun δ' => some (.nx δ')
  | .x e δ1 => some (.ex e δ1)
theorem XOk.of {F : Hp} {x : Exn} {δ : DSt} (k : Zgo Z F E (.ex x δ)) : XOk Z F σ x δ := fun H' F' own' cls od a b c => k σ H' F' own' cls od a b c
theorem Zyl {i : Nat} {fx : FX} (h : Zo Z (setX i fx) E σ H) : tAsg (Zeo Z fx) (Zi6 i) E σ H := by
  obtain ⟨F, δ, own, fl, s, e, k⟩ := h
  obtain ⟨r, e1, e2⟩ := Option.bind_eq_some_iff.mp e
  cases r with
  | x x1 δ1 => cases e2; exact Zmg s e1 (.of k)
  | v rv δ1 => exact Zmf (Zui (Z := Z) (E := E) (i := i) (fe := fx.val) ⟨F, δ, own, fl, s, by unfold setF FX.val; rw [e1]; exact e2, k⟩)
@[simp] noncomputable def retX (fx : FX) : FS := fun δ => (fx δ).bind fun
  | .v rv δ1 => (outF rv δ1).bind fun sv => some (.rt sv)
  | .x e δ1 => some (.ex e δ1)
theorem Zym {fx : FX} (h : Zo Z (retX fx) E σ H) : tRet (Zeo Z fx) E σ H := by
  obtain ⟨F, δ, own, fl, s, e, k⟩ := h
  obtain ⟨r, e1, e2⟩ := Option.bind_eq_some_iff.mp e
  cases r with
  | x x1 δ1 => cases e2; exact Zmg s e1 (.of k)
  | v rv δ1 => exact Zmf (Zxp (Z := Z) (E := E) (fe := fx.val) ⟨F, δ, own, fl, s, by unfold retF FX.val; rw [e1]; exact e2, k⟩)
@[simp] noncomputable def Zhq (c : Str) : FS := fun δ => some (.ex ⟨c, [], []⟩ δ)
theorem Zvg {c : Str} {C : Addr} {x : Str} (cl : Zev K c C) (hx : ∀ cls od σ H', Z.x cls od σ H' → Z.x cls od [] H') (h : Zo Z (Zhq c) E σ H) : Zsw (fun cls od H' => Z.x cls od [] H') C (Zf3 (tC (.str x)) tNil) E σ H := by
  obtain ⟨F, δ, own, fl, s, e, k⟩ := h
  cases e
  exact ⟨by show 1 ≤ PySem.sizeLine; decide, hx _ _ _ _ (k σ H F own (.ref C) none (Same.refl F) s ⟨C, cl, rfl, rfl, rfl⟩)⟩
structure HX where
  x : Str
  np : Pos
  nm : Option (Str × Nat)
  b0 : Stmt
  suite : List Stmt
  pos : Pos
  B : Addr
  yes : List Str
  no : List Str
  f : FS
structure HX.Sub (K : PySem.W.Frag) (h : HX) : Prop where
  yes : ∀ c ∈ h.yes, ∀ C, Zev K c C → PySem.W.mroIn K C (.ref h.B) = some true
  no : ∀ c ∈ h.no, ∀ C, Zev K c C → PySem.W.mroIn K C (.ref h.B) = some false
noncomputable def HX.hd (Z : Ent K) (h : HX) : Hd := ⟨h.x, h.np, h.nm, h.b0, h.suite, h.pos, h.B, Zo Z h.f⟩
structure HF where
  i : Option Nat
  yes : List Str
  no : List Str
  f : FS
@[simp] noncomputable def HX.hf (h : HX) : HF := ⟨h.nm.map (·.2), h.yes, h.no, h.f⟩
@[simp] noncomputable def Zry (c : Str) : List HF → Option HF
  | [] => none
  | h :: r => if c ∈ h.yes then some h else if c ∈ h.no then Zry c r else none
theorem Zj4 (Z : Ent K) {c : Str} {C : Addr} (cl : Zev K c C) : ∀ (hs : List HX) {f : HF}, (∀ h ∈ hs, h.Sub K) → Zry c (hs.map HX.hf) = some f → ∃ h : HX, h.hf = f ∧ Zm9 K C (hs.map (HX.hd Z)) = some (h.hd Z)
  | [], f, _, e => nomatch e
  | h :: r, f, ok, e => by
    have e : (if c ∈ h.yes then some h.hf else if c ∈ h.no then Zry c (r.map HX.hf) else none) = some f := e
    show ∃ g : HX, g.hf = f ∧ (match PySem.W.mroIn K C (.ref h.B) with | some true => some (h.hd Z) | some false => Zm9 K C (r.map (HX.hd Z)) | none => none) = some (g.hd Z)
    have kh := ok h List.mem_cons_self
    by_cases q : c ∈ h.yes
    · rw [if_pos q] at e; cases e; exact ⟨h, rfl, by rw [kh.yes c q C cl]⟩
    · rw [if_neg q] at e
      by_cases q2 : c ∈ h.no
      · rw [if_pos q2] at e
        obtain ⟨g, g1, g2⟩ := Zj4 Z cl r (fun g hg => ok g (List.mem_cons_of_mem _ hg)) e
        exact ⟨g, g1, by rw [kh.no c q2 C cl]; exact g2⟩
      · rw [if_neg q2] at e; cases e
@[simp] noncomputable def Fl.but (i : Nat) : Fl → Fl
  | .nx δ => .nx (δ.set i none)
  | .bk δ => .bk (δ.set i none)
  | .ct δ => .ct (δ.set i none)
  | .ex e δ => .ex e (δ.set i none)
  | .rt sv => .rt sv
@[simp] noncomputable def Fl.isEx : Fl → Bool
  | .ex _ _ => true
  | _ => false
@[simp] noncomputable def HF.run (h : HF) (x : Exn) (δ : DSt) : Option Fl := match h.i with
  | none => h.f δ
  | some i => if i < δ.length then (h.f (δ.set i (some (.fz (.exc x.c x.ks x.vs))))).bind fun fl => if fl.isEx = true then none else some (fl.but i) else none
@[simp] noncomputable def tryF (fb : FS) (hs : List HF) : FS := fun δ => (fb δ).bind fun
  | .ex x δ1 => (Zry x.c hs).bind fun h => h.run x δ1
  | fl => some fl
noncomputable abbrev Ent.wish (Z : Ent K) (EX : EXT) : Ent K := ⟨Z.h, Z.f, EX⟩
theorem SR.unset {F : Hp} {δ : DSt} {own : Nat → Zp} (s : SR Z F H σ δ own) (i : Nat) : SR Z F H (σ.set i none) (δ.set i none) (put own i []) := by
  refine ⟨s.le, s.fro, s.old, by rw [List.length_set, List.length_set]; exact s.len, fun j sw ej => ?_, fun j => ?_, fun j p hp => ?_, fun j k p q hjk hp hq => ?_⟩
  · by_cases hj : j = i
    · subst hj
      have hd : j < δ.length := by
        have := (List.getElem?_eq_some_iff.mp ej).1
        simpa using this
      rw [List.getElem?_set_self hd] at ej
      cases ej
    · rw [List.getElem?_set_ne (Ne.symm hj)] at ej
      rw [Zac hj, List.getElem?_set_ne (Ne.symm hj)]
      exact s.at' j sw ej
  · by_cases hj : j = i
    · subst hj; rw [Zs]; exact List.nodup_nil
    · rw [Zac hj]; exact s.nod j
  · by_cases hj : j = i
    · subst hj; rw [Zs] at hp; exact nomatch hp
    · rw [Zac hj] at hp; exact s.ok j p hp
  · by_cases hj : j = i
    · subst hj; rw [Zs] at hp; exact nomatch hp
    · by_cases hk : k = i
      · subst hk; rw [Zs] at hq; exact nomatch hq
      · rw [Zac hj] at hp
        rw [Zac hk] at hq
        exact s.sep j k p q hjk hp hq
theorem Zrz {F : Hp} {i : Nat} {fl : Fl} (hx : fl.isEx = false) (k : Zgo Z F E (fl.but i)) : Zgo Z F (E.but i) fl := by
  cases fl with
  | nx δ => exact fun σ' H' F' own' a b => k (σ'.set i none) H' F' _ a (b.unset i)
  | bk δ => exact fun σ' H' F' own' a b => k (σ'.set i none) H' F' _ a (b.unset i)
  | ct δ => exact fun σ' H' F' own' a b => k (σ'.set i none) H' F' _ a (b.unset i)
  | rt sv => exact k
  | ex x δ => cases hx
theorem Z1n {fb : FS} {hs : List HX} (hsub : ∀ h ∈ hs, h.Sub K) (h : Zo Z (tryF fb (hs.map HX.hf)) E σ H) : tTry K (fun EX => Zo (Z.wish EX) fb) (hs.map (HX.hd Z)) E σ H := by
  obtain ⟨F, δ, own, fl, s, e, k⟩ := h
  obtain ⟨f1, e1, e2⟩ := Option.bind_eq_some_iff.mp e
  refine ⟨F, δ, own, f1, s.ent, e1, ?_⟩
  cases f1 with
  | nx δ1 => cases e2; exact fun σ' H' F' own' a b => k σ' H' F' own' a b.ent
  | bk δ1 => cases e2; exact fun σ' H' F' own' a b => k σ' H' F' own' a b.ent
  | ct δ1 => cases e2; exact fun σ' H' F' own' a b => k σ' H' F' own' a b.ent
  | rt sv => cases e2; exact k
  | ex x δ1 =>
    obtain ⟨hf, e3, e4⟩ := Option.bind_eq_some_iff.mp e2
    intro σ' H' F' own' cls od sF s' r
    obtain ⟨C, cl, rc, r2⟩ := r
    obtain ⟨g, g1, g2⟩ := Zj4 Z cl hs hsub e3
    subst g1
    refine ⟨C, g.hd Z, rc, g2, ?_⟩
    have s2 : SR Z F' H' σ' δ1 own' := s'.ent
    obtain ⟨gx, gnp, gnm, gb0, gsu, gpos, gB, gy, gn, gf⟩ := g
    cases gnm with
    | none => exact ⟨F', δ1, own', fl, s2, e4, k.mono sF⟩
    | some ni =>
      obtain ⟨n, i⟩ := ni
      have e4 : (if i < δ1.length then (gf (δ1.set i (some (.fz (.exc x.c x.ks x.vs))))).bind fun fl => if fl.isEx = true then none else some (fl.but i) else none) = some fl := e4
      by_cases hc : i < δ1.length
      · rw [if_pos hc] at e4
        obtain ⟨fl0, e5, e6⟩ := Option.bind_eq_some_iff.mp e4
        have hx0 : fl0.isEx = false := by
          cases z : fl0.isEx with
          | true => rw [if_pos z] at e6; cases e6
          | false => rfl
        rw [if_neg (by rw [hx0]; exact Bool.false_ne_true)] at e6
        cases e6
        intro a ha
        have ha' : H' a = none := ha
        have sm := Zc9 (o := .ext (Zgm a C od)) ha'
        have sF2 : Same F' (addL F' [(a, .ext (Zgm a C od))]) := Zcz fun q hq => by obtain rfl := List.mem_singleton.mp hq; exact s2.le.free ha'
        have s3 : SR Z (addL F' [(a, .ext (Zgm a C od))]) (upd H' a (.ext (Zgm a C od))) σ' δ1 own' := by
          refine (s2.grow sm).addF nd1 (fun q hq => ?_) (fun q hq => ?_) (fun q hq => ?_) fun i q u hq hu => ?_
          · obtain rfl := List.mem_singleton.mp hq; exact s2.le.free ha'
          · obtain rfl := List.mem_singleton.mp hq; exact Zah
          · obtain rfl := List.mem_singleton.mp hq; exact s2.old.free ha'
          · obtain rfl := List.mem_singleton.mp hq
            intro e
            have e' : a = u.1 := e
            have z := (s2.ok i u hu).2.2
            rw [← e', ha'] at z; cases z
        have rp : Rep K (addL F' [(a, .ext (Zgm a C od))]) (.exc x.c x.ks x.vs) (.ref a) := by
          cases od with
          | none => obtain ⟨r3, r4⟩ := r2; rw [r3, r4]; exact .exc cl Zah
          | some dx => obtain ⟨fs, r3, r4, r5⟩ := r2; exact .exd cl Zah (sF2 _ _ r3) r4 (r5.mono sF2)
        have s4 := s3.store (i := i) (sv := .fz (.exc x.c x.ks x.vs)) (v := .ref a) (ns := []) (.fz rp) (by rw [s3.len]; exact hc)
        exact ⟨_, _, _, fl0, s4, e5, Zrz hx0 (k.mono (sF.trans sF2))⟩
      · rw [if_neg hc] at e4; cases e4
end
end DL
namespace DL
open PySem PySem.Spec PyProof.Rows L2
section
variable {X : Cx} {Z : Ent X.K} {a b c : Expr} {fa fb : FE} {fx fy : FX} {pos : Pos}
theorem Ztb (h : PE X a (Ze Z fa)) : PE X a (Zeo Z (Zrw fa)) := h.imp fun _ _ _ q => Zve q
theorem Ztc : PA X [] (Zfw Z Zig) := Zc6.imp fun _ _ _ h => Zo9 h
theorem Zpb {es : List Expr} {fr : FAX} (ha : PE X a (Zeo Z fx)) (hr : PA X es (Zfw Z fr)) (hs : starEach (a :: es) X.env = (false, eval a X.env) :: starEach es X.env := by rfl) : PA X (a :: es) (Zfw Z (Zgd fx fr)) := (Zb9 ha hr hs).imp fun _ _ _ h => Znh h
theorem Ztd {k n : Nat} {f : Addr} {fd : FuncData} {ps : List Str} {g : List D → Option XO} {x : Str} {p : Pos} {es : List Expr} {fr : FAX} (F : FnOk X.prog X.w X.K X.mg X.base (CX1 X.prog X.w) k f fd ps (spX X.K n g)) (hr : Room k X.A) (hm : X.mg x = some (.ref f)) (hk : PySem.W.keepIn X.K (.ref f) = true) (hb : Zay X.K fd ps [])
    (th : Zjn X Z.x) (ha : PA X (a :: es) (Zfw Z fr)) (hg : Gl X x := by rfl) (hdb : (x == ("__debug__" : Str)) = false := by decide) (he : starEach (a :: es) X.env = (false, eval a X.env) :: starEach es X.env := by rfl) (hpl : (backTo pos (starEach es X.env)).any (·.1) = false := by rfl) :
    PE X (.Call (.Name x p) (a :: es) [] pos) (Zeo Z (Zrx n g fr)) := (Zq6 F hr hg hm hk hb th ha hdb he hpl).imp fun _ _ _ h => Zvf h
theorem Fun.okX {P : Program} {w : World} {K : PySem.W.Frag} {mg : Str → Option Value} {base : Heap} {x qual : Str} {st : Stmt} {f : Addr} {fd : FuncData} {N ps : List Str} {k : Nat} {sp : Sp} (F : Fun K x qual st f fd) (S : FnScope N ps (Zh st)) (len : ∀ vs H Q E, sp vs H Q E → vs.length = ps.length)
    (hbody : ∀ (cdv : Value) (A : Around) (outer : List Env) (s : Shared) (H : Hp) (vs : List V) (Q : VK) (E : XK), Room k (A.deeper (envOfC qual (Zh st) s.heap.objs.size f cdv)) → sp vs H Q E →
      ∃ t, PSs (cxOf (CX1 P w) P w K mg base N qual (Zh st) f cdv A outer s H E) (Zy st) t ∧ t { nx := fun _ H' => Q .non H', rt := Q } (L2.start N vs) H) : FnOk P w K mg base (CX1 P w) (k + 1) f fd ps sp := by
  obtain ⟨oc, od, kV, doc, pm, an, cdv, ct, osl, rfl, lk, hcd⟩ := F.ex
  exact Zw5 lk hcd S len fun A outer s H vs Q E hr hsp => hbody cdv A outer s H vs Q E hr hsp
theorem Zyn (h : PE X a (Zeo Z fx)) : PS X (.Return (some a) pos) (Zo Z (retX fx)) := (Zsm h).imp fun _ _ _ h => Zym h
theorem Zyo (i : Nat) {x : Str} {pos' : Pos} (hN : X.N.Nodup) (he : PE X a (Zeo Z fx)) (hi : X.N[i]? = some x := by rfl) (hx : Loc X.env.scope x := by first | exact Or.inl rfl | exact Or.inr rfl) (hs : swapsWith a (some (.Name x pos')) pos.line X.env = pure false := by rfl) (hf : X.fn x = true ∨ X.env.scope.names.lookup x = some .local := by first | exact .inl rfl | exact .inr rfl) :
    PS X (.Assign [.Name x pos'] a pos) (Zo Z (setX i fx)) := (Znx hN hi hx he hs hf).imp fun _ _ _ h => Zyl h
theorem Zhr {K : PySem.W.Frag} {h : Heap} {mg : Str → Option Value} {x : Str} {C : Addr} {bmB : List Value} {newId : String} (X : K.In h) (hb : mg x = some (.ref C)) (q : PySem.W.excIn K C bmB newId = true) : OwnCls x C bmB newId mg h := by
  refine ⟨hb, ?_⟩
  unfold PySem.W.excIn at q
  split at q
  · rename_i dd cd sl ho
    split at q
    · rename_i C2 bm s0 s1 s2 s3 id s5 hm hs
      simp only [Bool.and_eq_true, beq_iff_eq, Bool.not_eq_true'] at q
      obtain ⟨⟨⟨⟨⟨rfl, rfl⟩, hdl⟩, ht⟩, hok⟩, hin⟩ := q
      obtain ⟨nm, bs, mro, ns, qn, hd, sn, sub, ab, col, del⟩ := cd
      dsimp only at hm hdl hok hin
      subst hm hdl
      obtain ⟨l⟩ := sl
      simp only at hs
      subst hs
      exact ⟨bm, ns, nm, qn, bs, hd, sn, sub, ab, col, dd, s0, s1, s2, s3, s5, _, X _ _ ho,
        .of_isNs (PySem.W.isNs_of_in X hok), PySem.W.nsMap_none_of_in X hok hin, PySem.W.tail_of_in X ht⟩
    · cases q
  · cases q
theorem Zr0 : ∀ h bm, OwnTail h VEB bm → bm.contains (.type "BaseException") = true := fun h bm t => t.hasType (by decide)
theorem Zih {x : Str} {C : Addr} {np cpos cp : Pos} {y : Str} {j : Nat} (th : Zjm X fun cls od H' => Z.x cls od [] H') (hc : X.calm = true) (oc : OwnCls x C VEB "ValueError.__new__" X.mg X.base) (cl : Zev X.K x C) (hx : ∀ cls od σ H', Z.x cls od σ H' → Z.x cls od [] H' := by exact fun _ _ _ _ h => h) (hex : X.ex = [] := by rfl) (hg : Gl X x := by rfl)
    (he : starEach [.Constant (.str y) j cp] X.env = (false, eval (.Constant (.str y) j cp) X.env) :: starEach [] X.env := by rfl) (hpl : ((backTo cpos (starEach [.Constant (.str y) j cp] X.env)).any fun x => x.1) = false := by rfl)
    (hbk : ∃ z rest, backTo cpos (starEach [.Constant (.str y) j cp] X.env) = (false, z) :: rest := by exact ⟨_, _, rfl⟩) (hd : (x == ("__debug__" : Str)) = false := by decide) :
    PS X (.Raise (some (.Call (.Name x np) [.Constant (.str y) j cp] [] cpos)) none pos) (Zo Z (Zhq x)) :=
  (Zq5 th hc hex oc hg (Zb9 Znv Zc6 he) he hpl hbk Zr0 hd).imp fun _ _ _ h => Zvg cl hx h
theorem Z1o {body : List Stmt} {fb : FS} {h0 : HX} {hs : List HX} (hb : ∀ pn xe EX, Zdi (X.inTry pn xe) EX → PSs (X.inTry pn xe) body (Zo (Z.wish EX) fb)) (ok : ∀ h ∈ h0 :: hs, (h.hd Z).Ok X) (hsub : ∀ h ∈ h0 :: hs, h.Sub X.K) (hex : X.ex = [] := by rfl) (hst : X.stack = X.env :: X.outer := by rfl) (hfr : X.env.frame = some X.env.locals := by rfl) :
    PS X (.Try body (((h0 :: hs).map (HX.hd Z)).map Hd.ast) [] [] pos) (Zo Z (tryF fb ((h0 :: hs).map HX.hf))) :=
 
  (Zxi (tb := fun EX => Zo (Z.wish EX) fb) (h0 := h0.hd Z) (hs := hs.map (HX.hd Z)) hb (fun h hh => by
    have hh' : h ∈ (h0 :: hs).map (HX.hd Z) := hh
    obtain ⟨g, hg, rfl⟩ := List.mem_map.mp hh'
    exact ok g hg) hex hst hfr).imp fun _ _ _ h => Z1n (hs := h0 :: hs) hsub h
theorem Zpc {α : Type} {P : α → Prop} {a : α} (h : P a) : ∀ x ∈ [a], P x := fun x hx => by rw [List.mem_singleton.mp hx]; exact h
theorem Zpd {P : Addr → Prop} {K : PySem.W.Frag} : ∀ c ∈ ([] : List Str), ∀ C, Zev K c C → P C := fun _ h => nomatch h
theorem Zr1 {P : Addr → Prop} {K : PySem.W.Frag} {c : Str} {a : Addr} {r : List Str} (x : Zev K c a) (m : P a) (t : ∀ c ∈ r, ∀ C, Zev K c C → P C) : ∀ d ∈ c :: r, ∀ C, Zev K d C → P C := fun d hd C cl => by
  rcases List.mem_cons.mp hd with e | e
  · subst e
    have z := x.symm.trans cl
    cases z
    exact m
  · exact t d e C cl
theorem Zvh {P : Str → Nat → Prop} : ∀ n i, (none : Option (Str × Nat)) = some (n, i) → P n i := fun _ _ h => nomatch h
end
end DL
namespace DL
open PySem PySem.Spec PyProof.Rows L2
section
variable {X : Cx} {pins : List (Addr × Obj)} {σ : L2.St} {H : Hp} {s : Shared}
end
section
variable {K : PySem.W.Frag} {Z : Ent K} {σ : L2.St} {H : Hp} {Q : VK}
end
section
variable {X : Cx} {Z : Ent X.K} {a b c : Expr} {fa fb fc : FE} {pos : Pos}
end
end DL
namespace DL
open PySem PySem.Spec PyProof.Rows L2
@[simp] noncomputable def Zfx (ss : List Str) (fd : FD) : FD := fun δ => (fd δ).bind fun p => some (ss.map D.str ++ p.1, p.2)
theorem Zvi {K : PySem.W.Frag} {Z : Ent K} {σ : L2.St} {H : Hp} {fd : FD} : ∀ (ss : List Str) {R : List V → Hp → Prop}, Zem Z (Zfx ss fd) σ H R → Zem Z fd σ H fun vs H' => R (ss.map V.str ++ vs) H'
  | ss, R, h => by
    obtain ⟨F, δ, own, ds, δ', s, e, k⟩ := h
    obtain ⟨⟨ds1, δ1⟩, e1, e2⟩ := Option.bind_eq_some_iff.mp e
    cases e2
    refine ⟨F, δ, own, ds1, δ1, s, e1, fun vs H' F' own' a b c r => k _ H' F' own' a b c ?_⟩
    exact Reps.append (strs_rep ss) r
where strs_rep {F : Hp} : ∀ ss : List Str, Reps K F (ss.map D.str) (ss.map V.str)
  | [] => .nil
  | x :: r => .cons (.str x) (strs_rep r)
section
variable {X : Cx} {Z : Ent X.K} {pos : Pos}
noncomputable abbrev cst (x : Str × Nat × Pos) : Expr := .Constant (.str x.1) x.2.1 x.2.2
theorem Zmh {es : List Expr} {t : TA} (h : PA X es t) : ∀ l : List (Str × Nat × Pos), PA X (l.map cst ++ es) fun σ H R => t σ H fun vs H' => R ((l.map fun x => V.str x.1) ++ vs) H'
  | [] => h
  | x :: r => (Zb9 (e := cst x) (es := r.map cst ++ es) Znv (Zmh h r) rfl).imp fun σ H R q => q
theorem Zgy {es : List Expr} {fd : FD} (l : List (Str × Nat × Pos)) (h : PA X es (Zem Z fd)) : PA X (l.map cst ++ es) (Zem Z (Zfx (l.map (·.1)) fd)) :=
  (Zmh h l).imp fun σ H R q => by
    have := Zvi (l.map (·.1)) q
    rw [List.map_map] at this
    exact this
end
end DL
namespace DL
open PySem PySem.Spec PyProof.Rows L2
section
variable {K : PySem.W.Frag}
inductive RC where
  | v (δ : DSt) | x (e : Exn)
noncomputable def xX (K : PySem.W.Frag) (f : FX) (EX : EXT) : TE := fun σ H Q => ∃ Z : Ent K, Z.x = EX ∧ Zeo Z f σ H Q
@[simp] noncomputable def Zep (src : List BSrc) (k : Nat) (g : FG) (tt : FT) (te : FX) : List D → DSt → Option RC
  | [], δ => some (.v δ)
  | d :: ds, δ => (g.run d δ).bind fun δ1 => (tt δ1).bind fun p => if p.1 = true then (te p.2).bind (fun
    | .x e _ => some (.x e)
    | .v rv δ2 => (frz rv δ2).bind fun r => match r.2[k]? with
      | some (some (.ol zs)) => if zs.length < PySem.sizeLine then Zep src k g tt te ds (Zfj src (r.2.set k (some (.ol (zs ++ [r.1]))))) else none
      | _ => none)
    else Zep src k g tt te ds (Zfj src p.2)
@[simp] noncomputable def Zvj (src : List BSrc) (k : Nat) (fi : FD) (g : FG) (tt : FT) (te : FX) : FX := fun δ => (fi δ).bind fun p => (frzAll (caps src) p.2).bind fun c => (Zep src k g tt te p.1 (bD src c.2)).bind fun
  | .x e => some (.x e c.2)
  | .v δb => match δb[k]? with
    | some (some (.ol ys)) => some (.v (.tmp (.ol ys)) c.2)
    | _ => none
theorem Zvk {Z : Ent K} {H : Hp} {σ : L2.St} {Q : VK} {src : List BSrc} {k : Nat} {fi : FD} {g : FG} {tt : FT} {te : FX} (S : SrcOk src k) (hk : k ∉ g.tch) (h : Zeo Z (Zvj src k fi g tt te) σ H Q) :
    Zsy src (Zgq Z fi) (xG K g) (xT K tt) (xX K te) Z.x σ H Q := by
  obtain ⟨F, δ, own, rx, s, e, k0⟩ := h
  obtain ⟨⟨ds, δ1⟩, e1, e2⟩ := Option.bind_eq_some_iff.mp e
  obtain ⟨⟨cs, δ2⟩, e3, e4⟩ := Option.bind_eq_some_iff.mp e2
  obtain ⟨δf, e5, e6⟩ := Option.bind_eq_some_iff.mp e4
  refine ⟨F, δ, own, ds, δ1, s, e1, fun J H1 F1 own1 sH sF s1 yl acc ha => ?_⟩
  obtain ⟨F2, own2, sF2, s2⟩ := s1.caps (fun rv hr => by
    unfold DL.caps at hr
    obtain ⟨b, _, hb⟩ := List.mem_filterMap.mp hr
    cases b with
    | own => cases hb
    | acc => cases hb
    | cap j => cases hb; exact ⟨j, rfl⟩) e3
  have s3 : SR (⟨H1, F2, fun cls od _ H' => Z.x cls od σ H'⟩ : Ent K) F2 (upd H1 acc (.lst [])) (bSt src σ acc) (bD src δ2) (fun i => if i = k then [(acc, .lst [])] else []) := (Zl3 S s2 ha).ent
  have hacc0 : (bSt src σ acc)[k]? = some (some (.ref acc)) := by unfold bSt; rw [List.getElem?_map, S.acc]; rfl
  refine ⟨fun i m σ' H => m = ds.length - i ∧ i ≤ ds.length ∧ σ'[k]? = some (some (.ref acc)) ∧ ∃ F δ own, Same F2 F ∧ SR (⟨H1, F2, fun cls od _ H' => Z.x cls od σ H'⟩ : Ent K) F H σ' δ own ∧ Zep src k g tt te (ds.drop i) δ = some δf,
    ⟨ds.length, by simp, Nat.zero_le _, hacc0, F2, _, _, Same.refl F2, s3, e5⟩, ?_⟩
  rintro i m σ4 H4 ⟨rfl, hi, hacc, F4, δ4, own4, sF4, s4, ef⟩
  by_cases hlt : i < ds.length
  · have hd : ds[i]? = some ds[i] := by simp [hlt]
    obtain ⟨go, yy⟩ := (yl F4 H4 (sF2.trans sF4) s4.le i).1 _ hd
    rw [List.drop_eq_getElem_cons hlt] at ef
    obtain ⟨δ5, e7, e8⟩ := Option.bind_eq_some_iff.mp ef
    obtain ⟨⟨b, δ6⟩, e9, e10⟩ := Option.bind_eq_some_iff.mp e8
    refine .inr ⟨go, fun x H5 hy => ?_⟩
    obtain ⟨sm, ns, nd, hn, rp⟩ := yy x H5 hy
    obtain ⟨sFn, sn⟩ := s4.fresh sm nd hn
    refine ⟨(⟨H1, F2, fun cls od _ H' => Z.x cls od σ H'⟩ : Ent K), addL F4 ns, δ4, own4, _, δ5, sn, rp, e7, fun σ6 own6 s6 t6 => ⟨(⟨H1, F2, fun cls od _ H' => Z.x cls od σ H'⟩ : Ent K), addL F4 ns, δ5, own6, b, δ6, s6, e9, fun H7 F7 own7 sH7 sF7 s7 => ?_⟩⟩
    have hacc6 : σ6[k]? = some (some (.ref acc)) := (t6 k hk).trans hacc
    cases b with
    | false =>
      dsimp only
      rw [if_neg Bool.false_ne_true] at e10 ⊢
      exact ⟨ds.length - (i + 1), by omega, rfl, hlt, hacc6, F7, _, own7, sF4.trans (sFn.trans sF7), s7.forget (Zd5 src δ6) (fun j sv hj => Zd6 hj), e10⟩
    | true =>
      dsimp only
      rw [if_pos rfl] at e10 ⊢
      obtain ⟨r1, e11, e12⟩ := Option.bind_eq_some_iff.mp e10
      cases r1 with
      | x x8 δ8 =>
        cases e12
        cases e6
        exact ⟨(⟨H1, F2, fun cls od _ H' => Z.x cls od σ H'⟩ : Ent K), rfl, F7, δ6, own7, _, s7, e11, fun H' F' own' cls od sF' s' r' => k0 H' F' own2 cls od (sF.trans (sF2.trans (sF4.trans (sFn.trans (sF7.trans sF'))))) (s2.after s'.old (sF4.trans (sFn.trans (sF7.trans sF'))) s'.le fun b o e => s'.fro b o e) r'⟩
      | v rv8 δ8 =>
        obtain ⟨⟨d9, δ9⟩, e13, e14⟩ := Option.bind_eq_some_iff.mp e12
        refine ⟨(⟨H1, F2, fun cls od _ H' => Z.x cls od σ H'⟩ : Ent K), rfl, F7, δ6, own7, _, s7, e11, fun y H8 F8 own8 sH8 sF8 s8 r8 => ?_⟩
        obtain ⟨F9, sF9, s9, r9⟩ := s8.settleR r8
        obtain ⟨F10, own10, sF10, s10, r10⟩ := s9.frzR r9 e13
        dsimp only at e14
        split at e14
        · rename_i zs hz
          by_cases hzl : zs.length < PySem.sizeLine
          · rw [if_pos hzl] at e14
            obtain ⟨v', hv', sh'⟩ := s10.at' k _ hz
            rw [hacc6] at hv'; cases hv'
            obtain ⟨b, vs, eb, en', r'⟩ := Zeh sh'
            cases eb
            have mb : (acc, HO.lst vs) ∈ own10 k := by rw [en']; exact List.mem_cons_self
            refine ⟨acc, vs, y, rfl, rfl, (s10.ok k _ mb).2.2, by rw [← r'.length]; exact hzl, ?_⟩
            have s11 := s10.change (sv' := .ol (zs ++ [d9])) (o' := .lst (vs ++ [y])) (ns' := [(acc, .lst (vs ++ [y]))]) hz hacc6 mb (.ol (r'.snoc r10)) (fun p hp => .inl (List.mem_singleton.mp hp)) nd1
            exact ⟨ds.length - (i + 1), by omega, rfl, hlt, hacc6, F10, _, _, sF4.trans (sFn.trans (sF7.trans (sF8.trans (sF9.trans sF10)))), s11.forget (Zd5 src _) (fun j sv hj => Zd6 hj), e14⟩
          · rw [if_neg hzl] at e14; cases e14
        · cases e14
  · have hz : i = ds.length := by omega
    subst hz
    rw [List.drop_length] at ef
    cases ef
    refine .inl ⟨(yl F4 H4 (sF2.trans sF4) s4.le _).2 (Nat.le_refl _), ?_⟩
    dsimp only at e6
    split at e6
    · rename_i ys hys
      cases e6
      obtain ⟨v', hv', sh'⟩ := s4.at' k _ hys
      rw [hacc] at hv'; cases hv'
      obtain ⟨b, vs, eb, en', r'⟩ := Zeh sh'
      cases eb
      have mb : (acc, HO.lst vs) ∈ own4 k := by rw [en']; exact List.mem_cons_self
      obtain ⟨o1, o2, o3⟩ := s4.ok k _ mb
      refine k0 (.ref acc) H4 F4 own2 (sH.trans s4.old) (sF.trans (sF2.trans sF4)) (s2.after s4.old sF4 s4.le fun b o e => s4.fro b o e) ⟨[(acc, .lst vs)], .ol r', nd1, fun p hp => ?_, fun j p q hp hq e => ?_⟩
      · obtain rfl := List.mem_singleton.mp hp
        exact ⟨o1, s2.old.free ha, o3⟩
      · obtain rfl := List.mem_singleton.mp hp
        have z := (s2.ok j q hq).2.2
        have e' : acc = q.1 := e
        rw [← e', ha] at z; cases z
    · cases e6
end
section
variable {X : Cx} {Z : Ent X.K} {pos : Pos}
theorem xx {elt : Expr} {f : FX} {EX : EXT} (h : ∀ Z : Ent X.K, Z.x = EX → PE X elt (Zeo Z f)) : PE X elt (xX X.K f EX) := fun pins s σ H Q I ⟨Z, e, q⟩ => h Z e pins s σ H Q I q
theorem Zvl {EX : EXT} (h : Z.x = EX) (t : Zjn X EX) : Zjn X Z.x := by rw [h]; exact t
theorem Zyp {N' : List Str} {scope : Scope} {src : List BSrc} {k : Nat} {tg elt iter : Expr} {ifs : List Expr} {fi : FD} {g : FG} {tt : FT} {te : FX} (hc : X.calm = true) (th : Zdi X Z.x) (S : CompScope X N' scope src) (So : SrcOk src k) (hk : k ∉ g.tch) (hi : PI X tg iter (Zgq Z fi))
    (hg : ∀ (C : Addr) (s₀ : Shared) (H₀ : Hp) (ex : List Addr), PG (X.block N' scope C s₀ H₀ ex) tg (xG X.K g)) (ht : ∀ (C : Addr) (s₀ : Shared) (H₀ : Hp) (ex : List Addr), PTs (X.block N' scope C s₀ H₀ ex) ifs (xT X.K tt))
    (he : ∀ (C : Addr) (s₀ : Shared) (H₀ : Hp) (ex : List Addr) (xe : Value → Shared → Prop) (EX : EXT), Zjn (X.blockX N' scope C s₀ H₀ ex xe) EX → PE (X.blockX N' scope C s₀ H₀ ex xe) elt (xX X.K te EX))
    (hex : X.ex = [] := by rfl) (hst : X.stack = X.env :: X.outer := by rfl) (hfr : X.env.frame = some X.env.locals := by rfl)
    (hs : ∀ x, foldedSetIterable iter X.env x = pure x := by intro _; rfl) : PE X (.ListComp elt [⟨tg, iter, ifs, 0⟩] scope pos) (Zeo Z (Zvj src k fi g tt te)) := (Zq7 hc hex hst hfr th S hi hg ht he hs).imp fun _ _ _ h => Zvk So hk h
theorem Zni {P : Program} {w : World} {K : PySem.W.Frag} {mg : Str → Option Value} {base : Heap} {N : List Str} {qual : Str} {scope : Scope} {f : Addr} {cd : Value} {A : Around} {outer : List Env} {s : Shared} {H : Hp} {E : XK} :
    Zdi (cxOf (CX1 P w) P w K mg base N qual scope f cd A outer s H E) fun cls od _ H' => E cls od H' := Zd2.t
theorem Zvm {body : List Stmt} {fb f : FS} {x : Str} {np hp : Pos} {b0 : Stmt} {suite : List Stmt} {B : Addr} {yes no : List Str} (hb : ∀ pn xe EX, Zdi (X.inTry pn xe) EX → PSs (X.inTry pn xe) body (Zo (Z.wish EX) fb)) (mg : X.mg x = some (.ref B))
    (ck : PySem.W.typeIn X.K (.ref B) = some (.type "type") ∧ PySem.W.isClsIn X.K B = true ∧ PySem.W.mroIn X.K B (.type "BaseException") = some true) (su : ∀ a, PSs (X.inSuite a) (b0 :: suite) (Zo Z f))
    (hy : ∀ c ∈ yes, ∀ C, Zev X.K c C → PySem.W.mroIn X.K C (.ref B) = some true) (hn : ∀ c ∈ no, ∀ C, Zev X.K c C → PySem.W.mroIn X.K C (.ref B) = some false)
    (gl : Gl X x := by rfl) (db : (x == ("__debug__" : Str)) = false := by decide) (hex : X.ex = [] := by rfl) (hst : X.stack = X.env :: X.outer := by rfl) (hfr : X.env.frame = some X.env.locals := by rfl) :
    PS X (.Try body [.ExceptHandler (some (.Name x np)) none (b0 :: suite) hp] [] [] pos) (Zo Z (tryF fb [⟨none, yes, no, f⟩])) :=
  Z1o (h0 := ⟨x, np, none, b0, suite, hp, B, yes, no, f⟩) (hs := []) hb (Zpc ⟨gl, mg, ck.1, ck.2.1, ck.2.2, db, Zvh, su⟩) (Zpc ⟨hy, hn⟩) hex hst hfr
end
end DL
namespace L2
open PySem PySem.Spec PyProof.Rows
noncomputable def Zex {α : Type} (xs : List α) (lo hi st : Option Int) : List α :=
  (sliceRange (sliceBounds lo hi st xs.length).1 (sliceBounds lo hi st xs.length).2.1 (sliceBounds lo hi st xs.length).2.2).filterMap (xs[·]?)
section
variable {X : Cx} {e st : Expr} {te : TE} {lo hi : Option Expr} {tl th ts : TO} {pos p2 : Pos}
end
end L2
namespace DL
open PySem PySem.Spec PyProof.Rows L2
section
variable {K : PySem.W.Frag} {Z : Ent K} {H : Hp} {σ : L2.St} {Q : VK}
end
end DL
namespace DL
section
variable {α : Type} {P : List α → Prop}
@[elab_as_elim] theorem of0 (h : P []) (us : List α) (hl : us.length = 0) : P us := by
  have : us = [] := List.eq_nil_of_length_eq_zero hl
  rw [this]; exact h
@[elab_as_elim] theorem of1 (h : ∀ a, P [a]) (us : List α) (hl : us.length = 1) : P us := by
  obtain ⟨a, e⟩ := List.length_eq_one_iff.mp hl
  rw [e]; exact h a
theorem ofC {n : Nat} (h : ∀ a (us : List α), us.length = n → P (a :: us)) (us : List α) (hl : us.length = n + 1) : P us := by
  cases us with
  | nil => exact absurd hl (by simp)
  | cons a r => exact h a r (by simpa using hl)
@[elab_as_elim] theorem of2 (h : ∀ a b, P [a, b]) (us : List α) (hl : us.length = 2) : P us := ofC (fun a => of1 (P := fun us => P (a :: us)) (h a)) us hl
@[elab_as_elim] theorem of3 (h : ∀ a b c, P [a, b, c]) (us : List α) (hl : us.length = 3) : P us := ofC (fun a => of2 (P := fun us => P (a :: us)) (h a)) us hl
@[elab_as_elim] theorem of4 (h : ∀ a b c d, P [a, b, c, d]) (us : List α) (hl : us.length = 4) : P us := ofC (fun a => of3 (P := fun us => P (a :: us)) (h a)) us hl
@[elab_as_elim] theorem of5 (h : ∀ a b c d e, P [a, b, c, d, e]) (us : List α) (hl : us.length = 5) : P us := ofC (fun a => of4 (P := fun us => P (a :: us)) (h a)) us hl
@[elab_as_elim] theorem of6 (h : ∀ a b c d e f, P [a, b, c, d, e, f]) (us : List α) (hl : us.length = 6) : P us := ofC (fun a => of5 (P := fun us => P (a :: us)) (h a)) us hl
end
end DL
namespace L2
open PySem PySem.Spec PyProof.Rows
section
variable {prog : Program} {w : World} {A : Around} {E : Value → Shared → Prop} {s : Shared} {q d : Addr} {i n ep : Nat} {od : Obj} {es : Array DictEntry}
end
section
variable {X : Cx} {tg : Expr}
end
end L2
namespace DL
open PySem PySem.Spec PyProof.Rows L2
variable {K : PySem.W.Frag}
section
variable {Z : Ent K} {H : Hp} {σ : L2.St}
end
end DL
namespace DL
open PySem PySem.Spec PyProof.Rows L2
variable {K : PySem.W.Frag}
section
variable {Z : Ent K}
end
section
variable {X : Cx} {Z : Ent X.K} {a b : Expr} {fa fb : FE} {pos : Pos}
end
end DL
namespace L2
open PySem PySem.Spec PyProof.Rows
section
variable {prog : Program} {w : World} {A : Around} {E : Value → Shared → Prop} {s : Shared} {a b : Addr} {xs ys : List (List Key × Addr × Value)}
end
section
variable {X : Cx}
end
end L2
namespace DL
open PySem PySem.Spec PyProof.Rows L2
variable {K : PySem.W.Frag}
section
variable {Z : Ent K}
end
section
variable {X : Cx} {Z : Ent X.K} {a b : Expr} {fa fb : FE} {pos : Pos}
end
end DL
namespace DL
open PySem PySem.Spec PyProof.Rows L2
theorem Zj5 {P : Program} {w : World} {K : PySem.W.Frag} {mg : Str → Option Value} {base : Heap} {CX : CXT} {k n : Nat} {f : Addr} {fd : FuncData} {ps : List Str} : FnOk P w K mg base CX k f fd ps (spOf K n fun _ => none) := by
  refine ⟨fun vs H Q E h => ?_, fun A outer s H args us vs Q E hr he hb hv h => ?_⟩
  · obtain ⟨F, ds, sv, _, _, _, e, _⟩ := h; cases e
  · obtain ⟨F, ds, sv, _, _, _, e, _⟩ := h; cases e
end DL
namespace DL
open PySem PySem.Spec PyProof.Rows L2
variable {K : PySem.W.Frag}
theorem Z1p {a : Addr} : ∀ b, (none : Option Addr) = some b → b = a := fun _ h => nomatch h
theorem Zr2 {F : Hp} {pin : Option Addr} {xss : List (List D)} {v : V} {ns : Zp} (h : Shape K F (.oL pin xss) v ns) : ∃ a ws ns', v = .ref a ∧ ns = (a, .lst ws) :: ns' ∧ Kids K F xss ws ns' ∧ ∀ b, pin = some b → b = a := by
  cases h with
  | oL hp r => exact ⟨_, _, _, rfl, rfl, r, hp⟩
@[simp] noncomputable def Zte (src : List BSrc) (k : Nat) (g : FG) (tt : FT) (te : FE) : List D → DSt → Option DSt
  | [], δ => some δ
  | d :: ds, δ => (g.run d δ).bind fun δ1 => (tt δ1).bind fun p => if p.1 = true then (te p.2).bind fun q => match q.1, q.2[k]? with
      | .tmp (.ol xs), some (some (.oL none zs)) => if zs.length < PySem.sizeLine then Zte src k g tt te ds (Zfj src (q.2.set k (some (.oL none (zs ++ [xs]))))) else none
      | _, _ => none
    else Zte src k g tt te ds (Zfj src p.2)
theorem Kids.take {F : Hp} : ∀ {xss : List (List D)} {ws : List V} {ns : Zp} (n : Nat), Kids K F xss ws ns → Kids K F (xss.take n) (ws.take n) (ns.take n)
  | _, _, _, 0, _ => .nil
  | _, _, _, _ + 1, .nil => .nil
  | _, _, _, n + 1, .cons r t => .cons r (t.take n)
section
variable {Z : Ent K} {H : Hp} {σ : L2.St} {Q : VK} {E : Ends}
noncomputable def Zyq (i p q : Nat) : FE := fun δ => match δ[i]?, δ[p]?, δ[q]? with
  | some (some (.oL none xss)), some (some (.fz (.int n))), some (some (.fz (.lst xs))) => if 0 ≤ n ∧ n.toNat ≤ xss.length ∧ xss.length + 1 ≤ PySem.sizeLine then some (.tmp (.oL none (xss.take n.toNat ++ [xs] ++ xss.drop n.toNat)), δ.set i none) else none
  | _, _, _ => none
@[simp] theorem Zz8 {i p q : Nat} {δ : DSt} {xss : List (List D)} {n : Nat} {xs : List D} (hi : δ[i]? = some (some (.oL none xss))) (hp : δ[p]? = some (some (.fz (.int (n : Nat))))) (hq : δ[q]? = some (some (.fz (.lst xs)))) (hn : n ≤ xss.length) (hz : xss.length + 1 ≤ PySem.sizeLine) :
    Zyq i p q δ = some (.tmp (.oL none (xss.take n ++ [xs] ++ xss.drop n)), δ.set i none) := by
  unfold Zyq
  rw [hi, hp, hq]
  dsimp only
  rw [if_pos ⟨by omega, by omega, hz⟩, Int.toNat_natCast]
noncomputable def Zpe (i j : Nat) (c : Str) : FS := fun δ => match δ[i]? with
  | some (some (.oL none xss)) => if i ≠ j ∧ j < δ.length ∧ (∀ xs ∈ xss, xs.length < PySem.sizeLine) then some (.nx ((δ.set j none).set i (some (.oL none (xss.map (· ++ [.str c])))))) else none
  | _ => none
@[simp] theorem Zv9 {i j : Nat} {c : Str} {δ : DSt} {xss : List (List D)} (hi : δ[i]? = some (some (.oL none xss))) (hij : i ≠ j) (hj : j < δ.length) (hz : ∀ xs ∈ xss, xs.length < PySem.sizeLine) : Zpe i j c δ = some (.nx ((δ.set j none).set i (some (.oL none (xss.map (· ++ [.str c])))))) := by
  unfold Zpe
  rw [hi]
  dsimp only
  rw [if_pos ⟨hij, hj, hz⟩]
noncomputable def Zpf (i : Nat) : FS := fun δ => match δ[i]? with
  | some (some (.oL none _)) => some (.nx (δ.set i (some (.ol []))))
  | _ => none
@[simp] theorem Zwa {i : Nat} {δ : DSt} {xss : List (List D)} (hi : δ[i]? = some (some (.oL none xss))) : Zpf i δ = some (.nx (δ.set i (some (.ol [])))) := by unfold Zpf; rw [hi]
end
end DL
namespace DL
open PySem PySem.Spec PyProof.Rows L2
section
variable {X : Cx} {Z : Ent X.K} {a b c : Expr} {fa fb fc : FE} {pos : Pos}
theorem Zgz (i : Nat) {x : Str} {pos : Pos} (hN : X.N[i]? = some x := by rfl) (hv : Vis X.env.scope x := by first | exact Or.inl rfl | exact Or.inr (Or.inl rfl) | exact Or.inr (Or.inr rfl)) (hd : (x == ("__debug__" : Str)) = false := by decide)
    (hcd : (x == ("__classdict__" : Str)) = false := by decide) : PE X (.Name x pos) (tVar i) := Zhf hN hv hd hcd
end
end DL
namespace DL
open PySem PySem.Spec PyProof.Rows L2
variable {K : PySem.W.Frag}
section
variable {Z : Ent K} {H : Hp} {σ : L2.St} {E : Ends} {Q : VK}
end
section
variable {X : Cx} {Z : Ent X.K} {a b c : Expr} {fa fb fc : FE} {pos : Pos}
end
end DL
namespace DL
open PySem PySem.Spec PyProof.Rows L2
variable {K : PySem.W.Frag}
open Classical in
section
variable {X : Cx} {pins : List (Addr × Obj)} {σ : L2.St} {H : Hp} {s : Shared}
end
section
variable {Z : Ent K}
end
section
variable {X : Cx} {Z : Ent X.K} {a b c : Expr} {fa fb fc : FE} {pos : Pos}
end
end DL
namespace DL
open PySem PySem.Spec PyProof.Rows L2
variable {K : PySem.W.Frag}
section
variable {Z : Ent K} {H : Hp} {σ : L2.St} {Q : VK}
end
section
variable {X : Cx} {Z : Ent X.K} {a b c : Expr} {fa fb fc : FE} {pos : Pos}
end
end DL
namespace L2
open PySem PySem.Spec PyProof.Rows
section
variable {X : Cx}
end
end L2
namespace DL
open PySem PySem.Spec PyProof.Rows L2
variable {K : PySem.W.Frag}
section
variable {Z : Ent K} {H : Hp} {σ : L2.St} {Q : VK} {E : Ends}
theorem Zhs {F : Hp} {δ : DSt} {own : Nat → Zp} {i : Nat} {pin : Option Addr} {xss : List (List D)} (s : SR Z F H σ δ own) (h : δ[i]? = some (some (.oL pin xss))) :
    ∃ a ws ns, σ[i]? = some (some (.ref a)) ∧ own i = (a, HO.lst ws) :: ns ∧ Kids K F xss ws ns ∧ (∀ b, pin = some b → b = a) ∧ H a = some (.lst ws) ∧ a ∉ adr ns ∧ (adr ns).Nodup := by
  obtain ⟨v, hv, sh⟩ := s.at' i _ h
  obtain ⟨a, ws, ns, rfl, en, kd, hp⟩ := Zr2 sh
  have nd := s.nod i
  rw [en] at nd
  obtain ⟨q1, q2⟩ := List.nodup_cons.mp nd
  exact ⟨a, ws, ns, hv, en, kd, hp, (s.ok i (a, .lst ws) (by rw [en]; exact List.mem_cons_self)).2.2, q1, q2⟩
theorem Zvn {F : Hp} {δ : DSt} {own : Nat → Zp} {sv : SV} {o : HO} {p : Addr} (s : SR Z F H σ δ own) (sh : Shape K F sv (.ref p) [(p, o)]) (hp : H p = none) : TmpOk Z F (upd H p o) own sv (.ref p) [(p, o)] := by
  refine ⟨sh, nd1, fun q hq => ?_, fun i q r hq hr e => ?_⟩
  · obtain rfl := List.mem_singleton.mp hq
    exact ⟨s.le.free hp, s.old.free hp, Zah⟩
  · obtain rfl := List.mem_singleton.mp hq
    have e' : p = r.1 := e
    have z := (s.ok i r hr).2.2
    rw [← e', hp] at z; cases z
@[simp] noncomputable def Zvo : FE := fun δ => some (.tmp (.oL none [[]]), δ)
theorem Zyr (h : Ze Z Zvo σ H Q) : tLst (Zf3 (tLst tNil) tNil) σ H Q := by
  obtain ⟨F, δ, own, rv, δ', s, e, k⟩ := h
  cases e
  refine ⟨Nat.zero_le _, fun b hb => ⟨by show 1 ≤ _; decide, fun a ha => ?_⟩⟩
  have S1 := Zc9 (o := .lst []) hb
  have S2 := Zc9 (o := .lst [.ref b]) ha
  have hab : a ≠ b := fun z => by rw [z, Zah] at ha; cases ha
  have ha0 : H a = none := S1.free ha
  refine k (.ref a) _ F own (S1.trans S2) (Same.refl F) (s.grow (S1.trans S2)) ⟨[(a, .lst [.ref b]), (b, .lst [])], .oL Z1p (.cons .nil .nil), ?_, fun p hp => ?_, fun i p q hp hq e => ?_⟩
  · exact List.nodup_cons.mpr ⟨fun z => hab (List.mem_singleton.mp z), nd1⟩
  · rcases List.mem_cons.mp hp with z | z
    · subst z; exact ⟨s.le.free ha0, s.old.free ha0, Zah⟩
    · have z := List.mem_singleton.mp z
      subst z; exact ⟨s.le.free hb, s.old.free hb, S2 _ _ Zah⟩
  · have hq' := (s.ok i q hq).2.2
    rw [← e] at hq'
    rcases List.mem_cons.mp hp with z | z
    · subst z; rw [ha0] at hq'; cases hq'
    · have z := List.mem_singleton.mp z
      subst z; rw [hb] at hq'; cases hq'
noncomputable def Zj6 (i : Nat) : FS := fun δ => match δ[i]? with
  | some (some (.oL p xss)) => if xss.length < PySem.sizeLine then some (.nx (δ.set i (some (.oL p (xss ++ [[]]))))) else none
  | _ => none
@[simp] theorem Zr3 {i : Nat} {δ : DSt} {p : Option Addr} {xss : List (List D)} (hi : δ[i]? = some (some (.oL p xss))) (hz : xss.length < PySem.sizeLine) : Zj6 i δ = some (.nx (δ.set i (some (.oL p (xss ++ [[]]))))) := by
  unfold Zj6; rw [hi]; exact if_pos hz
theorem Zys {i : Nat} (h : Zo Z (Zj6 i) E σ H) : Zqo (tBM K "list" Zdz (tVar i) (Zf3 (tLst tNil) tNil)) E σ H := by
  obtain ⟨F, δ, own, fl, s, e, k⟩ := h
  unfold Zj6 at e
  split at e
  · rename_i p xss hi
    split at e
    · rename_i hz
      cases e
      obtain ⟨a, ws, ns, hv, en, kd, hp, hH, q1, q2⟩ := Zhs s hi
      have mb : (a, HO.lst ws) ∈ own i := by rw [en]; exact List.mem_cons_self
      refine ⟨_, hv, .inl ⟨rfl, ws, .inl (.inl hH)⟩, Nat.zero_le _, fun b hb => ?_⟩
      have S1 := Zc9 (o := .lst []) hb
      have s1 := s.grow S1
      have t := Zvn (sv := .ol []) s (.ol .nil) hb
      refine ⟨a, ws, .ref b, rfl, rfl, S1 _ _ hH, by rw [← kd.length]; exact hz, ?_⟩
      have hb' : ∀ p ∈ own i, p.1 ≠ b := fun p hp z => t.sep i (b, .lst []) p List.mem_cons_self hp z.symm
      refine k σ _ F _ (Same.refl F) (s1.changeT (sv' := .oL p (xss ++ [[]])) (o' := .lst (ws ++ [.ref b])) (ns' := (a, .lst (ws ++ [.ref b])) :: (ns ++ [(b, .lst [])])) t hi hv mb (.oL hp (kd.snoc .nil)) (fun p hp => ?_) ?_)
      · rcases List.mem_cons.mp hp with z | z
        · exact .inl z
        · rcases List.mem_append.mp z with z | z
          · exact .inr (.inl ⟨by rw [en]; exact List.mem_cons_of_mem _ z, fun w => q1 (List.mem_map.mpr ⟨p, z, w⟩)⟩)
          · exact .inr (.inr z)
      · show (a :: (ns ++ [(b, HO.lst [])]).map (·.1)).Nodup
        rw [List.map_append]
        refine List.nodup_cons.mpr ⟨fun z => ?_, ?_⟩
        · rcases List.mem_append.mp z with z | z
          · exact q1 z
          · exact hb' _ mb (List.mem_singleton.mp z)
        · refine List.nodup_append.mpr ⟨q2, nd1, fun x hx y hy z => ?_⟩
          obtain ⟨p, hp, ep⟩ := List.mem_map.mp hx
          have hy' : y = b := List.mem_singleton.mp hy
          exact hb' p (by rw [en]; exact List.mem_cons_of_mem _ hp) (by rw [ep, z, hy'])
    · cases e
  · cases e
theorem Kids.getV {F : Hp} : ∀ {xss : List (List D)} {ws : List V} {ns : Zp} {p : Nat} {xs : List D}, Kids K F xss ws ns → xss[p]? = some xs → ∃ b vs, ws[p]? = some (.ref b) ∧ ns[p]? = some (b, HO.lst vs) ∧ Reps K F xs vs
  | _, _, _, _, _, .nil, e => by simp at e
  | _, _, _, 0, _, .cons r _, e => by simp at e; subst e; exact ⟨_, _, rfl, rfl, r⟩
  | _, _, _, p + 1, _, .cons _ t, e => by
    obtain ⟨b, vs, h1, h2, h3⟩ := t.getV (p := p) (by simpa using e)
    exact ⟨b, vs, by simpa using h1, by simpa using h2, h3⟩
theorem Kids.lenN {F : Hp} : ∀ {xss : List (List D)} {ws : List V} {ns : Zp}, Kids K F xss ws ns → xss.length = ns.length
  | _, _, _, .nil => rfl
  | _, _, _, .cons _ t => by rw [List.length_cons, List.length_cons, t.lenN]
theorem Zmi {α : Type} {ws : List α} {x : α} (h : ws[ws.length - 1]? = some x) : atI ws (-1) = some x := by
  have hl := (List.getElem?_eq_some_iff.mp h).1
  have e : ws = ws.dropLast ++ [x] := by
    have hne : ws ≠ [] := fun z => by subst z; simp at hl
    have h2 : ws.getLast hne = x := by rw [List.getLast_eq_getElem]; exact (List.getElem?_eq_some_iff.mp h).2
    rw [← h2]; exact (List.dropLast_concat_getLast hne).symm
  rw [e]; exact Zlz _ _
noncomputable abbrev tTop (K : PySem.W.Frag) (i : Nat) : TE := tOp (rIxL K) (tVar i) (tC (.int (-1)))
theorem Zpg {F : Hp} {δ : DSt} {own : Nat → Zp} {i : Nat} {pin : Option Addr} {xss : List (List D)} {xs : List D} (s : SR Z F H σ δ own) (h : δ[i]? = some (some (.oL pin xss))) (hx : xss[xss.length - 1]? = some xs) :
    ∃ a ws ns b vs, σ[i]? = some (some (.ref a)) ∧ own i = (a, HO.lst ws) :: ns ∧ Kids K F xss ws ns ∧ H a = some (.lst ws) ∧ ws[ws.length - 1]? = some (.ref b) ∧ (b, HO.lst vs) ∈ own i ∧ H b = some (.lst vs) ∧ Reps K F xs vs ∧ ∀ R, R (.ref b) H → tTop K i σ H R := by
  obtain ⟨a, ws, ns, hv, en, kd, hp, hH, q1, q2⟩ := Zhs s h
  obtain ⟨b, vs, h1, h2, h3⟩ := kd.getV hx
  have mb : (b, HO.lst vs) ∈ own i := by rw [en]; exact List.mem_cons_of_mem _ (List.mem_of_getElem? h2)
  rw [kd.length] at h1
  exact ⟨a, ws, ns, b, vs, hv, en, kd, hH, h1, mb, (s.ok i _ mb).2.2, h3, fun R r => ⟨_, hv, a, ws, -1, _, rfl, rfl, .inl (.inl hH), Zmi h1, r⟩⟩
noncomputable def Zar (i : Nat) (fe : FE) : FS := fun δ => match δ[i]? with
  | some (some (.oL _ xss0)) => if xss0.length = 0 then none else (fe δ).bind fun q => (frz q.1 q.2).bind fun r => match r.2[i]? with
    | some (some (.oL p xss)) => (xss[xss.length - 1]?).bind fun xs => if xs.length < PySem.sizeLine then some (.nx (r.2.set i (some (.oL p (xss.set (xss.length - 1) (xs ++ [r.1])))))) else none
    | _ => none
  | _ => none
theorem Zr4 {α : Type} (yss : List α) (x z : α) : (yss ++ [x]).set ((yss ++ [x]).length - 1) z = yss ++ [z] := by
  rw [List.length_append, List.length_singleton, Nat.add_sub_cancel, List.set_append_right _ _ (Nat.le_refl _), Nat.sub_self, List.set_cons_zero]
theorem Ze9 {α : Type} (yss : List α) (x : α) : (yss ++ [x])[(yss ++ [x]).length - 1]? = some x := by
  rw [List.length_append, List.length_singleton, Nat.add_sub_cancel, List.getElem?_append_right (Nat.le_refl _), Nat.sub_self]; rfl
theorem Zg0 {i : Nat} {fe : FE} {δ δ1 δ2 : DSt} {p p2 : Option Addr} {xss0 yss : List (List D)} {xs : List D} {rv : RV} {d : D} (hi : δ[i]? = some (some (.oL p xss0))) (hn : xss0.length ≠ 0) (h1 : fe δ = some (rv, δ1)) (h2 : frz rv δ1 = some (d, δ2)) (h3 : δ2[i]? = some (some (.oL p2 (yss ++ [xs])))) (hz : xs.length < PySem.sizeLine) :
    Zar i fe δ = some (.nx (δ2.set i (some (.oL p2 (yss ++ [xs ++ [d]]))))) := by
  unfold Zar
  rw [hi]
  dsimp only
  rw [if_neg hn, h1, Option.bind_some, h2, Option.bind_some]
  dsimp only
  rw [h3]
  dsimp only
  rw [Ze9, Option.bind_some, if_pos hz, Zr4]
theorem Zph {i : Nat} {fe : FE} (h : Zo Z (Zar i fe) E σ H) : Zqo (tBM K "list" Zdz (tTop K i) (Zf3 (Ze Z fe) tNil)) E σ H := by
  obtain ⟨F, δ, own, fl, s, e, k⟩ := h
  unfold Zar at e
  split at e
  · rename_i p0 xss0 hi
    split at e
    · cases e
    rename_i hn0
    obtain ⟨⟨rv, δ1⟩, f3, e⟩ := Option.bind_eq_some_iff.mp e
    obtain ⟨⟨d, δ2⟩, f4, e⟩ := Option.bind_eq_some_iff.mp e
    obtain ⟨xs0, hx0⟩ : ∃ xs0, xss0[xss0.length - 1]? = some xs0 := ⟨xss0[xss0.length - 1]'(by omega), List.getElem?_eq_getElem (by omega)⟩
    obtain ⟨a, ws, ns, b, vs0, hv, en, kd, hH, hw, m0, hb0, _, top⟩ := Zpg s hi hx0
    refine top _ ?_
    refine ⟨.inl ⟨rfl, vs0, .inl (.inl hb0)⟩, F, δ, own, rv, δ1, s, f3, fun w H1 F1 own1 sH1 sF1 s1 r1 => ?_⟩
    obtain ⟨F2, sF2, s2, r2⟩ := s1.settleR r1
    obtain ⟨F3, own3, sF3, s3, r3⟩ := s2.frzR r2 f4
    dsimp only at e
    split at e
    · rename_i p xss ho
      obtain ⟨xs, f5, e⟩ := Option.bind_eq_some_iff.mp e
      split at e
      · rename_i hz
        cases e
        obtain ⟨a3, ws3, ns3, hv3, en3, kd3, hp3, hH3, r1', r2'⟩ := Zhs s3 ho
        rw [hv] at hv3; cases hv3
        have : some (HO.lst ws3) = some (HO.lst ws) := hH3.symm.trans (sH1 _ _ hH)
        cases this
        have c1 : ws[xss.length - 1]? = some (.ref b) := by rw [kd3.length]; exact hw
        obtain ⟨ys, vs, k1, k2, k3, k4⟩ := kd3.app c1 r2'
        rw [f5] at k1
        cases k1
        obtain ⟨ns', j1, j2, j3⟩ := k4 r3
        have mb3 : (a, HO.lst ws) ∈ own3 i := by rw [en3]; exact List.mem_cons_self
        have mbb : (b, HO.lst vs) ∈ own3 i := by rw [en3]; exact List.mem_cons_of_mem _ k2
        have hne : a ≠ b := fun z => r1' (List.mem_map.mpr ⟨_, k2, z.symm⟩)
        refine ⟨b, vs, w, rfl, rfl, (s3.ok i _ mbb).2.2, by rw [← k3.length]; exact hz, ?_⟩
        refine k σ _ F3 _ (sF1.trans (sF2.trans sF3)) (s3.change (sv' := .oL p (xss.set (xss.length - 1) (xs ++ [d]))) (o' := .lst (vs ++ [w])) (ns' := (a, .lst ws) :: ns') ho hv mbb (.oL hp3 j1) (fun q hq => ?_) ?_)
        · rcases List.mem_cons.mp hq with z | z
          · exact .inr ⟨by rw [z]; exact mb3, by rw [z]; exact hne⟩
          · rcases j3 q z with z | ⟨z, z2⟩
            · exact .inl z
            · exact .inr ⟨by rw [en3]; exact List.mem_cons_of_mem _ z, z2⟩
        · show (a :: adr ns').Nodup
          rw [j2]
          exact List.nodup_cons.mpr ⟨r1', r2'⟩
      · cases e
    · cases e
  · cases e
end
end DL
namespace DL
open PySem PySem.Spec PyProof.Rows L2
variable {K : PySem.W.Frag}
section
variable {Z : Ent K} {H : Hp} {σ : L2.St} {Q : VK} {E : Ends}
noncomputable def Zf7 (i : Nat) : FE := fun δ => match δ[i]? with
  | some (some (.oL _ xss)) => some (.tmp (.fz (.int (xss.length : Nat))), δ)
  | _ => none
@[simp] theorem Zii {i : Nat} {δ : DSt} {p : Option Addr} {xss : List (List D)} (hi : δ[i]? = some (some (.oL p xss))) : Zf7 i δ = some (.tmp (.fz (.int (xss.length : Nat))), δ) := by unfold Zf7; rw [hi]
noncomputable abbrev Zyt (K : PySem.W.Frag) : List V → Hp → VK → Prop := fun xs H Q => ∃ p ys, xs = [V.ref p] ∧ (SqL K H p ys ∨ SqT K H p ys) ∧ Q (.int ys.length) H
theorem Zyu {i : Nat} (h : Ze Z (Zf7 i) σ H Q) : tCB (Zyt K) (Zf3 (tVar i) tNil) σ H Q := by
  obtain ⟨F, δ, own, rv, δ', s, e, k⟩ := h
  unfold Zf7 at e
  split at e
  · rename_i p xss hi
    cases e
    obtain ⟨a, ws, ns, hv, en, kd, hp, hH, q1, q2⟩ := Zhs s hi
    refine ⟨_, hv, a, ws, rfl, .inl (.inl (.inl hH)), ?_⟩
    rw [← kd.length]
    exact k _ H F own (Same.refl H) (Same.refl F) s ⟨[], .fz (.int _)⟩
  · cases e
noncomputable def Zd8 (i : Nat) : FE := fun δ => match δ[i]? with
  | some (some (.oL _ xss)) => (xss[xss.length - 1]?).bind fun xs => some (.tmp (.fz (.int (xs.length : Nat))), δ)
  | _ => none
theorem Zht {i : Nat} {δ : DSt} {p : Option Addr} {yss : List (List D)} {xs : List D} (hi : δ[i]? = some (some (.oL p (yss ++ [xs])))) : Zd8 i δ = some (.tmp (.fz (.int (xs.length : Nat))), δ) := by
  unfold Zd8; rw [hi]; dsimp only; rw [Ze9]; rfl
theorem Zr5 {i : Nat} (h : Ze Z (Zd8 i) σ H Q) : tCB (Zyt K) (Zf3 (tTop K i) tNil) σ H Q := by
  obtain ⟨F, δ, own, rv, δ', s, e, k⟩ := h
  unfold Zd8 at e
  split at e
  · rename_i p xss hi
    obtain ⟨xs, e1, e2⟩ := Option.bind_eq_some_iff.mp e
    cases e2
    obtain ⟨a, ws, ns, b, vs, hv, en, kd, hH, hw, mb, hb, r, top⟩ := Zpg s hi e1
    refine top _ ⟨b, vs, rfl, .inl (.inl (.inl hb)), ?_⟩
    rw [← r.length]
    exact k _ H F own (Same.refl H) (Same.refl F) s ⟨[], .fz (.int _)⟩
  · cases e
noncomputable def Zey (i : Nat) : FE := fun δ => match δ[i]? with
  | some (some (.oL _ xss)) => (xss[xss.length - 1]?).bind fun xs => (xs[xs.length - 1]?).bind fun d => some (.tmp (.fz d), δ)
  | _ => none
theorem Znj {i : Nat} {δ : DSt} {p : Option Addr} {yss : List (List D)} {xs : List D} {d : D} (hi : δ[i]? = some (some (.oL p (yss ++ [xs ++ [d]])))) : Zey i δ = some (.tmp (.fz d), δ) := by
  unfold Zey; rw [hi]; dsimp only; rw [Ze9, Option.bind_some, Ze9]; rfl
theorem Zr6 {i : Nat} (h : Ze Z (Zey i) σ H Q) : tOp (rIxL K) (tTop K i) (tC (.int (-1))) σ H Q := by
  obtain ⟨F, δ, own, rv, δ', s, e, k⟩ := h
  unfold Zey at e
  split at e
  · rename_i p xss hi
    obtain ⟨xs, e1, e2⟩ := Option.bind_eq_some_iff.mp e
    obtain ⟨d, e3, e4⟩ := Option.bind_eq_some_iff.mp e2
    cases e4
    obtain ⟨a, ws, ns, b, vs, hv, en, kd, hH, hw, mb, hb, r, top⟩ := Zpg s hi e1
    obtain ⟨v, h1, h2⟩ := r.get e3
    rw [r.length] at h1
    exact top _ ⟨b, vs, -1, v, rfl, rfl, .inl (.inl hb), Zmi h1, k _ H F own (Same.refl H) (Same.refl F) s ⟨[], .fz h2⟩⟩
  · cases e
noncomputable def Zej (i : Nat) : FE := fun δ => match δ[i]? with
  | some (some (.oL _ (xs :: _))) => some (.tmp (.fz (.tup xs)), δ)
  | _ => none
@[simp] theorem Zll {i : Nat} {δ : DSt} {p : Option Addr} {xss : List (List D)} {xs : List D} (hi : δ[i]? = some (some (.oL p (xs :: xss)))) : Zej i δ = some (.tmp (.fz (.tup xs)), δ) := by unfold Zej; rw [hi]
noncomputable abbrev Z1q (K : PySem.W.Frag) : List V → Hp → VK → Prop := fun xs H Q => ∃ p ys, xs = [V.ref p] ∧ ((SqL K H p ys ∧ ∀ l, H l = none → Q (.ref l) (upd H l (.tup ys))) ∨ (SqT K H p ys ∧ Q (.ref p) H))
theorem Zpi {i : Nat} (h : Ze Z (Zej i) σ H Q) : tCB (Z1q K) (Zf3 (tOp (rIxL K) (tVar i) (tC (.int 0))) tNil) σ H Q := by
  obtain ⟨F, δ, own, rv, δ', s, e, k⟩ := h
  unfold Zej at e
  split at e
  · rename_i p xs xss hi
    cases e
    obtain ⟨a, ws, ns, hv, en, kd, hp, hH, q1, q2⟩ := Zhs s hi
    obtain ⟨b, vs, h1, h2, h3⟩ := kd.getV (p := 0) rfl
    have mb : (b, HO.lst vs) ∈ own i := by rw [en]; exact List.mem_cons_of_mem _ (List.mem_of_getElem? h2)
    refine ⟨_, hv, a, ws, 0, .ref b, rfl, rfl, .inl (.inl hH), Zt4 (j := 0) h1, b, vs, rfl, .inl ⟨.inl (.inl (s.ok i _ mb).2.2), fun l hl => ?_⟩⟩
    exact Fin.tup (fun v H2 F2 ns a b c t => k v H2 F2 own a b c ⟨ns, t⟩) s h3 hl
  · cases e
noncomputable def Zij (j i : Nat) : FS := fun δ => match δ[i]? with
  | some (some (.oL p xss)) => (xss[xss.length - 1]?).bind fun xs => if i ≠ j ∧ j < δ.length then some (.nx ((δ.set i (some (.oL p xss.dropLast))).set j (some (.ol xs)))) else none
  | _ => none
theorem Zmj {i j : Nat} {δ : DSt} {p : Option Addr} {yss : List (List D)} {xs : List D} (hi : δ[i]? = some (some (.oL p (yss ++ [xs])))) (hij : i ≠ j) (hj : j < δ.length) : Zij j i δ = some (.nx ((δ.set i (some (.oL p yss))).set j (some (.ol xs)))) := by
  unfold Zij; rw [hi]; dsimp only; rw [Ze9, Option.bind_some, if_pos ⟨hij, hj⟩, List.dropLast_concat]
theorem Kids.dropLast {F : Hp} {xss : List (List D)} {ws : List V} {ns : Zp} (h : Kids K F xss ws ns) : Kids K F xss.dropLast ws.dropLast ns.dropLast := by
  rw [List.dropLast_eq_take, List.dropLast_eq_take, List.dropLast_eq_take, ← h.length, ← h.lenN]
  exact h.take _
theorem Zyv {i j : Nat} (h : Zo Z (Zij j i) E σ H) : tAsg (tBM0 K "list" rPop (tVar i)) (Zi6 j) E σ H := by
  obtain ⟨F, δ, own, fl, s, e, k⟩ := h
  unfold Zij at e
  split at e
  · rename_i p xss hi
    obtain ⟨xs, e1, e2⟩ := Option.bind_eq_some_iff.mp e
    split at e2
    · rename_i hc
      cases e2
      obtain ⟨a, ws, ns, hv, en, kd, hp, hH, q1, q2⟩ := Zhs s hi
      obtain ⟨b, vs, h1, h2, h3⟩ := kd.getV e1
      have hl := (List.getElem?_eq_some_iff.mp h2).1
      have hns : ns = ns.dropLast ++ [(b, HO.lst vs)] := by
        have hne : ns ≠ [] := fun z => by subst z; simp at hl
        have h9 : ns.getLast hne = (b, HO.lst vs) := by
          rw [kd.lenN] at h2
          rw [List.getLast_eq_getElem]; exact (List.getElem?_eq_some_iff.mp h2).2
        rw [← h9]; exact (List.dropLast_concat_getLast hne).symm
      have mn : (b, HO.lst vs) ∈ ns := by rw [hns]; exact List.mem_append_right _ List.mem_cons_self
      have mb : (b, HO.lst vs) ∈ own i := by rw [en]; exact List.mem_cons_of_mem _ mn
      have ma : (a, HO.lst ws) ∈ own i := by rw [en]; exact List.mem_cons_self
      have hba : b ≠ a := fun z => q1 (List.mem_map.mpr ⟨_, mn, z⟩)
      have nd2 := q2
      rw [hns] at nd2
      have nd2' : (adr ns.dropLast ++ [b]).Nodup := by unfold adr at nd2; rw [List.map_append] at nd2; exact nd2
      obtain ⟨n1, n2, n3⟩ := List.nodup_append.mp nd2'
      refine ⟨_, hv, .inl ⟨rfl, ws, .inl (.inl hH)⟩, a, ws, .ref b, rfl, rfl, hH, by rw [← kd.length]; exact h1, ?_⟩
      have sub : ∀ p ∈ ns.dropLast, p ∈ own i := fun p hp => by rw [en, hns]; exact List.mem_cons_of_mem _ (List.mem_append_left _ hp)
      have s1 := s.change (sv' := .oL p xss.dropLast) (o' := .lst ws.dropLast) (ns' := (a, .lst ws.dropLast) :: ns.dropLast) hi hv ma (.oL hp kd.dropLast) (fun q hq => by
        rcases List.mem_cons.mp hq with z | z
        · exact .inl z
        · exact .inr ⟨sub q z, fun w => q1 (List.mem_map.mpr ⟨q, by rw [hns]; exact List.mem_append_left _ z, w⟩)⟩) (by
        show (a :: adr ns.dropLast).Nodup
        exact List.nodup_cons.mpr ⟨fun z => q1 (by
          obtain ⟨q, hq, eq⟩ := List.mem_map.mp z
          exact List.mem_map.mpr ⟨q, by rw [hns]; exact List.mem_append_left _ hq, eq⟩), n1⟩)
      have ok := s.ok i _ mb
      have t : TmpOk Z F (upd H a (.lst ws.dropLast)) (put own i ((a, .lst ws.dropLast) :: ns.dropLast)) (.ol xs) (.ref b) [(b, .lst vs)] := by
        refine ⟨.ol h3, nd1, fun q hq => ?_, fun l q r hq hr z => ?_⟩
        · obtain rfl := List.mem_singleton.mp hq
          exact ⟨ok.1, ok.2.1, by rw [Zv hba]; exact ok.2.2⟩
        · obtain rfl := List.mem_singleton.mp hq
          by_cases hl : l = i
          · subst hl
            rw [Zs] at hr
            rcases List.mem_cons.mp hr with y | y
            · subst y; exact hba z
            · exact n3 r.1 (List.mem_map.mpr ⟨r, y, rfl⟩) b List.mem_cons_self z.symm
          · rw [Zac hl] at hr
            exact s.sep i l _ r (Ne.symm hl) mb hr z
      exact k _ _ F _ (Same.refl F) (s1.store t (by rw [s.len]; exact hc.2))
    · cases e2
  · cases e
open Classical in
end
end DL
namespace DL
open PySem PySem.Spec PyProof.Rows L2
section
variable {X : Cx} {Z : Ent X.K} {a b c : Expr} {fa fb fc : FE} {pos : Pos}
theorem Ztf {jj : Nat} {p1 p2 : Pos} : PE X (.UnaryOp .USub (.Constant (.int 1) jj p1) p2) (tC (.int (-1))) := (Zwt Zso Znu).imp fun _ _ _ h => ⟨1, rfl, h⟩
theorem Zlm {i : Nat} {jj : Nat} {p1 p2 p3 : Pos} (ha : PE X a (tVar i)) : PE X (.Subscript a (.UnaryOp .USub (.Constant (.int 1) jj p1) p2) p3) (tTop X.K i) := Zqw Zh1 ha Ztf (by intro _ _; rfl)
theorem Zyw {p1 : Pos} (he : starEach [.List [] p1] X.env = (false, eval (.List [] p1) X.env) :: starEach [] X.env := by rfl) : PE X (.List [.List [] p1] pos) (Ze Z Zvo) := (Zlx (Zb9 (Zlx Zc6) Zc6 he)).imp fun _ _ _ h => Zyr h
theorem Zpj (i : Nat) {p : Pos} (hm : X.mg "len" = none) (ha : PE X a (tVar i)) (hg : Gl X "len" := by rfl) (he : starEach [a] X.env = (false, eval a X.env) :: starEach [] X.env := by rfl) (hpl : (backTo pos (starEach [] X.env)).any (·.1) = false := by rfl) : PE X (.Call (.Name "len" p) [a] [] pos) (Ze Z (Zf7 i)) :=
  (Zf9 Zdy hg hm PySem.boot_len (Zb9 ha Zc6 he) (by decide) (by decide) he hpl).imp fun _ _ _ h => Zyu h
theorem Zr7 (i : Nat) {p : Pos} (hm : X.mg "len" = none) (ha : PE X a (tTop X.K i)) (hg : Gl X "len" := by rfl) (he : starEach [a] X.env = (false, eval a X.env) :: starEach [] X.env := by rfl) (hpl : (backTo pos (starEach [] X.env)).any (·.1) = false := by rfl) : PE X (.Call (.Name "len" p) [a] [] pos) (Ze Z (Zd8 i)) :=
  (Zf9 Zdy hg hm PySem.boot_len (Zb9 ha Zc6 he) (by decide) (by decide) he hpl).imp fun _ _ _ h => Zr5 h
theorem Zr8 (i : Nat) {jj : Nat} {p1 p2 : Pos} (ha : PE X a (tTop X.K i)) : PE X (.Subscript a (.UnaryOp .USub (.Constant (.int 1) jj p1) p2) pos) (Ze Z (Zey i)) := (Zqw Zh1 ha Ztf (by intro _ _; rfl)).imp fun _ _ _ h => Zr6 h
theorem Zpk (i : Nat) {jj : Nat} {p p1 p2 : Pos} (hm : X.mg "tuple" = none) (ha : PE X a (tVar i)) (hg : Gl X "tuple" := by rfl) (he : starEach [.Subscript a (.Constant (.int 0) jj p1) p2] X.env = (false, eval (.Subscript a (.Constant (.int 0) jj p1) p2) X.env) :: starEach [] X.env := by rfl) (hpl : (backTo pos (starEach [] X.env)).any (·.1) = false := by rfl) :
    PE X (.Call (.Name "tuple" p) [.Subscript a (.Constant (.int 0) jj p1) p2] [] pos) (Ze Z (Zej i)) :=
  (Zjd Ze5 hg hm boot_tuple (Zb9 (Zqw Zh1 ha Znu (by intro _ _; rfl)) Zc6 he) (by decide) (by decide) he hpl).imp fun _ _ _ h => Zpi h
theorem Zyx (i : Nat) {x : Str} {px apos cpos lp : Pos} (hN : X.N[i]? = some x := by rfl) (hv : Vis X.env.scope x := by first | exact Or.inl rfl | exact Or.inr (Or.inl rfl) | exact Or.inr (Or.inr rfl)) (hd : (x == ("__debug__" : Str)) = false := by decide)
    (hcd : (x == ("__classdict__" : Str)) = false := by decide) (hbase : attributeBase (.Name x px) "append" X.env (eval (.Name x px) X.env) = eval (.Name x px) X.env := by rfl)
    (hfew : ((backTo cpos (starEach [.List [] lp] X.env)).all (fun x => !x.1) && (backToKw cpos (keywordEach [] X.env)).all (fun x => x.1.isSome) && decide ([Expr.List [] lp].length + ([] : List Keyword).length + (if ([] : List Keyword).isEmpty then 0 else 1) < 30)) = true := by rfl)
    (hline : (apos.endLine == cpos.line) = true := by rfl) (hs : starEach [.List [] lp] X.env = (false, eval (.List [] lp) X.env) :: starEach [] X.env := by rfl) (hpl : (backTo cpos (starEach [] X.env)).any (·.1) = false := by rfl) (hsw : swapsWith (.Call (.Attribute (.Name x px) "append" apos) [.List [] lp] [] cpos) none pos.line X.env = pure false := by rfl) :
    PS X (.Expr (.Call (.Attribute (.Name x px) "append" apos) [.List [] lp] [] cpos) pos) (Zo Z (Zj6 i)) :=
  (Zks (Zkw PySem.F.plainAttrs_list PySem.F.slot_list_append PySem.F.type_list_append Zd0 (Zhf (i := i) hN hv hd hcd) (Zb9 (Zlx Zc6) Zc6 hs) hbase hfew hline hs hpl) hsw).imp fun _ _ _ h => Zys h
theorem Zd9 (i : Nat) {apos cpos : Pos} (ha : PE X a (tTop X.K i)) (hb : PE X b (Ze Z fb)) (hbase : attributeBase a "append" X.env (eval a X.env) = eval a X.env := by rfl)
    (hfew : ((backTo cpos (starEach [b] X.env)).all (fun x => !x.1) && (backToKw cpos (keywordEach [] X.env)).all (fun x => x.1.isSome) && decide ([b].length + ([] : List Keyword).length + (if ([] : List Keyword).isEmpty then 0 else 1) < 30)) = true := by rfl)
    (hline : (apos.endLine == cpos.line) = true := by rfl) (hs : starEach [b] X.env = (false, eval b X.env) :: starEach [] X.env := by rfl) (hpl : (backTo cpos (starEach [] X.env)).any (·.1) = false := by rfl) (hsw : swapsWith (.Call (.Attribute a "append" apos) [b] [] cpos) none pos.line X.env = pure false := by rfl) :
    PS X (.Expr (.Call (.Attribute a "append" apos) [b] [] cpos) pos) (Zo Z (Zar i fb)) :=
  (Zks (Zkw PySem.F.plainAttrs_list PySem.F.slot_list_append PySem.F.type_list_append Zd0 ha (Zb9 hb Zc6 hs) hbase hfew hline hs hpl) hsw).imp fun _ _ _ h => Zph h
theorem Ztg (j i : Nat) {x y : Str} {px py apos cpos : Pos} (hN : X.N.Nodup) (hi : X.N[i]? = some x := by rfl) (hv : Vis X.env.scope x := by first | exact Or.inl rfl | exact Or.inr (Or.inl rfl) | exact Or.inr (Or.inr rfl)) (hd : (x == ("__debug__" : Str)) = false := by decide) (hcd : (x == ("__classdict__" : Str)) = false := by decide)
    (hbase : attributeBase (.Name x px) "pop" X.env (eval (.Name x px) X.env) = eval (.Name x px) X.env := by rfl) (hline : (apos.endLine == cpos.line) = true := by rfl)
    (hj : X.N[j]? = some y := by rfl) (hy : Loc X.env.scope y := by first | exact Or.inl rfl | exact Or.inr rfl) (hs : swapsWith (.Call (.Attribute (.Name x px) "pop" apos) [] [] cpos) (some (.Name y py)) pos.line X.env = pure false := by rfl) (hf : X.fn y = true ∨ X.env.scope.names.lookup y = some .local := by first | exact .inl rfl | exact .inr rfl) :
    PS X (.Assign [.Name y py] (.Call (.Attribute (.Name x px) "pop" apos) [] [] cpos) pos) (Zo Z (Zij j i)) :=
  (Znx hN hj hy (Zxa PySem.F.plainAttrs_list PySem.F.slot_list_pop PySem.F.type_list_pop Zxb (Zhf (i := i) hi hv hd hcd) hbase hline) hs hf).imp fun _ _ _ h => Zyv h
end
end DL
namespace L2
open PySem PySem.Spec PyProof.Rows
section
variable {X : Cx}
end
end L2
namespace DL
open PySem PySem.Spec PyProof.Rows L2
variable {K : PySem.W.Frag}
section
variable {X : Cx} {Z : Ent X.K} {a : Expr} {fa : FE} {pos : Pos}
end
end DL
namespace My
open DL PySem
theorem Z1 {n : Nat} (h : n ≤ 16777216) : n ≤ PySem.sizeLine := h
theorem Zbj {n : Nat} (h : n < 16777216) : n < PySem.sizeLine := h
theorem Zea (a b : Str) : (a ++ b).length = a.length + b.length := by
  show (a.cps ++ b.cps).size = a.cps.size + b.cps.size
  simp
theorem Z1r (c : Nat) : (⟨#[c]⟩ : Str).length = 1 := rfl
theorem Zas : ∀ xs : List Str, strs? (xs.map D.str) = some xs
  | [] => rfl
  | x :: r => by simp [Zas r]
theorem Zvp (ns : List Int) (lo hi : Option Int) : ∃ ms : List Int, cutD (ns.map D.int) lo hi = ms.map D.int ∧ ms.length ≤ ns.length := by
  unfold cutD
  refine ⟨(ns.drop _).take _, by rw [List.map_take, List.map_drop], ?_⟩
  rw [List.length_take, List.length_drop]; omega
noncomputable def cat : List Str → Str
  | [] => ""
  | x :: r => x ++ cat r
theorem Zmk : ∀ xs : List Str, Str.join (Str.ofString "") xs = cat xs
  | [] => rfl
  | [x] => by show x = x ++ Str.empty; rw [Str.append_empty]
  | x :: y :: r => by
    show x ++ Str.empty ++ Str.join (Str.ofString "") (y :: r) = x ++ cat (y :: r)
    rw [Str.append_empty, Zmk (y :: r)]
theorem Zhu (xs : List Str) : Txt.join (Str.ofString "") xs = cat xs := (StrLaws.glued_eq_join _ xs).trans (Zmk xs)
theorem Zpl (sep : Str) (xs : List Str) : Txt.join sep xs = Str.join sep xs := StrLaws.glued_eq_join _ xs
theorem Zj7 {sep : Str} {xs : List Str} {B : Nat} (h : ∀ x ∈ xs, x.length ≤ B) (hz : xs.length * B + xs.length * sep.length ≤ 16777216) : JoinOk sep xs = true := by
  unfold JoinOk
  rw [StrLaws.joinFits h hz]; rfl
theorem Zik {sep : Str} {B : Nat} (xs : List Str) (h : ∀ x ∈ xs, x.length ≤ B) : (Str.join sep xs).length ≤ xs.length * B + xs.length * sep.length := by
  have h1 := StrLaws.join_length_le sep xs
  have h2 : (xs.map (·.length)).sum ≤ xs.length * B := by
    clear h1
    induction xs with
    | nil => simp
    | cons x r ih =>
      have a := h x List.mem_cons_self
      have b := ih fun y hy => h y (List.mem_cons_of_mem _ hy)
      rw [List.map_cons, List.sum_cons, List.length_cons, Nat.succ_mul]; omega
  omega
end My
namespace My
open DL PySem StrLaws Builtin.Str
noncomputable def gap (n : Nat) : Nat → List Nat → Prop
  | _, [] => True
  | a, p :: r => a ≤ p ∧ gap n (p + n) r
theorem Zml {n : Nat} : ∀ {a : Nat} {P : List Nat}, gap n a P → ∀ i ∈ P, a ≤ i
  | _, [], _, i, h => nomatch h
  | a, p :: r, g, i, h => by
    rcases List.mem_cons.mp h with e | e
    · rw [e]; exact g.1
    · have := Zml g.2 i e
      have := g.1
      omega
theorem Zpm (s sub : Str) (hi limit : Nat) (hn : 1 ≤ sub.length) : ∀ (m a : Nat) (found : Array Nat) (free : Nat) (P : List Nat), gap sub.length free P → (∀ i ∈ P, a ≤ i ∧ i < a + m) →
    (∀ i, a ≤ i → ((free ≤ i ∧ At s sub hi i) ↔ i ∈ P)) →
    (forIn (List.range' a m) (found, free) (occBody s sub hi limit)).run.fst.toList = found.toList ++ P.take (limit - found.size)
  | 0, a, found, free, P, g, hb, hm => by
    have : P = [] := by
      cases P with
      | nil => rfl
      | cons p r => have := hb p List.mem_cons_self; omega
    subst this
    simp
  | m + 1, a, found, free, P, g, hb, hm => by
    rw [List.range'_succ, List.forIn_cons]
    unfold occBody
    by_cases hl : found.size < limit
    · by_cases ha : a ∈ P
      · obtain ⟨h1, h2, h3⟩ := (hm a (Nat.le_refl _)).mpr ha
        rw [if_pos ⟨⟨⟨hl, h1⟩, h2⟩, h3⟩]
        obtain ⟨P', rfl⟩ : ∃ P', P = a :: P' := by
          cases P with
          | nil => cases ha
          | cons p r =>
            rcases List.mem_cons.mp ha with e | e
            · exact ⟨r, by rw [e]⟩
            · have := Zml g.2 a e
              have := (hb p List.mem_cons_self).1
              omega
        have ih := Zpm s sub hi limit hn m (a + 1) (found.push a) (a + sub.length) P' g.2 (fun i hi' => by
            have z1 := Zml g.2 i hi'
            have z2 := (hb i (List.mem_cons_of_mem _ hi')).2
            omega) (fun i hi' => by
            constructor
            · rintro ⟨z1, z2⟩
              have := (hm i (by omega)).mp ⟨by omega, z2⟩
              rcases List.mem_cons.mp this with e | e
              · omega
              · exact e
            · intro z
              have z1 := Zml g.2 i z
              exact ⟨z1, ((hm i (by omega)).mpr (List.mem_cons_of_mem _ z)).2⟩)
        refine Eq.trans ih ?_
        rw [Array.toList_push, Array.size_push, show limit - found.size = (limit - (found.size + 1)) + 1 by omega, List.take_succ_cons, List.append_assoc]
        rfl
      · rw [if_neg fun z => ha ((hm a (Nat.le_refl _)).mp ⟨z.1.1.2, z.1.2, z.2⟩)]
        refine Zpm s sub hi limit hn m (a + 1) found free P g (fun i hi' => ?_) (fun i hi' => hm i (by omega))
        have z := hb i hi'
        have : i ≠ a := fun e => ha (by rw [← e]; exact hi')
        omega
    · rw [if_neg fun z => hl z.1.1.1]
      have e0 : limit - found.size = 0 := by omega
      have ih : ∀ (l : List Nat) (st : Array Nat × Nat), ¬ st.fst.size < limit → (forIn l st (occBody s sub hi limit)).run.fst = st.fst := by
        intro l
        induction l with
        | nil => intro st _; rfl
        | cons x l ih =>
          intro st hst
          rw [List.forIn_cons]
          unfold occBody
          rw [if_neg fun z => hst z.1.1.1]
          exact ih _ hst
      have := ih (List.range' (a + 1) m) (found, free) hl
      refine Eq.trans (congrArg Array.toList this) ?_
      rw [e0]; simp
theorem Zyy (x y : Str) (limit : Nat) (P : List Nat) (hn : 1 ≤ y.length) (g : gap y.length 0 P) (hm : ∀ i, At x y x.length i ↔ i ∈ P) : occurrences x y 0 x.length limit = P.take limit := by
  rw [occ_eq]
  have := Zpm x y x.length limit hn (x.length + 1 - 0) 0 #[] 0 P g (fun i hi => by
    have := ((hm i).mpr hi).1
    omega) (fun i _ => by rw [← hm i]; simp)
  simpa using this
noncomputable def jl (y : List Nat) : List (List Nat) → List Nat
  | [] => []
  | [p] => p
  | p :: q :: r => p ++ y ++ jl y (q :: r)
noncomputable def pos (n : Nat) : Nat → List (List Nat) → List Nat
  | _, [] => []
  | _, [_] => []
  | a, p :: q :: r => (a + p.length) :: pos n (a + p.length + n) (q :: r)
theorem Zpn (n : Nat) : ∀ (a : Nat) (ps : List (List Nat)), gap n a (pos n a ps)
  | _, [] => True.intro
  | _, [_] => True.intro
  | a, p :: q :: r => ⟨Nat.le_add_right _ _, Zpn n _ (q :: r)⟩
theorem c_at {y : List Nat} {c o : Nat} (ho : ∀ j, y[j]? = some c → j = o) : ∀ (ps : List (List Nat)) (a j : Nat), (∀ p ∈ ps, c ∉ p) → (jl y ps)[j]? = some c → ∃ i ∈ pos y.length a ps, a + j = i + o
  | [], a, j, _, e => by simp [jl] at e
  | [p], a, j, hp, e => absurd (List.mem_of_getElem? e) (hp p List.mem_cons_self)
  | p :: q :: r, a, j, hp, e => by
    have e : (p ++ y ++ jl y (q :: r))[j]? = some c := e
    by_cases h1 : j < p.length
    · rw [List.append_assoc, List.getElem?_append_left h1] at e
      exact absurd (List.mem_of_getElem? e) (hp p List.mem_cons_self)
    · by_cases h2 : j < p.length + y.length
      · rw [List.append_assoc, List.getElem?_append_right (by omega), List.getElem?_append_left (by omega)] at e
        have := ho _ e
        exact ⟨a + p.length, List.mem_cons_self, by omega⟩
      · rw [List.getElem?_append_right (by rw [List.length_append]; omega), List.length_append] at e
        obtain ⟨i, hi, ei⟩ := c_at ho (q :: r) (a + p.length + y.length) _ (fun z hz => hp z (List.mem_cons_of_mem _ hz)) e
        exact ⟨i, List.mem_cons_of_mem _ hi, by omega⟩
theorem Zth {y : List Nat} : ∀ (ps : List (List Nat)) (a i : Nat), i ∈ pos y.length a ps → a ≤ i ∧ i - a + y.length ≤ (jl y ps).length ∧ ((jl y ps).drop (i - a)).take y.length = y
  | [], _, _, h => nomatch h
  | [_], _, _, h => nomatch h
  | p :: q :: r, a, i, h => by
    show a ≤ i ∧ i - a + y.length ≤ (p ++ y ++ jl y (q :: r)).length ∧ ((p ++ y ++ jl y (q :: r)).drop (i - a)).take y.length = y
    rcases List.mem_cons.mp h with e | e
    · subst e
      rw [List.length_append, List.length_append, show a + p.length - a = p.length by omega]
      refine ⟨by omega, by omega, ?_⟩
      rw [List.append_assoc, List.drop_left, List.take_left]
    · obtain ⟨z1, z2, z3⟩ := Zth (q :: r) (a + p.length + y.length) i e
      rw [List.length_append, List.length_append]
      refine ⟨by omega, by omega, ?_⟩
      rw [show i - a = (p ++ y).length + (i - (a + p.length + y.length)) by rw [List.length_append]; omega, ← List.drop_drop, List.drop_left]
      exact z3
theorem Zg1 (y : Str) : ∀ ps : List Str, (Str.join y ps).cps.toList = jl y.cps.toList (ps.map fun p => p.cps.toList)
  | [] => rfl
  | [p] => rfl
  | p :: q :: r => by
    show (p ++ y ++ Str.join y (q :: r)).cps.toList = p.cps.toList ++ y.cps.toList ++ jl y.cps.toList ((q :: r).map fun p => p.cps.toList)
    rw [← Zg1 y (q :: r)]
    simp [Str.cps_append]
theorem Zek (x : Str) : x.cps.toList.length = x.length := by simp [Str.length]
structure Sep (y : Str) (c o : Nat) : Prop where
  at' : y.cps.toList[o]? = some c
  one : ∀ j, y.cps.toList[j]? = some c → j = o
theorem Sep.pos {y : Str} {c o : Nat} (S : Sep y c o) : 1 ≤ y.length := by
  have := (List.getElem?_eq_some_iff.mp S.at').1
  rw [Zek] at this; omega
theorem Zti {y : Str} {c o : Nat} (S : Sep y c o) (ps : List Str) (hp : ∀ p ∈ ps, c ∉ p.cps.toList) (i : Nat) : At (Str.join y ps) y (Str.join y ps).length i ↔ i ∈ pos y.length 0 (ps.map fun p => p.cps.toList) := by
  have hL := Zg1 y ps
  have hy := Zek y
  constructor
  · rintro ⟨h1, h2⟩
    rw [subAt_eq] at h2
    have h2 := eq_of_beq h2
    have hc : (jl y.cps.toList (ps.map fun p => p.cps.toList))[i + o]? = some c := by
      have z := S.at'
      rw [← h2, List.getElem?_take] at z
      split at z
      · rw [List.getElem?_drop] at z
        rw [← hL]; exact z
      · cases z
    obtain ⟨j, hj, e⟩ := c_at S.one (ps.map fun p => p.cps.toList) 0 (i + o) (fun q hq => by
      obtain ⟨p, h, rfl⟩ := List.mem_map.mp hq
      exact hp p h) hc
    have : i = j := by omega
    rw [this, ← hy]; exact hj
  · intro h
    rw [← hy] at h
    obtain ⟨z1, z2, z3⟩ := Zth _ 0 i h
    rw [← hL] at z2 z3
    have hz := Zek (Str.join y ps)
    refine ⟨by omega, ?_⟩
    rw [subAt_eq, ← hy]
    simpa using z3
theorem Zmm {y : Str} {c o : Nat} (S : Sep y c o) (ps : List Str) (hp : ∀ p ∈ ps, c ∉ p.cps.toList) (limit : Nat) :
    occurrences (Str.join y ps) y 0 (Str.join y ps).length limit = (pos y.length 0 (ps.map fun p => p.cps.toList)).take limit :=
  Zyy _ _ _ _ S.pos (Zpn _ _ _) (Zti S ps hp)
theorem Zmn (x : Str) (l : List Nat) (i j : Nat) (h : (x.cps.toList.drop i).take (j - i) = l) : strSub x i j = ⟨l.toArray⟩ := by
  apply Str.ext'
  apply Array.toList_inj.mp
  rw [strSub_toList, h]
theorem Zmo {y : List Nat} (x : Str) : ∀ (ps : List (List Nat)) (a : Nat), ps ≠ [] → x.cps.toList.drop a = jl y ps → a ≤ x.length → partsFrom x y.length a (pos y.length a ps) = ps.map fun p => ⟨p.toArray⟩
  | [], _, h, _, _ => absurd rfl h
  | [p], a, _, e, ha => by
    show [strSub x a x.length] = [⟨p.toArray⟩]
    rw [Zmn x p a x.length (by
      rw [e]
      show p.take _ = p
      have := congrArg List.length e
      rw [List.length_drop, Zek] at this
      have e2 : (jl y [p]).length = p.length := rfl
      rw [e2] at this
      rw [this]; exact List.take_length)]
  | p :: q :: r, a, _, e, ha => by
    have e : x.cps.toList.drop a = p ++ y ++ jl y (q :: r) := e
    show strSub x a (a + p.length) :: partsFrom x y.length (a + p.length + y.length) (pos y.length (a + p.length + y.length) (q :: r)) = ⟨p.toArray⟩ :: ((q :: r).map fun p => ⟨p.toArray⟩)
    have l1 := congrArg List.length e
    rw [List.length_drop, Zek, List.length_append, List.length_append] at l1
    rw [Zmn x p a (a + p.length) (by rw [e, show a + p.length - a = p.length by omega, List.append_assoc, List.take_left])]
    rw [Zmo x (q :: r) (a + p.length + y.length) (by simp) (by
      rw [show a + p.length + y.length = a + (p ++ y).length by rw [List.length_append]; omega, ← List.drop_drop, e, List.drop_left]) (by omega)]
theorem back (ps : List Str) : (ps.map fun p => p.cps.toList).map (fun p => (⟨p.toArray⟩ : Str)) = ps := by
  rw [List.map_map]
  have : ∀ p : Str, ((fun p => (⟨p.toArray⟩ : Str)) ∘ fun p : Str => p.cps.toList) p = p := fun p => rfl
  rw [List.map_congr_left (fun p _ => this p), List.map_id']
theorem Zr9 (x : Str) : 1 ≤ Builtin.Str.strKind x := by unfold Builtin.Str.strKind; split <;> (try split) <;> decide
theorem Zvq {n a : Nat} : ∀ {ps : List (List Nat)}, pos n a ps = [] → ps = [] ∨ ∃ p, ps = [p]
  | [], _ => .inl rfl
  | [p], _ => .inr ⟨p, rfl⟩
theorem Znk {y : Str} {c o : Nat} (S : Sep y c o) (hk : Builtin.Str.strKind y = 1) (ps : List Str) (h0 : ps ≠ []) (hp : ∀ p ∈ ps, c ∉ p.cps.toList) : Txt.split (Str.join y ps) y = ps := by
  have hP : occurrences (Str.join y ps) y 0 (Str.join y ps).length ((Str.join y ps).length + 1) = pos y.length 0 (ps.map fun p => p.cps.toList) := by
    have h1 := Zmm S ps hp ((Str.join y ps).length + 1)
    have h2 := Zmm S ps hp (((Str.join y ps).length + 1) + (pos y.length 0 (ps.map fun p => p.cps.toList)).length)
    rw [List.take_of_length_le (Nat.le_add_left _ _)] at h2
    have h3 := occ_length_le_len (Str.join y ps) y 0 (Str.join y ps).length (((Str.join y ps).length + 1) + (pos y.length 0 (ps.map fun p => p.cps.toList)).length)
    rw [h2] at h3
    rw [h1, List.take_of_length_le (by omega)]
  have one : pos y.length 0 (ps.map fun p => p.cps.toList) = [] → Str.join y ps = ps.headD Str.empty ∧ [ps.headD Str.empty] = ps := fun e => by
    rcases Zvq e with z | ⟨p, z⟩
    · exact absurd (List.map_eq_nil_iff.mp z) h0
    · match ps, z with
      | [q], _ => exact ⟨rfl, rfl⟩
  unfold Txt.split
  by_cases hs : (decide ((Str.join y ps).length < y.length) || decide (Builtin.Str.strKind (Str.join y ps) < Builtin.Str.strKind y)) = true
  · rw [if_pos hs]
    have hlt : (Str.join y ps).length < y.length := by
      rw [hk] at hs
      have := Zr9 (Str.join y ps)
      rcases Bool.or_eq_true_iff.mp hs with z | z
      · exact of_decide_eq_true z
      · have := of_decide_eq_true z; omega
    have e : pos y.length 0 (ps.map fun p => p.cps.toList) = [] := by
      cases hq : pos y.length 0 (ps.map fun p => p.cps.toList) with
      | nil => rfl
      | cons i r =>
        have := ((Zti S ps hp i).mpr (by rw [hq]; exact List.mem_cons_self)).1
        omega
    rw [(one e).1]; exact (one e).2
  · rw [if_neg hs, hP]
    by_cases he : (pos y.length 0 (ps.map fun p => p.cps.toList)).isEmpty = true
    · rw [if_pos he]
      have e := List.isEmpty_iff.mp he
      rw [(one e).1]; exact (one e).2
    · rw [if_neg he, partsBetween_eq]
      have z := Zmo (y := y.cps.toList) (Str.join y ps) (ps.map fun p => p.cps.toList) 0 (by simpa using h0) (by rw [List.drop_zero]; exact Zg1 y ps) (Nat.zero_le _)
      rw [Zek, back] at z
      exact z
end My
namespace My
open DL PySem
theorem Zcq {tg : FG} {body : FS} {d : D} {ds : List D} {δ δ1 δ2 : DSt} (h1 : tg.run d δ = some δ1) (h2 : body δ1 = some (.nx δ2)) : forD tg body (d :: ds) δ = forD tg body ds δ2 := by
  show (tg.run d δ).bind _ = _
  rw [h1, Option.bind_some, h2, Option.bind_some]
theorem Zln {tg : FG} {body : FS} {d : D} {ds : List D} {δ δ1 : DSt} {sv : SV} (h1 : tg.run d δ = some δ1) (h2 : body δ1 = some (.rt sv)) : forD tg body (d :: ds) δ = some (.rt sv) := by
  show (tg.run d δ).bind _ = _
  rw [h1, Option.bind_some, h2, Option.bind_some]
theorem Zpo {t : FT} {b : FS} {n : Nat} {δ δ1 δ2 : DSt} (h1 : t δ = some (true, δ1)) (h2 : b δ1 = some (.nx δ2)) : Zd4 t b (n + 1) δ = Zd4 t b n δ2 := by
  show (t δ).bind _ = _
  rw [h1, Option.bind_some]
  show (if true = true then (b δ1).bind _ else _) = _
  rw [if_pos rfl, h2, Option.bind_some]
theorem Znl {t : FT} {b : FS} {n : Nat} {δ δ1 : DSt} (h1 : t δ = some (false, δ1)) : Zd4 t b (n + 1) δ = some (.nx δ1) := by
  show (t δ).bind _ = _
  rw [h1, Option.bind_some]
  rfl
noncomputable abbrev S (l : List Nat) : Str := ⟨l.toArray⟩
theorem Zyz (l : List Nat) : (S l).length = l.length := by show l.toArray.size = _; simp
theorem Zy0 (a b : List Nat) : S a ++ S b = S (a ++ b) := by
  show (⟨a.toArray ++ b.toArray⟩ : Str) = ⟨(a ++ b).toArray⟩
  simp
theorem Z1s {a b : List Nat} (h : S a = S b) : a = b := by
  have : a.toArray = b.toArray := congrArg Str.cps h
  simpa using this
theorem S_of (x : Str) : x = S x.cps.toList := by cases x; simp
theorem Zy1 (l : List Nat) : (S l).cps.toList = l := by simp
theorem Zeb {α : Type} (p : List α) (i : Nat) (c : α) (h : p[i]? = some c) : L2.atI p (i : Int) = some c := by
  have hl := (List.getElem?_eq_some_iff.mp h).1
  unfold L2.atI L2.ixN
  rw [if_pos (by omega), if_pos (by omega)]
  simpa using h
section
variable {κ : Type} [DecidableEq κ]
theorem Zmp (k k' : κ) (v : D) : ∀ (ks : List κ) (vs : List D), k ∈ ks → ks.length = vs.length → look ks ((ks.zip vs).map fun p => if p.1 = k then v else p.2) k' = if k = k' then some v else look ks vs k'
  | a :: ks, u :: vs, hk, hl => by
    rw [List.zip_cons_cons, List.map_cons]
    show (if a = k' then some (if a = k then v else u) else look ks ((ks.zip vs).map fun p => if p.1 = k then v else p.2) k') = if k = k' then some v else (if a = k' then some u else look ks vs k')
    by_cases ha : a = k'
    · subst ha
      rw [if_pos rfl, if_pos rfl]
      by_cases hk2 : a = k
      · subst hk2; rw [if_pos rfl, if_pos rfl]
      · rw [if_neg hk2, if_neg fun e => hk2 e.symm]
    · rw [if_neg ha, if_neg ha]
      by_cases hm : k ∈ ks
      · exact Zmp k k' v ks vs hm (by simpa using hl)
      · have hak : k = a := by
          rcases List.mem_cons.mp hk with e | e
          · exact e
          · exact absurd e hm
        rw [if_neg fun e => ha (hak.symm.trans e)]
        have : ((ks.zip vs).map fun p => if p.1 = k then v else p.2) = vs := by
          have hl' : ks.length = vs.length := by simpa using hl
          clear hk hl ha
          induction ks generalizing vs with
          | nil => cases vs with
            | nil => rfl
            | cons _ _ => simp at hl'
          | cons b ks ih => cases vs with
            | nil => simp at hl'
            | cons w vs =>
              rw [List.zip_cons_cons, List.map_cons, if_neg fun e => hm (by rw [← e]; exact List.mem_cons_self), ih vs (fun h => hm (List.mem_cons_of_mem _ h)) (by simpa using hl')]
        rw [this]
  | [], _, hk, _ => nomatch hk
theorem Zj8 (k k' : κ) (v : D) : ∀ (ks : List κ) (vs : List D), k ∉ ks → ks.length = vs.length → look (ks ++ [k]) (vs ++ [v]) k' = if k = k' then some v else look ks vs k'
  | [], [], _, _ => by show (if k = k' then some v else none) = _; rfl
  | a :: ks, u :: vs, hk, hl => by
    show (if a = k' then some u else look (ks ++ [k]) (vs ++ [v]) k') = if k = k' then some v else (if a = k' then some u else look ks vs k')
    by_cases ha : a = k'
    · rw [if_pos ha, if_pos ha, if_neg fun e => hk (by rw [e, ← ha]; exact List.mem_cons_self)]
    · rw [if_neg ha, if_neg ha]
      exact Zj8 k k' v ks vs (fun h => hk (List.mem_cons_of_mem _ h)) (by simpa using hl)
theorem Zel (k k' : κ) (v : D) (ks : List κ) (vs : List D) (hl : ks.length = vs.length) : look (putA ks vs k v).1 (putA ks vs k v).2 k' = if k = k' then some v else look ks vs k' := by
  unfold putA
  split
  · rename_i h; exact Zmp k k' v ks vs h hl
  · rename_i h; exact Zj8 k k' v ks vs h hl
theorem Zfn (k : κ) (v : D) (ks : List κ) (vs : List D) (hl : ks.length = vs.length) : (putA ks vs k v).1.length = (putA ks vs k v).2.length ∧ (putA ks vs k v).2.length ≤ vs.length + 1 := by
  unfold putA
  split
  · simp [hl]
  · simp [hl]
end
end My
namespace My
open DL PySem
noncomputable abbrev nats (s n : Nat) : List D := (List.range' s n).map fun i : Nat => D.int (i : Int)
theorem Zcl (n : Nat) : Zk2 0 n = nats 0 n := by
  unfold Zk2
  rw [List.range_eq_range']
  refine List.map_congr_left fun i _ => ?_
  simp
theorem Zg2 {tg : FG} {body : FS} {P : Nat → DSt → Prop} : ∀ (n s : Nat) (δ : DSt), P s δ → (∀ i, s ≤ i → i < s + n → ∀ δ, P i δ → ∃ δ1 δ2, tg.run (.int (i : Int)) δ = some δ1 ∧ body δ1 = some (.nx δ2) ∧ P (i + 1) δ2) →
    ∃ δ', forD tg body (nats s n) δ = some (.nx δ') ∧ P (s + n) δ'
  | 0, s, δ, h, _ => ⟨δ, rfl, h⟩
  | n + 1, s, δ, h, k => by
    obtain ⟨δ1, δ2, h1, h2, h3⟩ := k s (Nat.le_refl _) (by omega) δ h
    obtain ⟨δ', e, h'⟩ := Zg2 (tg := tg) (body := body) (P := P) n (s + 1) δ2 h3 fun i hi hj => k i (by omega) (by omega)
    refine ⟨δ', ?_, by rw [show s + (n + 1) = s + 1 + n by omega]; exact h'⟩
    show forD tg body (.int (s : Int) :: nats (s + 1) n) δ = _
    rw [Zcq h1 h2]; exact e
theorem Zlo {src : List L2.BSrc} {k : Nat} {g : FG} {tt : FT} {te : FE} {st : List D → DSt} {R : D → Prop} : ∀ (ds ys : List D),
    (∀ d ∈ ds, ∀ (zs ds' : List D), zs.length < PySem.sizeLine → ∃ v, R v ∧ Zz src k g tt te (d :: ds') (st zs) = Zz src k g tt te ds' (st (zs ++ [v]))) → ys.length + ds.length ≤ 16777216 →
    ∃ vs, Zz src k g tt te ds (st ys) = some (st (ys ++ vs)) ∧ (∀ v ∈ vs, R v) ∧ vs.length = ds.length
  | [], ys, _, _ => ⟨[], by simp, (fun _ h => nomatch h), rfl⟩
  | d :: ds, ys, h, hl => by
    rw [List.length_cons] at hl
    obtain ⟨v, hv, e⟩ := h d List.mem_cons_self ys ds (Zbj (by omega))
    obtain ⟨vs, e2, h2, h3⟩ := Zlo ds (ys ++ [v]) (fun x hx => h x (List.mem_cons_of_mem _ hx)) (by rw [List.length_append, List.length_singleton]; omega)
    refine ⟨v :: vs, by rw [e, e2]; simp, fun x hx => ?_, by simp [h3]⟩
    rcases List.mem_cons.mp hx with hx | hx
    · rw [hx]; exact hv
    · exact h2 x hx
theorem Zew {P : Str → Prop} : ∀ (vs : List D), (∀ v ∈ vs, ∃ s, v = .str s ∧ P s) → ∃ ts : List Str, vs = ts.map D.str ∧ ∀ t ∈ ts, P t
  | [], _ => ⟨[], rfl, (fun _ h => nomatch h)⟩
  | v :: vs, h => by
    obtain ⟨s, e, hs⟩ := h v List.mem_cons_self
    obtain ⟨ts, e2, h2⟩ := Zew vs fun x hx => h x (List.mem_cons_of_mem _ hx)
    refine ⟨s :: ts, by rw [e, e2]; rfl, fun t ht => ?_⟩
    rcases List.mem_cons.mp ht with ht | ht
    · rw [ht]; exact hs
    · exact h2 t ht
theorem Zvr (n : Nat) (x : Str) : eqM (n + 1) (.str x) (.str x) = some true := by simp
theorem Zy2 {α : Type} (l : List α) (x n : Int) (hl : (l.length : Int) = n) (hn : 0 < n) : ∃ c, c ∈ l ∧ L2.atI l (x % n) = some c := by
  have h0 : 0 ≤ x % n := Int.emod_nonneg _ (by omega)
  have h1 : x % n < n := Int.emod_lt_of_pos _ hn
  obtain ⟨j, hj⟩ := Int.eq_ofNat_of_zero_le h0
  have hjl : j < l.length := by omega
  rw [hj]
  exact ⟨l[j], List.getElem_mem hjl, Zeb _ _ _ (List.getElem?_eq_getElem hjl)⟩
end My
namespace My
open DL PySem StrLaws Builtin.Str
end My
namespace My
open DL PySem
noncomputable abbrev inrs (xs : List Str) : List L2.Key := xs.map Sum.inr
theorem Zge (k : Str) : ∀ (xs : List Str) (vs : List D), look (inrs xs) vs (Sum.inr k) = look xs vs k
  | [], [] => rfl
  | [], _ :: _ => rfl
  | _ :: _, [] => rfl
  | x :: xs, v :: vs => by
    show (if (Sum.inr x : L2.Key) = Sum.inr k then some v else look (inrs xs) vs (Sum.inr k)) = if x = k then some v else look xs vs k
    rw [Zge k xs vs]
    by_cases h : x = k
    · rw [if_pos h, if_pos (by rw [h])]
    · rw [if_neg h, if_neg fun e => h (Sum.inr.inj e)]
theorem Zil (k : Str) (v : D) (xs : List Str) (vs : List D) : putA (inrs xs) vs (Sum.inr k) v = (inrs (putA xs vs k v).1, (putA xs vs k v).2) := by
  have hm : ((Sum.inr k : L2.Key) ∈ inrs xs) ↔ k ∈ xs := by
    constructor
    · intro h
      obtain ⟨y, hy, e⟩ := List.mem_map.mp h
      rw [← Sum.inr.inj e]; exact hy
    · exact fun h => List.mem_map.mpr ⟨k, h, rfl⟩
  unfold putA
  by_cases h : k ∈ xs
  · rw [if_pos h, if_pos (hm.mpr h)]
    congr 1
    have : ∀ (xs : List Str) (vs : List D), ((inrs xs).zip vs).map (fun p => if p.1 = (Sum.inr k : L2.Key) then v else p.2) = (xs.zip vs).map fun p => if p.1 = k then v else p.2 := by
      intro xs
      induction xs with
      | nil => intro vs; rfl
      | cons x xs ih =>
        intro vs
        cases vs with
        | nil => rfl
        | cons u vs =>
          show (if (Sum.inr x : L2.Key) = Sum.inr k then v else u) :: ((inrs xs).zip vs).map (fun p => if p.1 = (Sum.inr k : L2.Key) then v else p.2) = (if x = k then v else u) :: (xs.zip vs).map fun p => if p.1 = k then v else p.2
          rw [ih vs]
          by_cases hx : x = k
          · rw [if_pos hx, if_pos (by rw [hx])]
          · rw [if_neg hx, if_neg fun e => hx (Sum.inr.inj e)]
    exact this xs vs
  · rw [if_neg h, if_neg fun e => h (hm.mp e)]
    simp [inrs]
theorem Znm (k : Str) (v : D) (xs : List Str) (vs : List D) (h : xs.Nodup) : (putA xs vs k v).1.Nodup := by
  unfold putA
  split
  · exact h
  · rename_i hk
    exact List.nodup_append.mpr ⟨h, by simp, fun a ha b hb e => hk (by rw [List.mem_singleton.mp hb] at e; rw [← e]; exact ha)⟩
theorem Zg3 (k : Str) (v : D) (xs : List Str) (vs : List D) : ∀ u ∈ (putA xs vs k v).2, u = v ∨ u ∈ vs := by
  intro u hu
  unfold putA at hu
  split at hu
  · obtain ⟨p, hp, e⟩ := List.mem_map.mp hu
    split at e
    · exact .inl e.symm
    · exact .inr (by rw [← e]; exact (List.of_mem_zip hp).2)
  · rcases List.mem_append.mp hu with h | h
    · exact .inr h
    · exact .inl (List.mem_singleton.mp h)
structure Dic (xs : List Str) (vs : List D) : Prop where
  nd : xs.Nodup
  len : xs.length = vs.length
theorem Dic.nil : Dic [] [] := ⟨List.nodup_nil, rfl⟩
theorem Dic.put {xs : List Str} {vs : List D} (h : Dic xs vs) (k : Str) (v : D) : Dic (putA xs vs k v).1 (putA xs vs k v).2 := ⟨Znm k v xs vs h.nd, (Zfn k v xs vs h.len).1⟩
theorem Zsa {xs : List Str} : ∀ {vs : List D}, xs.Nodup → xs.length = vs.length → ∀ (i : Nat) (x : Str) (v : D), xs[i]? = some x → vs[i]? = some v → look xs vs x = some v := by
  induction xs with
  | nil => intro vs _ _ i x v h; simp at h
  | cons y xs ih =>
    intro vs nd hl i x v hx hv
    cases vs with
    | nil => simp at hv
    | cons u vs =>
      obtain ⟨n1, n2⟩ := List.nodup_cons.mp nd
      show (if y = x then some u else look xs vs x) = some v
      cases i with
      | zero =>
        simp at hx hv
        rw [if_pos hx, hv]
      | succ i =>
        simp at hx hv
        have hm := List.mem_of_getElem? hx
        rw [if_neg fun e => n1 (by rw [e]; exact hm)]
        exact ih n2 (by simpa using hl) i x v hx hv
theorem Zmq : ∀ xs : List Str, strK? (inrs xs) = some xs
  | [] => rfl
  | x :: xs => by
    show (strK? (inrs xs)).bind (fun t => some (x :: t)) = some (x :: xs)
    rw [Zmq xs]; rfl
theorem Zj9 {f : D → D → Option Bool} {ys : List Str} {us : List D} : ∀ (xs : List Str) (vs : List D), (∀ (i : Nat) (x : Str) (v : D), xs[i]? = some x → vs[i]? = some v → look ys us x = some v ∧ f v v = some true) → eqKV f ys us xs vs = some true
  | [], _, _ => rfl
  | _ :: _, [], _ => rfl
  | x :: xs, v :: vs, h => by
    obtain ⟨h1, h2⟩ := h 0 x v rfl rfl
    have ih := Zj9 xs vs fun i x v hx hv => h (i + 1) x v (by simpa using hx) (by simpa using hv)
    show (match look ys us x with
      | none => some false
      | some u => (f v u).bind fun b => (eqKV f ys us xs vs).bind fun c => some (b && c)) = some true
    rw [h1]
    dsimp only
    rw [h2, ih]; rfl
theorem Zy3 (n : Nat) {xs : List Str} {vs : List D} (h : Dic xs vs) (hv : ∀ v ∈ vs, eqM n v v = some true) : eqM (n + 1) (.dK (inrs xs) vs) (.dK (inrs xs) vs) = some true := by
  show (strK? (inrs xs)).bind (fun xs' => (strK? (inrs xs)).bind fun ys => if xs'.length = ys.length then eqKV (eqM n) ys vs xs' vs else some false) = some true
  rw [Zmq]
  dsimp only [Option.bind]
  rw [if_pos rfl]
  exact Zj9 xs vs fun i x v hx hv' => ⟨Zsa h.nd h.len i x v hx hv', hv v (List.mem_of_getElem? hv')⟩
end My
namespace My
open DL PySem StrLaws Builtin.Str
theorem Zz9 (y p : List Nat) (q : List Nat) (r : List (List Nat)) : jl y (p :: q :: r) = p ++ y ++ jl y (q :: r) := rfl
end My
noncomputable section
namespace Gen
open PySem PySem.Spec PyProof.Rows L2 DL
noncomputable def top (i : Nat) : Stmt := PySem.Challenge.pw_citeward_k16_templates_filled.main.body.getD i (.Pass ⟨0, 0, 0, 0⟩)
noncomputable abbrev FUEL : Nat := 1000
noncomputable abbrev Za3 : Stmt := top 23
noncomputable abbrev Zbw : Stmt := top 24
noncomputable abbrev Zan : Stmt := top 25
noncomputable abbrev Zbx : Stmt := top 26
noncomputable abbrev Zae : Stmt := top 27
noncomputable abbrev Zbb : Stmt := top 29
noncomputable abbrev Zbc : Stmt := top 18
noncomputable abbrev Zby : Stmt := top 13
noncomputable abbrev Zbd : Stmt := top 14
noncomputable abbrev Zbz : Stmt := top 5
noncomputable abbrev Zbe : Stmt := top 6
noncomputable abbrev Zb0 : Stmt := top 12
noncomputable abbrev Zbf : Stmt := top 11
noncomputable abbrev Zbg : Stmt := top 19
noncomputable abbrev Zat : Stmt := top 20
noncomputable abbrev Zau : Stmt := top 17
noncomputable abbrev Zfo : Stmt := top 16
noncomputable abbrev Za4 : Stmt := top 22
noncomputable abbrev Zb1 : Stmt := top 28
noncomputable abbrev Zbu : Stmt := top 30
noncomputable abbrev Zfa : Stmt := top 31
noncomputable def Zcd : FS :=
  seqF (setF 3 (binF modD (binF mulZ (binF addD (binF addD (Zb 3) (Zb 4)) (Za (.int 1))) (Za (.int 48271))) (Za (.int 2147483647)))) (appF 2 (Zb 3))
noncomputable def Zct : FS :=
  seqF (setF 2 (lstF (Zt))) (seqF (setF 3 (binF modD (Zb 0) (Za (.int 2147483647)))) (seqF (forF (rngI (Zc (Zb 1) Zi)) (Zg 4) Zcd) (retF (Zb 2))))
noncomputable def Zab : List D → Option SV := Zc0 Zct 5
noncomputable def Zav : FS :=
  setF 7 (binF addD (Zb 7) (binF ixX (Zb 1) (binF modD (binF addD (binF ixX (Zb 2) (Zb 8)) (binF mulZ (Zb 6) (Zb7 intD (Zc (binF eqY (Zb 8) (Zb 4)) Zi)))) (Za (.int 18)))))
noncomputable def Zcu : FS :=
  seqF (setF 7 (Za (.str ""))) (seqF (forF (rngI (Zc (Zb 3) Zi)) (Zg 8) Zav) (appF 5 (Zb 7)))
noncomputable def Zds : FS :=
  seqF (setF 1 (Za (.str "bcdfghklmpqrstvwxz"))) (seqF (setF 2 (Zch 2 Zab (Zc (Zb 0) (Zc (Za (.int 10)) (Zi))))) (seqF (setF 3 (binF addD (Za (.int 1)) (binF modD (binF ixX (Zb 2) (Za (.int 8))) (Za (.int 8))))) (seqF (setF 4 (binF modD (binF ixX (Zb 2) (Za (.int 9))) (Zb 3))) (seqF (setF 5 (lstF (Zt))) (seqF (forF (rngI (Zc (Za (.int 6)) Zi)) (Zg 6) Zcu) (retF (Zb 5)))))))
noncomputable def Zc1 : List D → Option SV := Zc0 Zds 9
noncomputable def Za1 : FE :=
  binF ixX (Zb 1) (binF modD (binF Zfk (Zb 2) (binF addD (Zb 0) (Za (.int 1)))) (Za (.int 6)))
noncomputable def Z6 : FS :=
  seqF (setF 4 (binF Zfk (Zb 3) (Za (.int 5)))) (ifS (andF (Zr (binF eqY (binF modD (Zb 3) (Za (.int 5))) (Za (.int 0)))) (Zr (binF ltD (Zf7 2) (Za (.int 4))))) (Zj6 2) (ifS (andF (Zr (binF eqY (binF modD (Zb 3) (Za (.int 5))) (Za (.int 1)))) (Zr (binF gtD (Zf7 2) (Za (.int 1))))) (seqF (Zij 5 2) (ifS (Zr (binF gtD (Zb7 lenD (Zc (Zb 5) Zi)) (Za (.int 0)))) (Zar 2 (tupF (Zl (Za (.str "group")) (Zl (Zb7 Ze7 (Zc (Zb 5) Zi)) (Zt))))) (Zbs))) (ifS (andF (Zr (binF eqY (binF modD (Zb 3) (Za (.int 5))) (Za (.int 2)))) (orF (Zr (binF eqY (Zd8 2) (Za (.int 0)))) (Zr (binF neY (binF ixX (Zey 2) (Za (.int 0))) (Za (.str "signs")))))) (Zar 2 (tupF (Zl (Za (.str "signs")) (Zl (binF ixX (lstF (Zfx ["; p. ", "a", ": (x) ", "="] (Zt))) (binF modD (Zb 4) (Za (.int 4)))) (Zt))))) (ifS (Zr (binF eqY (binF modD (Zb 3) (Za (.int 5))) (Za (.int 3)))) (Zar 2 (tupF (Zl (Za (.str "hands")) (Zl (binF ixX (Zb 0) (binF modD (Zb 4) (Za (.int 6)))) (Zl (binF addD (Za (.int 1)) (binF modD (binF Zfk (Zb 4) (Za (.int 6))) (Za (.int 3)))) (Zl (binF modD (binF Zfk (Zb 4) (Za (.int 18))) (Za (.int 3))) (Zt))))))) (seqF (setF 6 (Zdm [.own, .cap 0, .cap 4, .acc] 3 (rngI (Zc (binF addD (Za (.int 1)) (binF modD (binF Zfk (Zb 4) (Za (.int 6))) (Za (.int 3)))) Zi)) (Zg 0) (Za9) Za1)) (Zar 2 (tupF (Zl (Za (.str "field")) (Zl (Zb7 Ze7 (Zc (Zb 6) Zi)) (Zt))))))))))
noncomputable def Zbp : FT :=
  Zr (binF gtD (Zf7 2) (Za (.int 1)))
noncomputable def Zw : FS :=
  seqF (Zij 5 2) (ifS (Zr (binF gtD (Zb7 lenD (Zc (Zb 5) Zi)) (Za (.int 0)))) (Zar 2 (tupF (Zl (Za (.str "group")) (Zl (Zb7 Ze7 (Zc (Zb 5) Zi)) (Zt))))) (Zbs))
noncomputable def Zcj : FS :=
  seqF (setF 2 (Zvo)) (seqF (forF (anyI (Zb 1)) (Zg 3) Z6) (seqF (Zd4 Zbp Zw FUEL) (retF (Zej 2))))
noncomputable def Zbl : List D → Option SV := Zc0 Zcj 7
noncomputable def Zcv : FE :=
  binF ixX (lstF (Zfx ["Ann", "Bo", "c"] (Zt))) (binF modD (binF Zfk (Zb 1) (binF addD (Zb 0) (Za (.int 2)))) (Za (.int 3)))
noncomputable def Zce : FS :=
  seqF (setF 3 (Zdm [.own, .cap 2, .acc] 2 (rngI (Zc (binF modD (Zb 2) (Za (.int 3))) Zi)) (Zg 0) (Za9) Zcv)) (appF 1 (tupF (Zl (binF ixX (lstF (Zfx ["Lee", "Kim", "Ng"] (Zt))) (binF modD (binF Zfk (Zb 2) (Za (.int 9))) (Za (.int 3)))) (Zl (Zb 3) (Zt)))))
noncomputable def Zdt : FS :=
  seqF (setF 1 (lstF (Zt))) (seqF (forF (anyI (Zch 2 Zab (Zc (Zb 0) (Zc (binF addD (Za (.int 1)) (binF modD (Zb 0) (Za (.int 4)))) (Zi))))) (Zg 2) Zce) (retF (Zb 1)))
noncomputable def Zc2 : List D → Option SV := Zc0 Zdt 4
noncomputable def Z5 : FS :=
  ifS (Zr (binF eqY (Zb 3) (lstF (Zt)))) (appF 1 (Zb 2)) (appF 1 (binF addD (binF addD (Zb 2) (Za (.str ", "))) (bmF "str" Zcg (Za (.str " ")) (Zc (Zb 3) Zi))))
noncomputable def Zbq : FS :=
  seqF (setF 1 (lstF (Zt))) (seqF (forF (anyI (Zb 0)) (Zf5 2 (Zcb (Zg 2) (Zcb (Zg 3) (Zgp)))) Z5) (retF (bmF "str" Zcg (Za (.str " & ")) (Zc (Zb 1) Zi))))
noncomputable def Za2 : List D → Option SV := Zc0 Zbq 4
noncomputable def Zal : FS :=
  seqF (ifS (Zr (binF gtD (binF modD (binF ixX (Zb 4) (Zb 5)) (Za (.int 4))) (Za (.int 0)))) (seqF (setF 6 (lstF (Zfx ["Lee, Ann & ", "2001", "A b's (x)", "Lee,Ann", "Roe & Sons Ltd.", "The House, 12"] (Zt)))) (seqF (setF 6 (binF addD (Zb 6) (lstF (Zfx ["Abcdefghijklmnop", "Lee, A B C D E", "A & B & C & D & E & F & G"] (Zt))))) (putF 2 (binF ixX (Zb 0) (Zb 5)) (binF ixX (Zb 6) (binF modD (binF ixX (Zb 4) (binF addD (Za (.int 6)) (Zb 5))) (Za (.int 9))))))) (Zbs)) (ifS (Zr (binF gtD (binF modD (binF ixX (Zb 4) (Zb 5)) (Za (.int 4))) (Za (.int 1)))) (seqF (putF 3 (binF ixX (Zb 0) (Zb 5)) (Zch 1 Zc2 (Zc (binF ixX (Zb 4) (binF addD (Za (.int 6)) (Zb 5))) (Zi)))) (putF 2 (binF ixX (Zb 0) (Zb 5)) (Zch 1 Za2 (Zc (binF ixX (Zb 3) (binF ixX (Zb 0) (Zb 5))) (Zi))))) (Zbs))
noncomputable def Zda : FS :=
  seqF (setF 2 (Zli)) (seqF (setF 3 (Zli)) (seqF (setF 4 (Zch 2 Zab (Zc (Zb 1) (Zc (Za (.int 12)) (Zi))))) (seqF (forF (rngI (Zc (Za (.int 6)) Zi)) (Zg 5) Zal) (retF (tupF (Zl (Zb 2) (Zl (Zb 3) (Zt))))))))
noncomputable def Zcm : List D → Option SV := Zc0 Zda 7
noncomputable def Za5 : FS :=
  ifS (Zr (binF inZ (Zb 2) (Zb 1))) (retF (binF ixX (Zb 1) (Zb 2))) (Zbs)
noncomputable def Zdb : FS :=
  seqF (forF (anyI (Zb 0)) (Zg 2) Za5) (retF (Za .non))
noncomputable def Zb2 : List D → Option SV := Zc0 Zdb 3
noncomputable def Zim : FE :=
  binF addD (slF slD (Zb 0) (Zft) (Zhb (Za (.int 1)))) (Za (.str ". "))
noncomputable def Zin : FE :=
  binF addD (Zb 0) (Za (.str " "))
noncomputable def Zez : FS :=
  seqF (ifS (Zr (binF eqY (Zb 1) (Za (.int 0)))) (retF (binF ixX (Zb 0) (Za (.int 0)))) (Zbs)) (seqF (ifS (Zr (binF eqY (Zb 1) (Za (.int 1)))) (retF (binF addD (bmF "str" Zcg (Za (.str "")) (Zc (Zdm [.own, .acc] 1 (anyI (binF ixX (Zb 0) (Za (.int 1)))) (Zg 0) (Za9) Zim) Zi)) (binF ixX (Zb 0) (Za (.int 0))))) (Zbs)) (retF (binF addD (bmF "str" Zcg (Za (.str "")) (Zc (Zdm [.own, .acc] 1 (anyI (binF ixX (Zb 0) (Za (.int 1)))) (Zg 0) (Za9) Zin) Zi)) (binF ixX (Zb 0) (Za (.int 0))))))
noncomputable def Zbv : List D → Option SV := Zc0 Zez 2
noncomputable def Zbm : FE :=
  Zch 2 Zbv (Zc (Zb 0) (Zc (Zb 1) (Zi)))
noncomputable def Zb3 : FS :=
  seqF (setF 3 (Zdm [.own, .cap 2, .acc] 2 (anyI (Zb 0)) (Zg 0) (Za9) Zbm)) (seqF (ifS (Zr (binF gtD (Zb7 lenD (Zc (Zb 3) Zi)) (Zb 1))) (retF (binF addD (bmF "str" Zcg (Za (.str ", ")) (Zc (slF slD (Zb 3) (Zft) (Zhb (Zb 1))) Zi)) (Za (.str " and others")))) (Zbs)) (seqF (ifS (Zr (binF ltD (Zb7 lenD (Zc (Zb 3) Zi)) (Za (.int 2)))) (retF (bmF "str" Zcg (Za (.str "")) (Zc (Zb 3) Zi))) (Zbs)) (retF (binF addD (binF addD (bmF "str" Zcg (Za (.str ", ")) (Zc (slF slD (Zb 3) (Zft) (Zhb (unF negD (Za (.int 1))))) Zi)) (Za (.str " and "))) (binF ixX (Zb 3) (unF negD (Za (.int 1))))))))
noncomputable def Zao : List D → Option SV := Zc0 Zb3 4
noncomputable def Zio : FE :=
  binF inZ (Zb 0) (Zb 1)
noncomputable def Ze0 : FS :=
  retF (Zb7 allD (Zc (Zdm [.own, .cap 1, .acc] 2 (anyI (Zb 0)) (Zg 0) (Za9) Zio) Zi))
noncomputable def Ze1 : List D → Option SV := Zc0 Ze0 2
noncomputable def Zec : FS :=
  seqF (ifS (notF (Zr (unF (isiD "str") (Zb 0)))) (retF (Za (.bl false))) (Zbs)) (retF (andV (Zop leD leD (Za (.int 1)) (Zb7 lenD (Zc (Zb 0) Zi)) (Zb 2)) (Zch 2 Ze1 (Zc (Zb 0) (Zc (Zb 1) (Zi))))))
noncomputable def Zed : List D → Option SV := Zc0 Zec 3
noncomputable def Zip : FS :=
  ifS (notF (Zr (Zch 3 Zed (Zc (Zb 3) (Zc (Za (.str "ABCDEFGHIJKLMNOPQRSTUVWXYZabcdefghijklmnopqrstuvwxyz")) (Zc (Za (.int 15)) (Zi))))))) (Zhq "NoHands") (Zbs)
noncomputable def Ze2 : FS :=
  seqF (setF 1 (bmF "str" Zei (Zb 0) (Zc (Za (.str ", ")) Zi))) (seqF (setF 2 (ifF (Zr (binF eqY (binF ixX (Zb 1) (Za (.int 1))) (Za (.str ", ")))) (bmF "str" Zjx (binF ixX (Zb 1) (Za (.int 2))) (Zc (Za (.str " ")) Zi)) (lstF (Zt)))) (seqF (ifS (Zr (binF gtD (Zb7 lenD (Zc (Zb 2) Zi)) (Za (.int 4)))) (Zhq "NoHands") (Zbs)) (seqF (forF (anyI (binF addD (lstF (Zl (binF ixX (Zb 1) (Za (.int 0))) (Zt))) (Zb 2))) (Zg 3) Zip) (retF (tupF (Zl (binF ixX (Zb 1) (Za (.int 0))) (Zl (Zb7 Ze7 (Zc (Zb 2) Zi)) (Zt))))))))
noncomputable def Zc3 : List D → Option XO := outX Ze2 4
noncomputable def Zbn : FX :=
  Zrx 1 Zc3 (Zgd (Zrw (Zb 0)) (Zig))
noncomputable def Zdc : FS :=
  seqF (ifS (notF (Zr (unF (isiD "str") (Zb 0)))) (Zhq "NoHands") (Zbs)) (seqF (setF 1 (bmF "str" Zjx (Zb 0) (Zc (Za (.str " & ")) Zi))) (seqF (ifS (Zr (binF gtD (Zb7 lenD (Zc (Zb 1) Zi)) (Za (.int 6)))) (Zhq "NoHands") (Zbs)) (retX (Zvj [.own, .acc] 1 (anyI (Zb 1)) (Zg 0) (Za9) Zbn))))
noncomputable def Zaj : List D → Option XO := outX Zdc 2
noncomputable def Zdj : FS :=
  retF (Zb 2)
noncomputable def Zb4 : FS :=
  seqF (setF 2 (bmDF "dict" Zjz (Zb 1) (Zl (binF ixX (Zb 0) (Za (.int 1))) (Zt)))) (seqF (ifS (Zr (binF isND (Zb 2) (Za .non))) (retF (Za .non)) (Zbs)) (seqF (tryF (setX 3 (Zrx 1 Zaj (Zgd (Zrw (Zb 2)) (Zig)))) [⟨none, ["NoHands"], [], Zdj⟩]) (retF (Zch 3 Zao (Zc (Zb 3) (Zc (binF ixX (Zb 0) (Za (.int 2))) (Zc (binF ixX (Zb 0) (Za (.int 3))) (Zi))))))))
noncomputable def Z4 : List D → Option SV := Zc0 Zb4 4
noncomputable def Zdk (r_told_piece : List D → Option SV) : FE :=
  Zch 2 r_told_piece (Zc (Zb 0) (Zc (Zb 1) (Zi)))
noncomputable def Zdd (r_told_piece : List D → Option SV) : FS :=
  seqF (setF 2 (Zdm [.own, .cap 1, .acc] 2 (anyI (Zb 0)) (Zg 0) (Za9) (Zdk r_told_piece))) (seqF (ifS (Zr (binF inZ (Za .non) (Zb 2))) (retF (Za (.str ""))) (Zbs)) (retF (bmF "str" Zcg (Za (.str "")) (Zc (Zb 2) Zi))))
noncomputable def Zb5 (r_told_piece : List D → Option SV) : List D → Option SV := Zc0 (Zdd r_told_piece) 3
noncomputable def Zap (r_told_piece : List D → Option SV) : FS :=
  seqF (ifS (Zr (binF eqY (binF ixX (Zb 0) (Za (.int 0))) (Za (.str "signs")))) (retF (binF ixX (Zb 0) (Za (.int 1)))) (Zbs)) (seqF (ifS (Zr (binF eqY (binF ixX (Zb 0) (Za (.int 0))) (Za (.str "field")))) (retF (Zch 2 Zb2 (Zc (binF ixX (Zb 0) (Za (.int 1))) (Zc (Zb 1) (Zi))))) (Zbs)) (seqF (ifS (Zr (binF eqY (binF ixX (Zb 0) (Za (.int 0))) (Za (.str "hands")))) (retF (Zch 2 Z4 (Zc (Zb 0) (Zc (Zb 1) (Zi))))) (Zbs)) (retF (Zch 2 (Zb5 r_told_piece) (Zc (binF ixX (Zb 0) (Za (.int 1))) (Zc (Zb 1) (Zi)))))))
noncomputable def Zq : Nat → List D → Option SV
  | 0 => fun _ => none
  | n + 1 => Zc0 (Zap (Zq n)) 2
noncomputable def Zcn : List D → Option SV := Zq 12
noncomputable def Zka : List D → Option SV := Zb5 Zcn
noncomputable def Zgf : FE :=
  Zch 2 Zcn (Zc (Zb 0) (Zc (Zb 1) (Zi)))
noncomputable def Zde : FT :=
  Zr (binF Zk4 (Zb 0) (Za .non))
noncomputable def Zdu : FE :=
  Zb 0
noncomputable def Zmr : FS :=
  seqF (setF 2 (Zdm [.own, .cap 1, .acc] 2 (anyI (Zb 0)) (Zg 0) (Za9) Zgf)) (retF (bmF "str" Zcg (Za (.str "")) (Zc (Zdm [.own, .acc] 1 (anyI (Zb 2)) (Zg 0) (Zde) Zdu) Zi)))
noncomputable def Zhv : List D → Option SV := Zc0 Zmr 3
noncomputable def Zcf : FS :=
  seqF (ifS (Zr (binF ltD (Zb 1) (Zb7 lenD (Zc (Zb 0) Zi)))) (retF (binF ixX (Zb 0) (Zb 1))) (Zbs)) (retF (Za (.int 0)))
noncomputable def Zaw : List D → Option SV := Zc0 Zcf 2
noncomputable def Zdv : FE :=
  binF ixX (lstF (Zl (slF slD (Zb 0) (Zft) (Zhb (Za (.int 0)))) (Zl (binF addD (binF ixX (Zb 0) (Za (.int 0))) (Za (.str ". "))) (Zl (binF addD (Zb 0) (Za (.str " "))) (Zt))))) (Zb 1)
noncomputable def Zbh : FS :=
  seqF (setF 6 (bmF "str" Zcg (Za (.str "")) (Zc (Zdm [.own, .cap 2, .acc] 2 (anyI (Zb 5)) (Zg 0) (Za9) Zdv) Zi))) (appF 3 (binF addD (Zb 6) (Zb 4)))
noncomputable def Zci : FS :=
  seqF (setF 3 (lstF (Zt))) (seqF (forF (anyI (slF slD (Zb 0) (Zft) (Zhb (Zb 1)))) (Zf5 2 (Zcb (Zg 4) (Zcb (Zg 5) (Zgp)))) Zbh) (seqF (ifS (Zr (binF gtD (Zb7 lenD (Zc (Zb 0) Zi)) (Zb 1))) (retF (binF addD (bmF "str" Zcg (Za (.str ", ")) (Zc (Zb 3) Zi)) (Za (.str " and others")))) (Zbs)) (seqF (ifS (Zr (binF eqY (Zb7 lenD (Zc (Zb 3) Zi)) (Za (.int 1)))) (retF (binF ixX (Zb 3) (Za (.int 0)))) (Zbs)) (retF (binF addD (binF addD (bmF "str" Zcg (Za (.str ", ")) (Zc (slF slD (Zb 3) (Zft) (Zhb (unF negD (Za (.int 1))))) Zi)) (Za (.str " and "))) (binF ixX (Zb 3) (unF negD (Za (.int 1)))))))))
noncomputable def Za7 : List D → Option SV := Zc0 Zci 7
noncomputable def Zb6 (r_law_told : List D → Option SV) : FS :=
  ifS (Zr (binF inZ (Zb 3) (Zb 1))) (retF (binF ixX (Zb 1) (Zb 3))) (Zbs)
noncomputable def Zee (r_law_told : List D → Option SV) : FE :=
  Zch 3 r_law_told (Zc (Zb 0) (Zc (Zb 1) (Zc (Zb 2) (Zi))))
noncomputable def Za8 (r_law_told : List D → Option SV) : FS :=
  ifS (andF (Zr (binF isND (binF ixX (Zb 4) (Zb 5)) (Za .non))) (Zr (binF neY (binF ixX (binF ixX (binF ixX (Zb 0) (Za (.int 1))) (Zb 5)) (Za (.int 0))) (Za (.str "group"))))) (retF (Za (.str ""))) (Zbs)
noncomputable def Zfy (r_law_told : List D → Option SV) : FT :=
  Zr (binF Zk4 (Zb 0) (Za .non))
noncomputable def Zfz (r_law_told : List D → Option SV) : FE :=
  Zb 0
noncomputable def Za6 (r_law_told : List D → Option SV) : FS :=
  seqF (ifS (Zr (binF eqY (binF ixX (Zb 0) (Za (.int 0))) (Za (.str "signs")))) (retF (binF ixX (Zb 0) (Za (.int 1)))) (Zbs)) (seqF (ifS (Zr (binF eqY (binF ixX (Zb 0) (Za (.int 0))) (Za (.str "field")))) (seqF (forF (anyI (binF ixX (Zb 0) (Za (.int 1)))) (Zg 3) (Zb6 r_law_told)) (retF (Za .non))) (Zbs)) (seqF (ifS (Zr (binF eqY (binF ixX (Zb 0) (Za (.int 0))) (Za (.str "hands")))) (seqF (ifS (Zr (binF inZ (binF ixX (Zb 0) (Za (.int 1))) (Zb 2))) (retF (Zch 3 Za7 (Zc (binF ixX (Zb 2) (binF ixX (Zb 0) (Za (.int 1)))) (Zc (binF ixX (Zb 0) (Za (.int 2))) (Zc (binF ixX (Zb 0) (Za (.int 3))) (Zi)))))) (Zbs)) (retF (bmDF "dict" Zjz (Zb 1) (Zl (binF ixX (Zb 0) (Za (.int 1))) (Zl (Za .non) (Zt)))))) (Zbs)) (seqF (setF 4 (Zdm [.own, .cap 1, .cap 2, .acc] 3 (anyI (binF ixX (Zb 0) (Za (.int 1)))) (Zg 0) (Za9) (Zee r_law_told))) (seqF (forF (rngI (Zc (Zb7 lenD (Zc (Zb 4) Zi)) Zi)) (Zg 5) (Za8 r_law_told)) (retF (bmF "str" Zcg (Za (.str "")) (Zc (Zdm [.own, .acc] 1 (anyI (Zb 4)) (Zg 0) ((Zfy r_law_told)) (Zfz r_law_told)) Zi)))))))
noncomputable def Zn : Nat → List D → Option SV
  | 0 => fun _ => none
  | n + 1 => Zc0 (Za6 (Zn n)) 6
noncomputable def Zcx : List D → Option SV := Zn 12
noncomputable def Ziq : FE :=
  Zch 3 Zcx (Zc (Zb 0) (Zc (Zb 1) (Zc (Zb 2) (Zi))))
noncomputable def Zpp : FT :=
  Zr (binF Zk4 (Zb 0) (Za .non))
noncomputable def Zpq : FE :=
  Zb 0
noncomputable def Zir : FE :=
  Zch 3 Zcx (Zc (Zb 0) (Zc (Zli) (Zc (Zli) (Zi))))
noncomputable def Zpr : FT :=
  Zr (binF Zk4 (Zb 0) (Za .non))
noncomputable def Zps : FE :=
  Zb 0
noncomputable def Zsb : FS :=
  seqF (setF 1 (Zch 1 Zc1 (Zc (Zch 2 Zaw (Zc (Zb 0) (Zc (Za (.int 0)) (Zi)))) (Zi)))) (seqF (setF 2 (Zch 2 Zbl (Zc (Zb 1) (Zc (slF slD (Zb 0) (Zhb (Za (.int 2))) (Zhb (Za (.int 32)))) (Zi))))) (seqF (Zk0 (Zf5 2 (Zcb (Zg 3) (Zcb (Zg 4) (Zgp)))) (Zch 2 Zcm (Zc (Zb 1) (Zc (Zch 2 Zaw (Zc (Zb 0) (Zc (Za (.int 1)) (Zi)))) (Zi))))) (seqF (setF 5 (Zdm [.own, .cap 3, .cap 4, .acc] 3 (anyI (Zb 2)) (Zg 0) (Za9) Ziq)) (seqF (setF 6 (bmF "str" Zcg (Za (.str "")) (Zc (Zdm [.own, .acc] 1 (anyI (Zb 5)) (Zg 0) (Zpp) Zpq) Zi))) (seqF (setF 7 (Zb7 Zrr (Zc (Zb 3) Zi))) (seqF (setF 8 (Zch 2 Zhv (Zc (Zb 2) (Zc (Zb 7) (Zi))))) (seqF (ifS (orF (notF (Zr (unF (isiD "str") (Zb 8)))) (orF (Zr (binF neY (Zb 8) (Zb 6))) (Zr (binF neY (Zb 7) (Zb 3))))) (retF (Za (.bl false))) (Zbs)) (seqF (setF 5 (Zdm [.own, .acc] 1 (anyI (Zb 2)) (Zg 0) (Za9) Zir)) (retF (binF eqY (Zch 2 Zhv (Zc (Zb 2) (Zc (Zli) (Zi)))) (bmF "str" Zcg (Za (.str "")) (Zc (Zdm [.own, .acc] 1 (anyI (Zb 5)) (Zg 0) (Zpr) Zps) Zi))))))))))))
noncomputable def Zis : List D → Option SV := Zc0 Zsb 9
end Gen
namespace Gen
open PySem PySem.Spec PyProof.Rows L2 DL
structure Txt (K : PySem.W.Frag) (mg : Str → Option Value) (tLETTERS : Tok) (tMOST_GIVENS : Tok) (tMOST_HANDS : Tok) (tWORD_LENGTH : Tok) (flaw_numbers flaw_names flaw_template flaw_hands flaw_hands_text flaw_fields ftold_field ftold_hand ftold_hands fis_all_of fis_text_of fread_hand fread_hands ftold_names ftold_group ftold_piece ffill flaw_cell_at flaw_short flaw_told flaw aNoHands : Addr) : Prop where
  x_NoHands : mg "NoHands" = some (.ref aNoHands)
  n_NoHands : Zev K "NoHands" aNoHands
  ty_NoHands : PySem.W.typeIn K (.ref aNoHands) = some (.type "type")
  ic_NoHands : PySem.W.isClsIn K aNoHands = true
  be_NoHands : PySem.W.mroIn K aNoHands (.type "BaseException") = some true
  h_NoHands_NoHands : PySem.W.mroIn K aNoHands (.ref aNoHands) = some true
  z_all : mg "all" = none
  z_dict : mg "dict" = none
  z_int : mg "int" = none
  z_isinstance : mg "isinstance" = none
  z_len : mg "len" = none
  z_range : mg "range" = none
  z_str : mg "str" = none
  z_tuple : mg "tuple" = none
  c_LETTERS : mg "LETTERS" = some (.str "ABCDEFGHIJKLMNOPQRSTUVWXYZabcdefghijklmnopqrstuvwxyz" tLETTERS)
  c_MOST_GIVENS : mg "MOST_GIVENS" = some (.int 4 tMOST_GIVENS)
  c_MOST_HANDS : mg "MOST_HANDS" = some (.int 6 tMOST_HANDS)
  c_WORD_LENGTH : mg "WORD_LENGTH" = some (.int 15 tWORD_LENGTH)
  m_law_numbers : mg "_law_numbers" = some (.ref flaw_numbers)
  k_law_numbers : PySem.W.keepIn K (.ref flaw_numbers) = true
  m_law_names : mg "_law_names" = some (.ref flaw_names)
  k_law_names : PySem.W.keepIn K (.ref flaw_names) = true
  m_law_template : mg "_law_template" = some (.ref flaw_template)
  k_law_template : PySem.W.keepIn K (.ref flaw_template) = true
  m_law_hands : mg "_law_hands" = some (.ref flaw_hands)
  k_law_hands : PySem.W.keepIn K (.ref flaw_hands) = true
  m_law_hands_text : mg "_law_hands_text" = some (.ref flaw_hands_text)
  k_law_hands_text : PySem.W.keepIn K (.ref flaw_hands_text) = true
  m_law_fields : mg "_law_fields" = some (.ref flaw_fields)
  k_law_fields : PySem.W.keepIn K (.ref flaw_fields) = true
  m_told_field : mg "told_field" = some (.ref ftold_field)
  k_told_field : PySem.W.keepIn K (.ref ftold_field) = true
  m_told_hand : mg "told_hand" = some (.ref ftold_hand)
  k_told_hand : PySem.W.keepIn K (.ref ftold_hand) = true
  m_told_hands : mg "told_hands" = some (.ref ftold_hands)
  k_told_hands : PySem.W.keepIn K (.ref ftold_hands) = true
  m_is_all_of : mg "is_all_of" = some (.ref fis_all_of)
  k_is_all_of : PySem.W.keepIn K (.ref fis_all_of) = true
  m_is_text_of : mg "is_text_of" = some (.ref fis_text_of)
  k_is_text_of : PySem.W.keepIn K (.ref fis_text_of) = true
  m_read_hand : mg "read_hand" = some (.ref fread_hand)
  k_read_hand : PySem.W.keepIn K (.ref fread_hand) = true
  m_read_hands : mg "read_hands" = some (.ref fread_hands)
  k_read_hands : PySem.W.keepIn K (.ref fread_hands) = true
  m_told_names : mg "told_names" = some (.ref ftold_names)
  k_told_names : PySem.W.keepIn K (.ref ftold_names) = true
  m_told_group : mg "told_group" = some (.ref ftold_group)
  k_told_group : PySem.W.keepIn K (.ref ftold_group) = true
  m_told_piece : mg "told_piece" = some (.ref ftold_piece)
  k_told_piece : PySem.W.keepIn K (.ref ftold_piece) = true
  m_fill : mg "fill" = some (.ref ffill)
  k_fill : PySem.W.keepIn K (.ref ffill) = true
  m_law_cell_at : mg "_law_cell_at" = some (.ref flaw_cell_at)
  k_law_cell_at : PySem.W.keepIn K (.ref flaw_cell_at) = true
  m_law_short : mg "_law_short" = some (.ref flaw_short)
  k_law_short : PySem.W.keepIn K (.ref flaw_short) = true
  m_law_told : mg "_law_told" = some (.ref flaw_told)
  k_law_told : PySem.W.keepIn K (.ref flaw_told) = true
  m_law : mg "law" = some (.ref flaw)
  k_law : PySem.W.keepIn K (.ref flaw) = true
section
variable {P : Program} {w : World} {K : PySem.W.Frag} {mg : Str → Option Value} {base : Heap} {tLETTERS : Tok} {tMOST_GIVENS : Tok} {tMOST_HANDS : Tok} {tWORD_LENGTH : Tok} {flaw_numbers flaw_names flaw_template flaw_hands flaw_hands_text flaw_fields ftold_field ftold_hand ftold_hands fis_all_of fis_text_of fread_hand fread_hands ftold_names ftold_group ftold_piece ffill flaw_cell_at flaw_short flaw_told flaw aNoHands : Addr}
theorem Zbo : FnScope ["_law_cell", "_law_many", "_law_found", "_law_number", "_law_k"] ["_law_cell", "_law_many"] (Zh Za3) := ⟨rfl, rfl, rfl, by decide +kernel, rfl, by decide +kernel, by decide +kernel⟩
theorem Zhc {fd : FuncData} (F : Fun K "_law_numbers" "_law_numbers" Za3 flaw_numbers fd) (T : Txt K mg tLETTERS tMOST_GIVENS tMOST_HANDS tWORD_LENGTH flaw_numbers flaw_names flaw_template flaw_hands flaw_hands_text flaw_fields ftold_field ftold_hand ftold_hands fis_all_of fis_text_of fread_hand fread_hands ftold_names ftold_group ftold_piece ffill flaw_cell_at flaw_short flaw_told flaw aNoHands) :
    FnOk P w K mg base CX0 1 flaw_numbers fd ["_law_cell", "_law_many"] (spOf K 2 Zab) := by
  refine F.ok Zbo (fun vs H Q E h => Z9 h) (fun cdv A outer s H vs Q E hr h => ?_)
  obtain ⟨F0, h⟩ := Zaa (N := ["_law_cell", "_law_many", "_law_found", "_law_number", "_law_k"]) (f := Zct) h
  have hu := Zdh hr
  have hv := hr.units
  refine ⟨Zo (ent H F0 : Ent K) Zct, ?_, h⟩
  exact (@Zf _ _ _ _ _ _ (@Zb8 _ _ _ _ _ 2 _ _ Zbo.nd (@Ze8 _ _ _ _ _ Zcs) (by rfl) (by first | exact Or.inl rfl | exact Or.inr rfl) (by rfl) (by first | exact .inl rfl | exact .inr rfl)) (@Zf _ _ _ _ _ _ (@Zb8 _ _ _ _ _ 3 _ _ Zbo.nd (@Zc4 _ _ _ _ _ _ _ (Zd 0) Zk) (by rfl) (by first | exact Or.inl rfl | exact Or.inr rfl) (by rfl) (by first | exact .inl rfl | exact .inr rfl)) (@Zf _ _ _ _ _ _ (@Zf6 _ _ _ _ _ _ _ _ _ PassesOwn.never rfl (@Zk9 _ _ _ _ _ _ _ T.z_range (Zd 1) (by rfl) (by rfl)) (@Z8 _ _ _ 4 _ Zbo.nd (by rfl) (by first | exact Or.inl rfl | exact Or.inr rfl) (by first | exact .inl rfl | exact .inr rfl)) (@Zf _ _ _ _ _ _ (@Zb8 _ _ _ _ _ 3 _ _ Zbo.nd (@Zc4 _ _ _ _ _ _ _ (@Zta _ _ _ _ _ _ _ (@Zcc _ _ _ _ _ _ _ (@Zcc _ _ _ _ _ _ _ (Zd 3) (Zd 4)) Zk) Zk) Zk) (by rfl) (by first | exact Or.inl rfl | exact Or.inr rfl) (by rfl) (by first | exact .inl rfl | exact .inr rfl)) (@Zj _ _ _ _ (@Znd _ _ _ _ _ 2 _ _ _ _ (Zd 3) (by rfl) (by first | exact Or.inl rfl | exact Or.inr (Or.inl rfl) | exact Or.inr (Or.inr rfl)) (by decide) (by decide) (by rfl) (by rfl) (by rfl) (by rfl) (by rfl) (by rfl)))) (by intro _; rfl)) (@Zj _ _ _ _ (@Zam _ _ _ _ _ (Zd 2))))))
theorem Zad : FnScope ["_law_cell", "_law_letters", "_law_some", "_law_many", "_law_at", "_law_names_here", "_law_turn", "_law_name", "_law_k"] ["_law_cell"] (Zh Zbw) := ⟨rfl, rfl, rfl, by decide +kernel, rfl, by decide +kernel, by decide +kernel⟩
theorem Zkb {fd : FuncData} (F : Fun K "_law_names" "_law_names" Zbw flaw_names fd) (T : Txt K mg tLETTERS tMOST_GIVENS tMOST_HANDS tWORD_LENGTH flaw_numbers flaw_names flaw_template flaw_hands flaw_hands_text flaw_fields ftold_field ftold_hand ftold_hands fis_all_of fis_text_of fread_hand fread_hands ftold_names ftold_group ftold_piece ffill flaw_cell_at flaw_short flaw_told flaw aNoHands) {fd_law_numbers : FuncData} (G_law_numbers : FnOk P w K mg base CX0 1 flaw_numbers fd_law_numbers ["_law_cell", "_law_many"] (spOf K 2 Zab)) (B_law_numbers : Zay K fd_law_numbers ["_law_cell", "_law_many"] []) :
    FnOk P w K mg base CX0 2 flaw_names fd ["_law_cell"] (spOf K 1 Zc1) := by
  refine F.ok Zad (fun vs H Q E h => Z9 h) (fun cdv A outer s H vs Q E hr h => ?_)
  obtain ⟨F0, h⟩ := Zaa (N := ["_law_cell", "_law_letters", "_law_some", "_law_many", "_law_at", "_law_names_here", "_law_turn", "_law_name", "_law_k"]) (f := Zds) h
  have hu := Zdh hr
  have hv := hr.units
  refine ⟨Zo (ent H F0 : Ent K) Zds, ?_, h⟩
  exact (@Zf _ _ _ _ _ _ (@Zb8 _ _ _ _ _ 1 _ _ Zad.nd Zag (by rfl) (by first | exact Or.inl rfl | exact Or.inr rfl) (by rfl) (by first | exact .inl rfl | exact .inr rfl)) (@Zf _ _ _ _ _ _ (@Zb8 _ _ _ _ _ 2 _ _ Zad.nd (@Za0 _ _ _ _ _ _ _ _ _ _ _ _ _ _ G_law_numbers (hr.mono (by decide)) T.m_law_numbers T.k_law_numbers B_law_numbers (@Zm _ _ _ _ _ _ (Zd 0) (@Zm _ _ _ _ _ _ Zk Zba (by rfl)) (by rfl)) (by rfl) (by decide) (by rfl) (by rfl)) (by rfl) (by first | exact Or.inl rfl | exact Or.inr rfl) (by rfl) (by first | exact .inl rfl | exact .inr rfl)) (@Zf _ _ _ _ _ _ (@Zb8 _ _ _ _ _ 3 _ _ Zad.nd (@Zcc _ _ _ _ _ _ _ Zk (@Zc4 _ _ _ _ _ _ _ (@Zu _ _ _ _ _ _ _ hu (Zd 2) Zk (by intro _ _; rfl)) Zk)) (by rfl) (by first | exact Or.inl rfl | exact Or.inr rfl) (by rfl) (by first | exact .inl rfl | exact .inr rfl)) (@Zf _ _ _ _ _ _ (@Zb8 _ _ _ _ _ 4 _ _ Zad.nd (@Zc4 _ _ _ _ _ _ _ (@Zu _ _ _ _ _ _ _ hu (Zd 2) Zk (by intro _ _; rfl)) (Zd 3)) (by rfl) (by first | exact Or.inl rfl | exact Or.inr rfl) (by rfl) (by first | exact .inl rfl | exact .inr rfl)) (@Zf _ _ _ _ _ _ (@Zb8 _ _ _ _ _ 5 _ _ Zad.nd (@Ze8 _ _ _ _ _ Zcs) (by rfl) (by first | exact Or.inl rfl | exact Or.inr rfl) (by rfl) (by first | exact .inl rfl | exact .inr rfl)) (@Zf _ _ _ _ _ _ (@Zf6 _ _ _ _ _ _ _ _ _ PassesOwn.never rfl (@Zk9 _ _ _ _ _ _ _ T.z_range Zk (by rfl) (by rfl)) (@Z8 _ _ _ 6 _ Zad.nd (by rfl) (by first | exact Or.inl rfl | exact Or.inr rfl) (by first | exact .inl rfl | exact .inr rfl)) (@Zf _ _ _ _ _ _ (@Zb8 _ _ _ _ _ 7 _ _ Zad.nd Zag (by rfl) (by first | exact Or.inl rfl | exact Or.inr rfl) (by rfl) (by first | exact .inl rfl | exact .inr rfl)) (@Zf _ _ _ _ _ _ (@Zf6 _ _ _ _ _ _ _ _ _ PassesOwn.never rfl (@Zk9 _ _ _ _ _ _ _ T.z_range (Zd 3) (by rfl) (by rfl)) (@Z8 _ _ _ 8 _ Zad.nd (by rfl) (by first | exact Or.inl rfl | exact Or.inr rfl) (by first | exact .inl rfl | exact .inr rfl)) (@Zj _ _ _ _ (@Zb8 _ _ _ _ _ 7 _ _ Zad.nd (@Zcc _ _ _ _ _ _ _ (Zd 7) (@Zu _ _ _ _ _ _ _ hu (Zd 1) (@Zc4 _ _ _ _ _ _ _ (@Zcc _ _ _ _ _ _ _ (@Zu _ _ _ _ _ _ _ hu (Zd 2) (Zd 8) (by intro _ _; rfl)) (@Zta _ _ _ _ _ _ _ (Zd 6) (@Zx6 _ _ _ _ _ _ T.z_int (@Zyf _ _ _ _ _ _ _ hv (Zd 8) (Zd 4)) (by rfl) (by rfl) (by rfl)))) Zk) (by intro _ _; rfl))) (by rfl) (by first | exact Or.inl rfl | exact Or.inr rfl) (by rfl) (by first | exact .inl rfl | exact .inr rfl))) (by intro _; rfl)) (@Zj _ _ _ _ (@Znd _ _ _ _ _ 5 _ _ _ _ (Zd 7) (by rfl) (by first | exact Or.inl rfl | exact Or.inr (Or.inl rfl) | exact Or.inr (Or.inr rfl)) (by decide) (by decide) (by rfl) (by rfl) (by rfl) (by rfl) (by rfl) (by rfl))))) (by intro _; rfl)) (@Zj _ _ _ _ (@Zam _ _ _ _ _ (Zd 5)))))))))
theorem Zaf : FnScope ["_law_names_here", "_law_cells", "_law_stack", "_law_cell", "_law_rest", "_law_within", "_law_told_here"] ["_law_names_here", "_law_cells"] (Zh Zan) := ⟨rfl, rfl, rfl, by decide +kernel, rfl, by decide +kernel, by decide +kernel⟩
theorem Zg4 {fd : FuncData} (F : Fun K "_law_template" "_law_template" Zan flaw_template fd) (T : Txt K mg tLETTERS tMOST_GIVENS tMOST_HANDS tWORD_LENGTH flaw_numbers flaw_names flaw_template flaw_hands flaw_hands_text flaw_fields ftold_field ftold_hand ftold_hands fis_all_of fis_text_of fread_hand fread_hands ftold_names ftold_group ftold_piece ffill flaw_cell_at flaw_short flaw_told flaw aNoHands) :
    FnOk P w K mg base CX0 1 flaw_template fd ["_law_names_here", "_law_cells"] (spOf K 2 Zbl) := by
  refine F.ok Zaf (fun vs H Q E h => Z9 h) (fun cdv A outer s H vs Q E hr h => ?_)
  obtain ⟨F0, h⟩ := Zaa (N := ["_law_names_here", "_law_cells", "_law_stack", "_law_cell", "_law_rest", "_law_within", "_law_told_here"]) (f := Zcj) h
  have hu := Zdh hr
  have hv := hr.units
  refine ⟨Zo (ent H F0 : Ent K) Zcj, ?_, h⟩
  exact (@Zf _ _ _ _ _ _ (@Zb8 _ _ _ _ _ 2 _ _ Zaf.nd Zyw (by rfl) (by first | exact Or.inl rfl | exact Or.inr rfl) (by rfl) (by first | exact .inl rfl | exact .inr rfl)) (@Zf _ _ _ _ _ _ (@Zf6 _ _ _ _ _ _ _ _ _ PassesOwn.never rfl (@Zc5 _ _ _ _ _ (Zd 1)) (@Z8 _ _ _ 3 _ Zaf.nd (by rfl) (by first | exact Or.inl rfl | exact Or.inr rfl) (by first | exact .inl rfl | exact .inr rfl)) (@Zf _ _ _ _ _ _ (@Zb8 _ _ _ _ _ 4 _ _ Zaf.nd (@Zgt _ _ _ _ _ _ _ (Zd 3) Zk) (by rfl) (by first | exact Or.inl rfl | exact Or.inr rfl) (by rfl) (by first | exact .inl rfl | exact .inr rfl)) (@Zj _ _ _ _ (@s_if _ _ _ _ _ _ _ _ _ (@PW.pt _ _ _ (@Zrf _ _ _ _ _ _ _ _ (@Zen _ _ _ _ _ _ _ hv (@Zc4 _ _ _ _ _ _ _ (Zd 3) Zk) Zk) (@Zl7 _ _ _ _ _ (@t_lt _ _ _ _ _ _ _ (@Zpj _ _ _ _ 2 _ T.z_len (@Zgz _ 2 _ _ (by rfl) (by first | exact Or.inl rfl | exact Or.inr (Or.inl rfl) | exact Or.inr (Or.inr rfl)) (by decide) (by decide)) (by rfl) (by rfl) (by rfl)) Zk)))) (@Zj _ _ _ _ (@Zyx _ _ _ 2 _ _ _ _ _ (by rfl) (by first | exact Or.inl rfl | exact Or.inr (Or.inl rfl) | exact Or.inr (Or.inr rfl)) (by decide) (by decide) (by rfl) (by rfl) (by rfl) (by rfl) (by rfl) (by rfl))) (@Zj _ _ _ _ (@s_if _ _ _ _ _ _ _ _ _ (@PW.pt _ _ _ (@Zrf _ _ _ _ _ _ _ _ (@Zen _ _ _ _ _ _ _ hv (@Zc4 _ _ _ _ _ _ _ (Zd 3) Zk) Zk) (@Zl7 _ _ _ _ _ (@t_gt _ _ _ _ _ _ _ (@Zpj _ _ _ _ 2 _ T.z_len (@Zgz _ 2 _ _ (by rfl) (by first | exact Or.inl rfl | exact Or.inr (Or.inl rfl) | exact Or.inr (Or.inr rfl)) (by decide) (by decide)) (by rfl) (by rfl) (by rfl)) Zk)))) (@Zf _ _ _ _ _ _ (@Ztg _ _ _ 5 2 _ _ _ _ _ _ Zaf.nd (by rfl) (by first | exact Or.inl rfl | exact Or.inr (Or.inl rfl) | exact Or.inr (Or.inr rfl)) (by decide) (by decide) (by rfl) (by rfl) (by rfl) (by first | exact Or.inl rfl | exact Or.inr rfl) (by rfl) (by first | exact .inl rfl | exact .inr rfl)) (@Zj _ _ _ _ (@s_if _ _ _ _ _ _ _ _ _ (@t_gt _ _ _ _ _ _ _ (@Zgu _ _ _ _ _ _ T.z_len (Zd 5) (by rfl) (by rfl) (by rfl)) Zk) (@Zj _ _ _ _ (@Zd9 _ _ _ _ _ _ 2 _ _ (@Zlm _ _ _ _ _ _ _ (@Zgz _ 2 _ _ (by rfl) (by first | exact Or.inl rfl | exact Or.inr (Or.inl rfl) | exact Or.inr (Or.inr rfl)) (by decide) (by decide))) (@Zju _ _ _ _ _ _ (@Zaz _ _ _ _ _ _ Zag (@Zaz _ _ _ _ _ _ (@Zh9 _ _ _ _ _ _ T.z_tuple (Zd 5) (by rfl) (by rfl) (by rfl)) Zcs (by rfl)) (by rfl))) (by rfl) (by rfl) (by rfl) (by rfl) (by rfl) (by rfl))) Zai))) (@Zj _ _ _ _ (@s_if _ _ _ _ _ _ _ _ _ (@PW.pt _ _ _ (@Zrf _ _ _ _ _ _ _ _ (@Zen _ _ _ _ _ _ _ hv (@Zc4 _ _ _ _ _ _ _ (Zd 3) Zk) Zk) (@Zl7 _ _ _ _ _ (@PW.pt _ _ _ (@w_or _ _ _ _ _ _ _ _ (@Zen _ _ _ _ _ _ _ hv (@Zr7 _ _ _ _ 2 _ T.z_len (@Zlm _ _ _ _ _ _ _ (@Zgz _ 2 _ _ (by rfl) (by first | exact Or.inl rfl | exact Or.inr (Or.inl rfl) | exact Or.inr (Or.inr rfl)) (by decide) (by decide))) (by rfl) (by rfl) (by rfl)) Zk) (@Zx5 _ _ _ _ _ (@Zru _ _ _ _ _ _ _ hv (@Zu _ _ _ _ _ _ _ hu (@Zr8 _ _ _ _ 2 _ _ _ (@Zlm _ _ _ _ _ _ _ (@Zgz _ 2 _ _ (by rfl) (by first | exact Or.inl rfl | exact Or.inr (Or.inl rfl) | exact Or.inr (Or.inr rfl)) (by decide) (by decide)))) Zk (by intro _ _; rfl)) Zag))))))) (@Zj _ _ _ _ (@Zd9 _ _ _ _ _ _ 2 _ _ (@Zlm _ _ _ _ _ _ _ (@Zgz _ 2 _ _ (by rfl) (by first | exact Or.inl rfl | exact Or.inr (Or.inl rfl) | exact Or.inr (Or.inr rfl)) (by decide) (by decide))) (@Zju _ _ _ _ _ _ (@Zaz _ _ _ _ _ _ Zag (@Zaz _ _ _ _ _ _ (@Zu _ _ _ _ _ _ _ hu (@Ze8 _ _ _ _ _ (@Zgy _ _ _ _ [("; p. ", _, _), ("a", _, _), (": (x) ", _, _), ("=", _, _)] Zcs)) (@Zc4 _ _ _ _ _ _ _ (Zd 4) Zk) (by intro _ _; rfl)) Zcs (by rfl)) (by rfl))) (by rfl) (by rfl) (by rfl) (by rfl) (by rfl) (by rfl))) (@Zj _ _ _ _ (@s_if _ _ _ _ _ _ _ _ _ (@Zen _ _ _ _ _ _ _ hv (@Zc4 _ _ _ _ _ _ _ (Zd 3) Zk) Zk) (@Zj _ _ _ _ (@Zd9 _ _ _ _ _ _ 2 _ _ (@Zlm _ _ _ _ _ _ _ (@Zgz _ 2 _ _ (by rfl) (by first | exact Or.inl rfl | exact Or.inr (Or.inl rfl) | exact Or.inr (Or.inr rfl)) (by decide) (by decide))) (@Zju _ _ _ _ _ _ (@Zaz _ _ _ _ _ _ Zag (@Zaz _ _ _ _ _ _ (@Zu _ _ _ _ _ _ _ hu (Zd 0) (@Zc4 _ _ _ _ _ _ _ (Zd 4) Zk) (by intro _ _; rfl)) (@Zaz _ _ _ _ _ _ (@Zcc _ _ _ _ _ _ _ Zk (@Zc4 _ _ _ _ _ _ _ (@Zgt _ _ _ _ _ _ _ (Zd 4) Zk) Zk)) (@Zaz _ _ _ _ _ _ (@Zc4 _ _ _ _ _ _ _ (@Zgt _ _ _ _ _ _ _ (Zd 4) Zk) Zk) Zcs (by rfl)) (by rfl)) (by rfl)) (by rfl))) (by rfl) (by rfl) (by rfl) (by rfl) (by rfl) (by rfl))) (@Zf _ _ _ _ _ _ (@Zck _ _ _ 6 _ _ _ _ _ _ _ _ _ _ _ _ _ _ _ rfl (Z3 (N' := ["_law_k", "_law_names_here", "_law_rest", ".acc"]) (src := [.own, .cap 0, .cap 4, .acc]) (by rfl) (by rfl) (by rfl) (by rfl) (by rfl) (by rfl)) (Zd7 3 (by rfl) (by rfl)) (by decide) (@Zk9 _ _ _ _ _ _ _ T.z_range (@Zcc _ _ _ _ _ _ _ Zk (@Zc4 _ _ _ _ _ _ _ (@Zgt _ _ _ _ _ _ _ (Zd 4) Zk) Zk)) (by rfl) (by rfl)) (fun _ _ _ _ => @xg _ _ _ (fun _ => (@Z8 _ _ _ 0 _ (show (["_law_k", "_law_names_here", "_law_rest", ".acc"] : List Str).Nodup by decide +kernel) (by rfl) (by first | exact Or.inl rfl | exact Or.inr rfl) (by first | exact .inl rfl | exact .inr rfl)))) (fun _ _ _ _ => xt0) (fun _ _ _ _ => @xe _ _ _ (fun _ => (@Zu _ _ _ _ _ _ _ hu (Zd 1) (@Zc4 _ _ _ _ _ _ _ (@Zgt _ _ _ _ _ _ _ (Zd 2) (@Zcc _ _ _ _ _ _ _ (Zd 0) Zk)) Zk) (by intro _ _; rfl)))) Zaf.nd (by rfl) (by rfl) (by rfl) (by intro _; rfl)) (@Zj _ _ _ _ (@Zd9 _ _ _ _ _ _ 2 _ _ (@Zlm _ _ _ _ _ _ _ (@Zgz _ 2 _ _ (by rfl) (by first | exact Or.inl rfl | exact Or.inr (Or.inl rfl) | exact Or.inr (Or.inr rfl)) (by decide) (by decide))) (@Zju _ _ _ _ _ _ (@Zaz _ _ _ _ _ _ Zag (@Zaz _ _ _ _ _ _ (@Zh9 _ _ _ _ _ _ T.z_tuple (Zd 6) (by rfl) (by rfl) (by rfl)) Zcs (by rfl)) (by rfl))) (by rfl) (by rfl) (by rfl) (by rfl) (by rfl) (by rfl))))))))))))) (by intro _; rfl)) (@Zf _ _ _ _ _ _ (@Zuw _ _ _ _ FUEL _ _ _ PassesOwn.never (@t_gt _ _ _ _ _ _ _ (@Zpj _ _ _ _ 2 _ T.z_len (@Zgz _ 2 _ _ (by rfl) (by first | exact Or.inl rfl | exact Or.inr (Or.inl rfl) | exact Or.inr (Or.inr rfl)) (by decide) (by decide)) (by rfl) (by rfl) (by rfl)) Zk) (@Zf _ _ _ _ _ _ (@Ztg _ _ _ 5 2 _ _ _ _ _ _ Zaf.nd (by rfl) (by first | exact Or.inl rfl | exact Or.inr (Or.inl rfl) | exact Or.inr (Or.inr rfl)) (by decide) (by decide) (by rfl) (by rfl) (by rfl) (by first | exact Or.inl rfl | exact Or.inr rfl) (by rfl) (by first | exact .inl rfl | exact .inr rfl)) (@Zj _ _ _ _ (@s_if _ _ _ _ _ _ _ _ _ (@t_gt _ _ _ _ _ _ _ (@Zgu _ _ _ _ _ _ T.z_len (Zd 5) (by rfl) (by rfl) (by rfl)) Zk) (@Zj _ _ _ _ (@Zd9 _ _ _ _ _ _ 2 _ _ (@Zlm _ _ _ _ _ _ _ (@Zgz _ 2 _ _ (by rfl) (by first | exact Or.inl rfl | exact Or.inr (Or.inl rfl) | exact Or.inr (Or.inr rfl)) (by decide) (by decide))) (@Zju _ _ _ _ _ _ (@Zaz _ _ _ _ _ _ Zag (@Zaz _ _ _ _ _ _ (@Zh9 _ _ _ _ _ _ T.z_tuple (Zd 5) (by rfl) (by rfl) (by rfl)) Zcs (by rfl)) (by rfl))) (by rfl) (by rfl) (by rfl) (by rfl) (by rfl) (by rfl))) Zai)))) (@Zj _ _ _ _ (@Zam _ _ _ _ _ (@Zpk _ _ _ _ 2 _ _ _ _ T.z_tuple (@Zgz _ 2 _ _ (by rfl) (by first | exact Or.inl rfl | exact Or.inr (Or.inl rfl) | exact Or.inr (Or.inr rfl)) (by decide) (by decide)) (by rfl) (by rfl) (by rfl)))))))
theorem Zdf : FnScope ["_law_cell", "_law_hands_here", "_law_number", "_law_givens"] ["_law_cell"] (Zh Zbx) := ⟨rfl, rfl, rfl, by decide +kernel, rfl, by decide +kernel, by decide +kernel⟩
theorem Zkc {fd : FuncData} (F : Fun K "_law_hands" "_law_hands" Zbx flaw_hands fd) (T : Txt K mg tLETTERS tMOST_GIVENS tMOST_HANDS tWORD_LENGTH flaw_numbers flaw_names flaw_template flaw_hands flaw_hands_text flaw_fields ftold_field ftold_hand ftold_hands fis_all_of fis_text_of fread_hand fread_hands ftold_names ftold_group ftold_piece ffill flaw_cell_at flaw_short flaw_told flaw aNoHands) {fd_law_numbers : FuncData} (G_law_numbers : FnOk P w K mg base CX0 1 flaw_numbers fd_law_numbers ["_law_cell", "_law_many"] (spOf K 2 Zab)) (B_law_numbers : Zay K fd_law_numbers ["_law_cell", "_law_many"] []) :
    FnOk P w K mg base CX0 2 flaw_hands fd ["_law_cell"] (spOf K 1 Zc2) := by
  refine F.ok Zdf (fun vs H Q E h => Z9 h) (fun cdv A outer s H vs Q E hr h => ?_)
  obtain ⟨F0, h⟩ := Zaa (N := ["_law_cell", "_law_hands_here", "_law_number", "_law_givens"]) (f := Zdt) h
  have hu := Zdh hr
  have hv := hr.units
  refine ⟨Zo (ent H F0 : Ent K) Zdt, ?_, h⟩
  exact (@Zf _ _ _ _ _ _ (@Zb8 _ _ _ _ _ 1 _ _ Zdf.nd (@Ze8 _ _ _ _ _ Zcs) (by rfl) (by first | exact Or.inl rfl | exact Or.inr rfl) (by rfl) (by first | exact .inl rfl | exact .inr rfl)) (@Zf _ _ _ _ _ _ (@Zf6 _ _ _ _ _ _ _ _ _ PassesOwn.never rfl (@Zc5 _ _ _ _ _ (@Za0 _ _ _ _ _ _ _ _ _ _ _ _ _ _ G_law_numbers (hr.mono (by decide)) T.m_law_numbers T.k_law_numbers B_law_numbers (@Zm _ _ _ _ _ _ (Zd 0) (@Zm _ _ _ _ _ _ (@Zcc _ _ _ _ _ _ _ Zk (@Zc4 _ _ _ _ _ _ _ (Zd 0) Zk)) Zba (by rfl)) (by rfl)) (by rfl) (by decide) (by rfl) (by rfl))) (@Z8 _ _ _ 2 _ Zdf.nd (by rfl) (by first | exact Or.inl rfl | exact Or.inr rfl) (by first | exact .inl rfl | exact .inr rfl)) (@Zf _ _ _ _ _ _ (@Zck _ _ _ 3 _ _ _ _ _ _ _ _ _ _ _ _ _ _ _ rfl (Z3 (N' := ["_law_k", "_law_number", ".acc"]) (src := [.own, .cap 2, .acc]) (by rfl) (by rfl) (by rfl) (by rfl) (by rfl) (by rfl)) (Zd7 2 (by rfl) (by rfl)) (by decide) (@Zk9 _ _ _ _ _ _ _ T.z_range (@Zc4 _ _ _ _ _ _ _ (Zd 2) Zk) (by rfl) (by rfl)) (fun _ _ _ _ => @xg _ _ _ (fun _ => (@Z8 _ _ _ 0 _ (show (["_law_k", "_law_number", ".acc"] : List Str).Nodup by decide +kernel) (by rfl) (by first | exact Or.inl rfl | exact Or.inr rfl) (by first | exact .inl rfl | exact .inr rfl)))) (fun _ _ _ _ => xt0) (fun _ _ _ _ => @xe _ _ _ (fun _ => (@Zu _ _ _ _ _ _ _ hu (@Ze8 _ _ _ _ _ (@Zgy _ _ _ _ [("Ann", _, _), ("Bo", _, _), ("c", _, _)] Zcs)) (@Zc4 _ _ _ _ _ _ _ (@Zgt _ _ _ _ _ _ _ (Zd 1) (@Zcc _ _ _ _ _ _ _ (Zd 0) Zk)) Zk) (by intro _ _; rfl)))) Zdf.nd (by rfl) (by rfl) (by rfl) (by intro _; rfl)) (@Zj _ _ _ _ (@Znd _ _ _ _ _ 1 _ _ _ _ (@Zju _ _ _ _ _ _ (@Zaz _ _ _ _ _ _ (@Zu _ _ _ _ _ _ _ hu (@Ze8 _ _ _ _ _ (@Zgy _ _ _ _ [("Lee", _, _), ("Kim", _, _), ("Ng", _, _)] Zcs)) (@Zc4 _ _ _ _ _ _ _ (@Zgt _ _ _ _ _ _ _ (Zd 2) Zk) Zk) (by intro _ _; rfl)) (@Zaz _ _ _ _ _ _ (Zd 3) Zcs (by rfl)) (by rfl))) (by rfl) (by first | exact Or.inl rfl | exact Or.inr (Or.inl rfl) | exact Or.inr (Or.inr rfl)) (by decide) (by decide) (by rfl) (by rfl) (by rfl) (by rfl) (by rfl) (by rfl)))) (by intro _; rfl)) (@Zj _ _ _ _ (@Zam _ _ _ _ _ (Zd 1)))))
theorem Zbi : FnScope ["_law_hands_here", "_law_texts", "_law_family", "_law_givens"] ["_law_hands_here"] (Zh Zae) := ⟨rfl, rfl, rfl, by decide +kernel, rfl, by decide +kernel, by decide +kernel⟩
theorem Zfp {fd : FuncData} (F : Fun K "_law_hands_text" "_law_hands_text" Zae flaw_hands_text fd) (T : Txt K mg tLETTERS tMOST_GIVENS tMOST_HANDS tWORD_LENGTH flaw_numbers flaw_names flaw_template flaw_hands flaw_hands_text flaw_fields ftold_field ftold_hand ftold_hands fis_all_of fis_text_of fread_hand fread_hands ftold_names ftold_group ftold_piece ffill flaw_cell_at flaw_short flaw_told flaw aNoHands) :
    FnOk P w K mg base CX0 1 flaw_hands_text fd ["_law_hands_here"] (spOf K 1 Za2) := by
  refine F.ok Zbi (fun vs H Q E h => Z9 h) (fun cdv A outer s H vs Q E hr h => ?_)
  obtain ⟨F0, h⟩ := Zaa (N := ["_law_hands_here", "_law_texts", "_law_family", "_law_givens"]) (f := Zbq) h
  have hu := Zdh hr
  have hv := hr.units
  refine ⟨Zo (ent H F0 : Ent K) Zbq, ?_, h⟩
  exact (@Zf _ _ _ _ _ _ (@Zb8 _ _ _ _ _ 1 _ _ Zbi.nd (@Ze8 _ _ _ _ _ Zcs) (by rfl) (by first | exact Or.inl rfl | exact Or.inr rfl) (by rfl) (by first | exact .inl rfl | exact .inr rfl)) (@Zf _ _ _ _ _ _ (@Zf6 _ _ _ _ _ _ _ _ _ PassesOwn.never rfl (@Zc5 _ _ _ _ _ (Zd 0)) (@Zuv _ _ _ _ _ _ _ rfl (@Zfl _ _ _ _ _ _ (@Z8 _ _ _ 2 _ Zbi.nd (by rfl) (by first | exact Or.inl rfl | exact Or.inr rfl) (by first | exact .inl rfl | exact .inr rfl)) (@Zfl _ _ _ _ _ _ (@Z8 _ _ _ 3 _ Zbi.nd (by rfl) (by first | exact Or.inl rfl | exact Or.inr rfl) (by first | exact .inl rfl | exact .inr rfl)) Zos (by rfl)) (by rfl)) (by rfl) (by rfl)) (@Zj _ _ _ _ (@s_if _ _ _ _ _ _ _ _ _ (@Zen _ _ _ _ _ _ _ hv (Zd 3) (@Ze8 _ _ _ _ _ Zcs)) (@Zj _ _ _ _ (@Znd _ _ _ _ _ 1 _ _ _ _ (Zd 2) (by rfl) (by first | exact Or.inl rfl | exact Or.inr (Or.inl rfl) | exact Or.inr (Or.inr rfl)) (by decide) (by decide) (by rfl) (by rfl) (by rfl) (by rfl) (by rfl) (by rfl))) (@Zj _ _ _ _ (@Znd _ _ _ _ _ 1 _ _ _ _ (@Zcc _ _ _ _ _ _ _ (@Zcc _ _ _ _ _ _ _ (Zd 2) Zag) (@Zbt _ _ _ _ _ _ _ _ Zag (Zd 3) (by rfl) (by rfl) (by rfl) (by rfl) (by rfl))) (by rfl) (by first | exact Or.inl rfl | exact Or.inr (Or.inl rfl) | exact Or.inr (Or.inr rfl)) (by decide) (by decide) (by rfl) (by rfl) (by rfl) (by rfl) (by rfl) (by rfl))))) (by intro _; rfl)) (@Zj _ _ _ _ (@Zam _ _ _ _ _ (@Zbt _ _ _ _ _ _ _ _ Zag (Zd 1) (by rfl) (by rfl) (by rfl) (by rfl) (by rfl))))))
theorem Zax : FnScope ["_law_names_here", "_law_cell", "_law_fields_here", "_law_hands_here", "_law_some", "_law_k", "_law_texts"] ["_law_names_here", "_law_cell"] (Zh Zbb) := ⟨rfl, rfl, rfl, by decide +kernel, rfl, by decide +kernel, by decide +kernel⟩
theorem Zit {fd : FuncData} (F : Fun K "_law_fields" "_law_fields" Zbb flaw_fields fd) (T : Txt K mg tLETTERS tMOST_GIVENS tMOST_HANDS tWORD_LENGTH flaw_numbers flaw_names flaw_template flaw_hands flaw_hands_text flaw_fields ftold_field ftold_hand ftold_hands fis_all_of fis_text_of fread_hand fread_hands ftold_names ftold_group ftold_piece ffill flaw_cell_at flaw_short flaw_told flaw aNoHands) {fd_law_numbers : FuncData} (G_law_numbers : FnOk P w K mg base CX0 1 flaw_numbers fd_law_numbers ["_law_cell", "_law_many"] (spOf K 2 Zab)) (B_law_numbers : Zay K fd_law_numbers ["_law_cell", "_law_many"] []) {fd_law_hands : FuncData} (G_law_hands : FnOk P w K mg base CX0 2 flaw_hands fd_law_hands ["_law_cell"] (spOf K 1 Zc2)) (B_law_hands : Zay K fd_law_hands ["_law_cell"] []) {fd_law_hands_text : FuncData} (G_law_hands_text : FnOk P w K mg base CX0 1 flaw_hands_text fd_law_hands_text ["_law_hands_here"] (spOf K 1 Za2)) (B_law_hands_text : Zay K fd_law_hands_text ["_law_hands_here"] []) :
    FnOk P w K mg base CX0 3 flaw_fields fd ["_law_names_here", "_law_cell"] (spOf K 2 Zcm) := by
  refine F.ok Zax (fun vs H Q E h => Z9 h) (fun cdv A outer s H vs Q E hr h => ?_)
  obtain ⟨F0, h⟩ := Zaa (N := ["_law_names_here", "_law_cell", "_law_fields_here", "_law_hands_here", "_law_some", "_law_k", "_law_texts"]) (f := Zda) h
  have hu := Zdh hr
  have hv := hr.units
  refine ⟨Zo (ent H F0 : Ent K) Zda, ?_, h⟩
  exact (@Zf _ _ _ _ _ _ (@Zb8 _ _ _ _ _ 2 _ _ Zax.nd Zgw (by rfl) (by first | exact Or.inl rfl | exact Or.inr rfl) (by rfl) (by first | exact .inl rfl | exact .inr rfl)) (@Zf _ _ _ _ _ _ (@Zb8 _ _ _ _ _ 3 _ _ Zax.nd Zgw (by rfl) (by first | exact Or.inl rfl | exact Or.inr rfl) (by rfl) (by first | exact .inl rfl | exact .inr rfl)) (@Zf _ _ _ _ _ _ (@Zb8 _ _ _ _ _ 4 _ _ Zax.nd (@Za0 _ _ _ _ _ _ _ _ _ _ _ _ _ _ G_law_numbers (hr.mono (by decide)) T.m_law_numbers T.k_law_numbers B_law_numbers (@Zm _ _ _ _ _ _ (Zd 1) (@Zm _ _ _ _ _ _ Zk Zba (by rfl)) (by rfl)) (by rfl) (by decide) (by rfl) (by rfl)) (by rfl) (by first | exact Or.inl rfl | exact Or.inr rfl) (by rfl) (by first | exact .inl rfl | exact .inr rfl)) (@Zf _ _ _ _ _ _ (@Zf6 _ _ _ _ _ _ _ _ _ PassesOwn.never rfl (@Zk9 _ _ _ _ _ _ _ T.z_range Zk (by rfl) (by rfl)) (@Z8 _ _ _ 5 _ Zax.nd (by rfl) (by first | exact Or.inl rfl | exact Or.inr rfl) (by first | exact .inl rfl | exact .inr rfl)) (@Zf _ _ _ _ _ _ (@s_if _ _ _ _ _ _ _ _ _ (@t_gt _ _ _ _ _ _ _ (@Zc4 _ _ _ _ _ _ _ (@Zu _ _ _ _ _ _ _ hu (Zd 4) (Zd 5) (by intro _ _; rfl)) Zk) Zk) (@Zf _ _ _ _ _ _ (@Zb8 _ _ _ _ _ 6 _ _ Zax.nd (@Ze8 _ _ _ _ _ (@Zgy _ _ _ _ [("Lee, Ann & ", _, _), ("2001", _, _), ("A b's (x)", _, _), ("Lee,Ann", _, _), ("Roe & Sons Ltd.", _, _), ("The House, 12", _, _)] Zcs)) (by rfl) (by first | exact Or.inl rfl | exact Or.inr rfl) (by rfl) (by first | exact .inl rfl | exact .inr rfl)) (@Zf _ _ _ _ _ _ (@Zb8 _ _ _ _ _ 6 _ _ Zax.nd (@Zcc _ _ _ _ _ _ _ (Zd 6) (@Ze8 _ _ _ _ _ (@Zgy _ _ _ _ [("Abcdefghijklmnop", _, _), ("Lee, A B C D E", _, _), ("A & B & C & D & E & F & G", _, _)] Zcs))) (by rfl) (by first | exact Or.inl rfl | exact Or.inr rfl) (by rfl) (by first | exact .inl rfl | exact .inr rfl)) (@Zj _ _ _ _ (@Zu6 _ _ _ _ _ _ _ 2 _ _ _ hu (@Zu _ _ _ _ _ _ _ hu (Zd 0) (Zd 5) (by intro _ _; rfl)) (@Zu _ _ _ _ _ _ _ hu (Zd 6) (@Zc4 _ _ _ _ _ _ _ (@Zu _ _ _ _ _ _ _ hu (Zd 4) (@Zcc _ _ _ _ _ _ _ Zk (Zd 5)) (by intro _ _; rfl)) Zk) (by intro _ _; rfl)) (by rfl) (by first | exact Or.inl rfl | exact Or.inr (Or.inl rfl) | exact Or.inr (Or.inr rfl)) (by decide) (by decide) (by rfl))))) Zai) (@Zj _ _ _ _ (@s_if _ _ _ _ _ _ _ _ _ (@t_gt _ _ _ _ _ _ _ (@Zc4 _ _ _ _ _ _ _ (@Zu _ _ _ _ _ _ _ hu (Zd 4) (Zd 5) (by intro _ _; rfl)) Zk) Zk) (@Zf _ _ _ _ _ _ (@Zu6 _ _ _ _ _ _ _ 3 _ _ _ hu (@Zu _ _ _ _ _ _ _ hu (Zd 0) (Zd 5) (by intro _ _; rfl)) (@Za0 _ _ _ _ _ _ _ _ _ _ _ _ _ _ G_law_hands (hr.mono (by decide)) T.m_law_hands T.k_law_hands B_law_hands (@Zm _ _ _ _ _ _ (@Zu _ _ _ _ _ _ _ hu (Zd 4) (@Zcc _ _ _ _ _ _ _ Zk (Zd 5)) (by intro _ _; rfl)) Zba (by rfl)) (by rfl) (by decide) (by rfl) (by rfl)) (by rfl) (by first | exact Or.inl rfl | exact Or.inr (Or.inl rfl) | exact Or.inr (Or.inr rfl)) (by decide) (by decide) (by rfl)) (@Zj _ _ _ _ (@Zu6 _ _ _ _ _ _ _ 2 _ _ _ hu (@Zu _ _ _ _ _ _ _ hu (Zd 0) (Zd 5) (by intro _ _; rfl)) (@Za0 _ _ _ _ _ _ _ _ _ _ _ _ _ _ G_law_hands_text (hr.mono (by decide)) T.m_law_hands_text T.k_law_hands_text B_law_hands_text (@Zm _ _ _ _ _ _ (@Zu _ _ _ _ _ _ _ hu (Zd 3) (@Zu _ _ _ _ _ _ _ hu (Zd 0) (Zd 5) (by intro _ _; rfl)) (by intro _ _; rfl)) Zba (by rfl)) (by rfl) (by decide) (by rfl) (by rfl)) (by rfl) (by first | exact Or.inl rfl | exact Or.inr (Or.inl rfl) | exact Or.inr (Or.inr rfl)) (by decide) (by decide) (by rfl)))) Zai))) (by intro _; rfl)) (@Zj _ _ _ _ (@Zam _ _ _ _ _ (@Zju _ _ _ _ _ _ (@Zaz _ _ _ _ _ _ (Zd 2) (@Zaz _ _ _ _ _ _ (Zd 3) Zcs (by rfl)) (by rfl)))))))))
theorem Zfb : FnScope ["names", "texts", "name"] ["names", "texts"] (Zh Zbc) := ⟨rfl, rfl, rfl, by decide +kernel, rfl, by decide +kernel, by decide +kernel⟩
theorem Ziu {fd : FuncData} (F : Fun K "told_field" "told_field" Zbc ftold_field fd) (T : Txt K mg tLETTERS tMOST_GIVENS tMOST_HANDS tWORD_LENGTH flaw_numbers flaw_names flaw_template flaw_hands flaw_hands_text flaw_fields ftold_field ftold_hand ftold_hands fis_all_of fis_text_of fread_hand fread_hands ftold_names ftold_group ftold_piece ffill flaw_cell_at flaw_short flaw_told flaw aNoHands) :
    FnOk P w K mg base CX0 1 ftold_field fd ["names", "texts"] (spOf K 2 Zb2) := by
  refine F.ok Zfb (fun vs H Q E h => Z9 h) (fun cdv A outer s H vs Q E hr h => ?_)
  obtain ⟨F0, h⟩ := Zaa (N := ["names", "texts", "name"]) (f := Zdb) h
  have hu := Zdh hr
  have hv := hr.units
  refine ⟨Zo (ent H F0 : Ent K) Zdb, ?_, h⟩
  exact (@Zf _ _ _ _ _ _ (@Zf6 _ _ _ _ _ _ _ _ _ PassesOwn.never rfl (@Zc5 _ _ _ _ _ (Zd 0)) (@Z8 _ _ _ 2 _ Zfb.nd (by rfl) (by first | exact Or.inl rfl | exact Or.inr rfl) (by first | exact .inl rfl | exact .inr rfl)) (@Zj _ _ _ _ (@s_if _ _ _ _ _ _ _ _ _ (@Zrv _ _ _ _ _ _ _ hu (Zd 2) (Zd 1) (by rfl)) (@Zj _ _ _ _ (@Zam _ _ _ _ _ (@Zu _ _ _ _ _ _ _ hu (Zd 1) (Zd 2) (by intro _ _; rfl)))) Zai)) (by intro _; rfl)) (@Zj _ _ _ _ (@Zam _ _ _ _ _ Zgs)))
theorem Zkd : FnScope ["hand", "way"] ["hand", "way"] (Zh Zby) := ⟨rfl, rfl, rfl, by decide +kernel, rfl, by decide +kernel, by decide +kernel⟩
theorem Zke {fd : FuncData} (F : Fun K "told_hand" "told_hand" Zby ftold_hand fd) (T : Txt K mg tLETTERS tMOST_GIVENS tMOST_HANDS tWORD_LENGTH flaw_numbers flaw_names flaw_template flaw_hands flaw_hands_text flaw_fields ftold_field ftold_hand ftold_hands fis_all_of fis_text_of fread_hand fread_hands ftold_names ftold_group ftold_piece ffill flaw_cell_at flaw_short flaw_told flaw aNoHands) :
    FnOk P w K mg base CX0 1 ftold_hand fd ["hand", "way"] (spOf K 2 Zbv) := by
  refine F.ok Zkd (fun vs H Q E h => Z9 h) (fun cdv A outer s H vs Q E hr h => ?_)
  obtain ⟨F0, h⟩ := Zaa (N := ["hand", "way"]) (f := Zez) h
  have hu := Zdh hr
  have hv := hr.units
  refine ⟨Zo (ent H F0 : Ent K) Zez, ?_, h⟩
  exact (@Zf _ _ _ _ _ _ (@s_if _ _ _ _ _ _ _ _ _ (@Zen _ _ _ _ _ _ _ hv (Zd 1) Zk) (@Zj _ _ _ _ (@Zam _ _ _ _ _ (@Zu _ _ _ _ _ _ _ hu (Zd 0) Zk (by intro _ _; rfl)))) Zai) (@Zf _ _ _ _ _ _ (@s_if _ _ _ _ _ _ _ _ _ (@Zen _ _ _ _ _ _ _ hv (Zd 1) Zk) (@Zj _ _ _ _ (@Zam _ _ _ _ _ (@Zcc _ _ _ _ _ _ _ (@Zbt _ _ _ _ _ _ _ _ Zag (@Zfv _ _ _ _ _ _ _ _ _ _ _ _ _ _ _ rfl (Z3 (N' := ["given", ".acc"]) (src := [.own, .acc]) (by rfl) (by rfl) (by rfl) (by rfl) (by rfl) (by rfl)) (Zd7 1 (by rfl) (by rfl)) (by decide) (@Zc5 _ _ _ _ _ (@Zu _ _ _ _ _ _ _ hu (Zd 0) Zk (by intro _ _; rfl))) (fun _ _ _ _ => @xg _ _ _ (fun _ => (@Z8 _ _ _ 0 _ (show (["given", ".acc"] : List Str).Nodup by decide +kernel) (by rfl) (by first | exact Or.inl rfl | exact Or.inr rfl) (by first | exact .inl rfl | exact .inr rfl)))) (fun _ _ _ _ => xt0) (fun _ _ _ _ => @xe _ _ _ (fun _ => (@Zcc _ _ _ _ _ _ _ (@e_sl _ _ _ _ _ _ _ _ _ _ (Zd 0) Zhl (@Zfu _ _ _ _ Zk)) Zag))) (by intro _; rfl)) (by rfl) (by rfl) (by rfl) (by rfl) (by rfl)) (@Zu _ _ _ _ _ _ _ hu (Zd 0) Zk (by intro _ _; rfl))))) Zai) (@Zj _ _ _ _ (@Zam _ _ _ _ _ (@Zcc _ _ _ _ _ _ _ (@Zbt _ _ _ _ _ _ _ _ Zag (@Zfv _ _ _ _ _ _ _ _ _ _ _ _ _ _ _ rfl (Z3 (N' := ["given", ".acc"]) (src := [.own, .acc]) (by rfl) (by rfl) (by rfl) (by rfl) (by rfl) (by rfl)) (Zd7 1 (by rfl) (by rfl)) (by decide) (@Zc5 _ _ _ _ _ (@Zu _ _ _ _ _ _ _ hu (Zd 0) Zk (by intro _ _; rfl))) (fun _ _ _ _ => @xg _ _ _ (fun _ => (@Z8 _ _ _ 0 _ (show (["given", ".acc"] : List Str).Nodup by decide +kernel) (by rfl) (by first | exact Or.inl rfl | exact Or.inr rfl) (by first | exact .inl rfl | exact .inr rfl)))) (fun _ _ _ _ => xt0) (fun _ _ _ _ => @xe _ _ _ (fun _ => (@Zcc _ _ _ _ _ _ _ (Zd 0) Zag))) (by intro _; rfl)) (by rfl) (by rfl) (by rfl) (by rfl) (by rfl)) (@Zu _ _ _ _ _ _ _ hu (Zd 0) Zk (by intro _ _; rfl)))))))
theorem Zfc : FnScope ["hands", "many", "way", "texts"] ["hands", "many", "way"] (Zh Zbd) := ⟨rfl, rfl, rfl, by decide +kernel, rfl, by decide +kernel, by decide +kernel⟩
theorem Ziv {fd : FuncData} (F : Fun K "told_hands" "told_hands" Zbd ftold_hands fd) (T : Txt K mg tLETTERS tMOST_GIVENS tMOST_HANDS tWORD_LENGTH flaw_numbers flaw_names flaw_template flaw_hands flaw_hands_text flaw_fields ftold_field ftold_hand ftold_hands fis_all_of fis_text_of fread_hand fread_hands ftold_names ftold_group ftold_piece ffill flaw_cell_at flaw_short flaw_told flaw aNoHands) {fd_told_hand : FuncData} (G_told_hand : FnOk P w K mg base CX0 1 ftold_hand fd_told_hand ["hand", "way"] (spOf K 2 Zbv)) (B_told_hand : Zay K fd_told_hand ["hand", "way"] []) :
    FnOk P w K mg base CX0 2 ftold_hands fd ["hands", "many", "way"] (spOf K 3 Zao) := by
  refine F.ok Zfc (fun vs H Q E h => Z9 h) (fun cdv A outer s H vs Q E hr h => ?_)
  obtain ⟨F0, h⟩ := Zaa (N := ["hands", "many", "way", "texts"]) (f := Zb3) h
  have hu := Zdh hr
  have hv := hr.units
  refine ⟨Zo (ent H F0 : Ent K) Zb3, ?_, h⟩
  exact (@Zf _ _ _ _ _ _ (@Zck _ _ _ 3 _ _ _ _ _ _ _ _ _ _ _ _ _ _ _ rfl (Z3 (N' := ["hand", "way", ".acc"]) (src := [.own, .cap 2, .acc]) (by rfl) (by rfl) (by rfl) (by rfl) (by rfl) (by rfl)) (Zd7 2 (by rfl) (by rfl)) (by decide) (@Zc5 _ _ _ _ _ (Zd 0)) (fun _ _ _ _ => @xg _ _ _ (fun _ => (@Z8 _ _ _ 0 _ (show (["hand", "way", ".acc"] : List Str).Nodup by decide +kernel) (by rfl) (by first | exact Or.inl rfl | exact Or.inr rfl) (by first | exact .inl rfl | exact .inr rfl)))) (fun _ _ _ _ => xt0) (fun _ _ _ _ => @xe _ _ _ (fun _ => (@Za0 _ _ _ _ _ _ _ _ _ _ _ _ _ _ G_told_hand (hr.mono (by decide)) T.m_told_hand T.k_told_hand B_told_hand (@Zm _ _ _ _ _ _ (Zd 0) (@Zm _ _ _ _ _ _ (Zd 1) Zba (by rfl)) (by rfl)) (by rfl) (by decide) (by rfl) (by rfl)))) Zfc.nd (by rfl) (by rfl) (by rfl) (by intro _; rfl)) (@Zf _ _ _ _ _ _ (@s_if _ _ _ _ _ _ _ _ _ (@t_gt _ _ _ _ _ _ _ (@Zgu _ _ _ _ _ _ T.z_len (Zd 3) (by rfl) (by rfl) (by rfl)) (Zd 1)) (@Zj _ _ _ _ (@Zam _ _ _ _ _ (@Zcc _ _ _ _ _ _ _ (@Zbt _ _ _ _ _ _ _ _ Zag (@e_sl _ _ _ _ _ _ _ _ _ _ (Zd 3) Zhl (@Zfu _ _ _ _ (Zd 1))) (by rfl) (by rfl) (by rfl) (by rfl) (by rfl)) Zag))) Zai) (@Zf _ _ _ _ _ _ (@s_if _ _ _ _ _ _ _ _ _ (@t_lt _ _ _ _ _ _ _ (@Zgu _ _ _ _ _ _ T.z_len (Zd 3) (by rfl) (by rfl) (by rfl)) Zk) (@Zj _ _ _ _ (@Zam _ _ _ _ _ (@Zbt _ _ _ _ _ _ _ _ Zag (Zd 3) (by rfl) (by rfl) (by rfl) (by rfl) (by rfl)))) Zai) (@Zj _ _ _ _ (@Zam _ _ _ _ _ (@Zcc _ _ _ _ _ _ _ (@Zcc _ _ _ _ _ _ _ (@Zbt _ _ _ _ _ _ _ _ Zag (@e_sl _ _ _ _ _ _ _ _ _ _ (Zd 3) Zhl (@Zfu _ _ _ _ (@Zrk _ _ _ _ _ Zk))) (by rfl) (by rfl) (by rfl) (by rfl) (by rfl)) Zag) (@Zu _ _ _ _ _ _ _ hu (Zd 3) (@Zrk _ _ _ _ _ Zk) (by intro _ _; rfl))))))))
theorem Zkf : FnScope ["text", "signs"] ["text", "signs"] (Zh Zbz) := ⟨rfl, rfl, rfl, by decide +kernel, rfl, by decide +kernel, by decide +kernel⟩
theorem Zkg {fd : FuncData} (F : Fun K "is_all_of" "is_all_of" Zbz fis_all_of fd) (T : Txt K mg tLETTERS tMOST_GIVENS tMOST_HANDS tWORD_LENGTH flaw_numbers flaw_names flaw_template flaw_hands flaw_hands_text flaw_fields ftold_field ftold_hand ftold_hands fis_all_of fis_text_of fread_hand fread_hands ftold_names ftold_group ftold_piece ffill flaw_cell_at flaw_short flaw_told flaw aNoHands) :
    FnOk P w K mg base CX0 1 fis_all_of fd ["text", "signs"] (spOf K 2 Ze1) := by
  refine F.ok Zkf (fun vs H Q E h => Z9 h) (fun cdv A outer s H vs Q E hr h => ?_)
  obtain ⟨F0, h⟩ := Zaa (N := ["text", "signs"]) (f := Ze0) h
  have hu := Zdh hr
  have hv := hr.units
  refine ⟨Zo (ent H F0 : Ent K) Ze0, ?_, h⟩
  exact (@Zj _ _ _ _ (@Zam _ _ _ _ _ (@Z08 _ _ _ _ _ _ T.z_all (@Zfv _ _ _ _ _ _ _ _ _ _ _ _ _ _ _ rfl (Z3 (N' := ["sign", "signs", ".acc"]) (src := [.own, .cap 1, .acc]) (by rfl) (by rfl) (by rfl) (by rfl) (by rfl) (by rfl)) (Zd7 2 (by rfl) (by rfl)) (by decide) (@Zc5 _ _ _ _ _ (Zd 0)) (fun _ _ _ _ => @xg _ _ _ (fun _ => (@Z8 _ _ _ 0 _ (show (["sign", "signs", ".acc"] : List Str).Nodup by decide +kernel) (by rfl) (by first | exact Or.inl rfl | exact Or.inr rfl) (by first | exact .inl rfl | exact .inr rfl)))) (fun _ _ _ _ => xt0) (fun _ _ _ _ => @xe _ _ _ (fun _ => (@Z1m _ _ _ _ _ _ _ hu (Zd 0) (Zd 1) (by rfl)))) (by intro _; rfl)) (by rfl) (by rfl) (by rfl) (by rfl))))
theorem Ziw : FnScope ["value", "signs", "most"] ["value", "signs", "most"] (Zh Zbe) := ⟨rfl, rfl, rfl, by decide +kernel, rfl, by decide +kernel, by decide +kernel⟩
theorem Zix {fd : FuncData} (F : Fun K "is_text_of" "is_text_of" Zbe fis_text_of fd) (T : Txt K mg tLETTERS tMOST_GIVENS tMOST_HANDS tWORD_LENGTH flaw_numbers flaw_names flaw_template flaw_hands flaw_hands_text flaw_fields ftold_field ftold_hand ftold_hands fis_all_of fis_text_of fread_hand fread_hands ftold_names ftold_group ftold_piece ffill flaw_cell_at flaw_short flaw_told flaw aNoHands) {fd_is_all_of : FuncData} (G_is_all_of : FnOk P w K mg base CX0 1 fis_all_of fd_is_all_of ["text", "signs"] (spOf K 2 Ze1)) (B_is_all_of : Zay K fd_is_all_of ["text", "signs"] []) :
    FnOk P w K mg base CX0 2 fis_text_of fd ["value", "signs", "most"] (spOf K 3 Zed) := by
  refine F.ok Ziw (fun vs H Q E h => Z9 h) (fun cdv A outer s H vs Q E hr h => ?_)
  obtain ⟨F0, h⟩ := Zaa (N := ["value", "signs", "most"]) (f := Zec) h
  have hu := Zdh hr
  have hv := hr.units
  refine ⟨Zo (ent H F0 : Ent K) Zec, ?_, h⟩
  exact (@Zf _ _ _ _ _ _ (@s_if _ _ _ _ _ _ _ _ _ (@Zrg _ _ _ _ _ (@Zrh _ _ _ _ (@Zut _ _ _ _ _ _ _ _ _ T.z_isinstance T.z_str boot_str (Zla _) (Zd 0) (by rfl) (by rfl) (by decide) (by decide) (by rfl) (by rfl) (by rfl)) (by intro _; rfl))) (@Zj _ _ _ _ (@Zam _ _ _ _ _ e_bl)) Zai) (@Zj _ _ _ _ (@Zam _ _ _ _ _ (@Z05 _ _ _ _ _ _ _ _ (@Zuu _ _ _ _ _ _ _ _ _ _ _ _ _ _ _ Zwy p_le Zwy p_le Zk (@Zgu _ _ _ _ _ _ T.z_len (Zd 0) (by rfl) (by rfl) (by rfl)) (Zd 2) (by with_unfolding_all rfl)) (@Z04 _ _ _ _ _ _ (@Za0 _ _ _ _ _ _ _ _ _ _ _ _ _ _ G_is_all_of (hr.mono (by decide)) T.m_is_all_of T.k_is_all_of B_is_all_of (@Zm _ _ _ _ _ _ (Zd 0) (@Zm _ _ _ _ _ _ (Zd 1) Zba (by rfl)) (by rfl)) (by rfl) (by decide) (by rfl) (by rfl)))))))
theorem Zdg : FnScope ["text", "halves", "givens", "word"] ["text"] (Zh Zb0) := ⟨rfl, rfl, rfl, by decide +kernel, rfl, by decide +kernel, by decide +kernel⟩
theorem Zkh {fd : FuncData} (F : Fun K "read_hand" "read_hand" Zb0 fread_hand fd) (T : Txt K mg tLETTERS tMOST_GIVENS tMOST_HANDS tWORD_LENGTH flaw_numbers flaw_names flaw_template flaw_hands flaw_hands_text flaw_fields ftold_field ftold_hand ftold_hands fis_all_of fis_text_of fread_hand fread_hands ftold_names ftold_group ftold_piece ffill flaw_cell_at flaw_short flaw_told flaw aNoHands) (O_NoHands : OwnCls "NoHands" aNoHands VEB "ValueError.__new__" mg base) {fd_is_text_of : FuncData} (G_is_text_of : FnOk P w K mg base CX0 2 fis_text_of fd_is_text_of ["value", "signs", "most"] (spOf K 3 Zed)) (B_is_text_of : Zay K fd_is_text_of ["value", "signs", "most"] []) :
    FnOk P w K mg base (CX1 P w) 3 fread_hand fd ["text"] (spX K 1 Zc3) := by
  refine Fun.okX F Zdg (fun vs H Q E h => Zpa h) (fun cdv A outer s H vs Q E hr h => ?_)
  obtain ⟨F0, h⟩ := Zj3 (N := ["text", "halves", "givens", "word"]) (f := Ze2) h
  have hu := Zdh hr
  have hv := hr.units
  refine ⟨Zo (entX H F0 E : Ent K) Ze2, ?_, h⟩
  exact (@Zf _ _ _ _ _ _ (@Zb8 _ _ _ _ _ 1 _ _ Zdg.nd (@Zlf _ _ _ _ _ _ _ _ (Zd 0) Zag (by rfl) (by rfl) (by rfl) (by rfl) (by rfl)) (by rfl) (by first | exact Or.inl rfl | exact Or.inr rfl) (by rfl) (by first | exact .inl rfl | exact .inr rfl)) (@Zf _ _ _ _ _ _ (@Zb8 _ _ _ _ _ 2 _ _ Zdg.nd (@e_if _ _ _ _ _ _ _ _ _ (@Zen _ _ _ _ _ _ _ hv (@Zu _ _ _ _ _ _ _ hu (Zd 1) Zk (by intro _ _; rfl)) Zag) (@Zow _ _ _ _ _ _ _ _ (@Zu _ _ _ _ _ _ _ hu (Zd 1) Zk (by intro _ _; rfl)) Zag (by rfl) (by rfl) (by rfl) (by rfl) (by rfl)) (@Ze8 _ _ _ _ _ Zcs)) (by rfl) (by first | exact Or.inl rfl | exact Or.inr rfl) (by rfl) (by first | exact .inl rfl | exact .inr rfl)) (@Zf _ _ _ _ _ _ (@s_if _ _ _ _ _ _ _ _ _ (@t_gt _ _ _ _ _ _ _ (@Zgu _ _ _ _ _ _ T.z_len (Zd 2) (by rfl) (by rfl) (by rfl)) (@Zk6 _ _ _ _ _ _ T.c_MOST_GIVENS (by rfl) (by decide))) (@Zj _ _ _ _ (@Zih _ _ _ _ _ _ _ _ _ _ Zd2 rfl O_NoHands T.n_NoHands (by exact fun _ _ _ _ h => h) (by rfl) (by rfl) (by rfl) (by rfl) (by exact ⟨_, _, rfl⟩) (by decide))) Zai) (@Zf _ _ _ _ _ _ (@Zf6 _ _ _ _ _ _ _ _ _ PassesOwn.leaving rfl (@Zc5 _ _ _ _ _ (@Zcc _ _ _ _ _ _ _ (@Ze8 _ _ _ _ _ (@Zaz _ _ _ _ _ _ (@Zu _ _ _ _ _ _ _ hu (Zd 1) Zk (by intro _ _; rfl)) Zcs (by rfl))) (Zd 2))) (@Z8 _ _ _ 3 _ Zdg.nd (by rfl) (by first | exact Or.inl rfl | exact Or.inr rfl) (by first | exact .inl rfl | exact .inr rfl)) (@Zj _ _ _ _ (@s_if _ _ _ _ _ _ _ _ _ (@Zrg _ _ _ _ _ (@Zrh _ _ _ _ (@Za0 _ _ _ _ _ _ _ _ _ _ _ _ _ _ G_is_text_of (hr.mono (by decide)) T.m_is_text_of T.k_is_text_of B_is_text_of (@Zm _ _ _ _ _ _ (Zd 3) (@Zm _ _ _ _ _ _ (@Zus _ _ _ _ _ _ T.c_LETTERS (by rfl) (by decide)) (@Zm _ _ _ _ _ _ (@Zk6 _ _ _ _ _ _ T.c_WORD_LENGTH (by rfl) (by decide)) Zba (by rfl)) (by rfl)) (by rfl)) (by rfl) (by decide) (by rfl) (by rfl)) (by intro _; rfl))) (@Zj _ _ _ _ (@Zih _ _ _ _ _ _ _ _ _ _ Zd2 rfl O_NoHands T.n_NoHands (by exact fun _ _ _ _ h => h) (by rfl) (by rfl) (by rfl) (by rfl) (by exact ⟨_, _, rfl⟩) (by decide))) Zai)) (by intro _; rfl)) (@Zj _ _ _ _ (@Zam _ _ _ _ _ (@Zju _ _ _ _ _ _ (@Zaz _ _ _ _ _ _ (@Zu _ _ _ _ _ _ _ hu (Zd 1) Zk (by intro _ _; rfl)) (@Zaz _ _ _ _ _ _ (@Zh9 _ _ _ _ _ _ T.z_tuple (Zd 2) (by rfl) (by rfl) (by rfl)) Zcs (by rfl)) (by rfl)))))))))
theorem Zfd : FnScope ["text", "parts"] ["text"] (Zh Zbf) := ⟨rfl, rfl, rfl, by decide +kernel, rfl, by decide +kernel, by decide +kernel⟩
theorem Ziy {fd : FuncData} (F : Fun K "read_hands" "read_hands" Zbf fread_hands fd) (T : Txt K mg tLETTERS tMOST_GIVENS tMOST_HANDS tWORD_LENGTH flaw_numbers flaw_names flaw_template flaw_hands flaw_hands_text flaw_fields ftold_field ftold_hand ftold_hands fis_all_of fis_text_of fread_hand fread_hands ftold_names ftold_group ftold_piece ffill flaw_cell_at flaw_short flaw_told flaw aNoHands) (O_NoHands : OwnCls "NoHands" aNoHands VEB "ValueError.__new__" mg base) {fd_read_hand : FuncData} (G_read_hand : FnOk P w K mg base (CX1 P w) 3 fread_hand fd_read_hand ["text"] (spX K 1 Zc3)) (B_read_hand : Zay K fd_read_hand ["text"] []) :
    FnOk P w K mg base (CX1 P w) 4 fread_hands fd ["text"] (spX K 1 Zaj) := by
  refine Fun.okX F Zfd (fun vs H Q E h => Zpa h) (fun cdv A outer s H vs Q E hr h => ?_)
  obtain ⟨F0, h⟩ := Zj3 (N := ["text", "parts"]) (f := Zdc) h
  have hu := Zdh hr
  have hv := hr.units
  refine ⟨Zo (entX H F0 E : Ent K) Zdc, ?_, h⟩
  exact (@Zf _ _ _ _ _ _ (@s_if _ _ _ _ _ _ _ _ _ (@Zrg _ _ _ _ _ (@Zrh _ _ _ _ (@Zut _ _ _ _ _ _ _ _ _ T.z_isinstance T.z_str boot_str (Zla _) (Zd 0) (by rfl) (by rfl) (by decide) (by decide) (by rfl) (by rfl) (by rfl)) (by intro _; rfl))) (@Zj _ _ _ _ (@Zih _ _ _ _ _ _ _ _ _ _ Zd2 rfl O_NoHands T.n_NoHands (by exact fun _ _ _ _ h => h) (by rfl) (by rfl) (by rfl) (by rfl) (by exact ⟨_, _, rfl⟩) (by decide))) Zai) (@Zf _ _ _ _ _ _ (@Zb8 _ _ _ _ _ 1 _ _ Zfd.nd (@Zow _ _ _ _ _ _ _ _ (Zd 0) Zag (by rfl) (by rfl) (by rfl) (by rfl) (by rfl)) (by rfl) (by first | exact Or.inl rfl | exact Or.inr rfl) (by rfl) (by first | exact .inl rfl | exact .inr rfl)) (@Zf _ _ _ _ _ _ (@s_if _ _ _ _ _ _ _ _ _ (@t_gt _ _ _ _ _ _ _ (@Zgu _ _ _ _ _ _ T.z_len (Zd 1) (by rfl) (by rfl) (by rfl)) (@Zk6 _ _ _ _ _ _ T.c_MOST_HANDS (by rfl) (by decide))) (@Zj _ _ _ _ (@Zih _ _ _ _ _ _ _ _ _ _ Zd2 rfl O_NoHands T.n_NoHands (by exact fun _ _ _ _ h => h) (by rfl) (by rfl) (by rfl) (by rfl) (by exact ⟨_, _, rfl⟩) (by decide))) Zai) (@Zj _ _ _ _ (@Zyn _ _ _ _ _ (@Zyp _ _ _ _ _ _ _ _ _ _ _ _ _ _ _ rfl Zni (Z3 (N' := ["part", ".acc"]) (src := [.own, .acc]) (by rfl) (by rfl) (by rfl) (by rfl) (by rfl) (by rfl)) (Zd7 1 (by rfl) (by rfl)) (by decide) (@Zc5 _ _ _ _ _ (Zd 1)) (fun _ _ _ _ => @xg _ _ _ (fun _ => (@Z8 _ _ _ 0 _ (show (["part", ".acc"] : List Str).Nodup by decide +kernel) (by rfl) (by first | exact Or.inl rfl | exact Or.inr rfl) (by first | exact .inl rfl | exact .inr rfl)))) (fun _ _ _ _ => xt0) (fun _ _ _ _ _ _ tq => @xx _ _ _ _ (fun _ zq => (@Ztd _ _ _ _ _ _ _ _ _ _ _ _ _ _ G_read_hand (hr.mono (by decide)) T.m_read_hand T.k_read_hand B_read_hand (Zvl zq tq) (@Zpb _ _ _ _ _ _ (@Ztb _ _ _ _ (Zd 0)) Ztc (by rfl)) (by rfl) (by decide) (by rfl) (by rfl)))) (by rfl) (by rfl) (by rfl) (by intro _; rfl)))))))
theorem Zdw : FnScope ["piece", "texts", "text", "hands"] ["piece", "texts"] (Zh Zbg) := ⟨rfl, rfl, rfl, by decide +kernel, rfl, by decide +kernel, by decide +kernel⟩
theorem Ziz {fd : FuncData} (F : Fun K "told_names" "told_names" Zbg ftold_names fd) (T : Txt K mg tLETTERS tMOST_GIVENS tMOST_HANDS tWORD_LENGTH flaw_numbers flaw_names flaw_template flaw_hands flaw_hands_text flaw_fields ftold_field ftold_hand ftold_hands fis_all_of fis_text_of fread_hand fread_hands ftold_names ftold_group ftold_piece ffill flaw_cell_at flaw_short flaw_told flaw aNoHands) {fd_told_hands : FuncData} (G_told_hands : FnOk P w K mg base CX0 2 ftold_hands fd_told_hands ["hands", "many", "way"] (spOf K 3 Zao)) (B_told_hands : Zay K fd_told_hands ["hands", "many", "way"] []) {fd_read_hands : FuncData} (G_read_hands : FnOk P w K mg base (CX1 P w) 4 fread_hands fd_read_hands ["text"] (spX K 1 Zaj)) (B_read_hands : Zay K fd_read_hands ["text"] []) :
    FnOk P w K mg base CX0 5 ftold_names fd ["piece", "texts"] (spOf K 2 Z4) := by
  refine F.ok Zdw (fun vs H Q E h => Z9 h) (fun cdv A outer s H vs Q E hr h => ?_)
  obtain ⟨F0, h⟩ := Zaa (N := ["piece", "texts", "text", "hands"]) (f := Zb4) h
  have hu := Zdh hr
  have hv := hr.units
  refine ⟨Zo (ent H F0 : Ent K) Zb4, ?_, h⟩
  exact (@Zf _ _ _ _ _ _ (@Zb8 _ _ _ _ _ 2 _ _ Zdw.nd (@Zs6 _ _ _ _ _ _ _ _ _ hu (Zd 1) (@Zaz _ _ _ _ _ _ (@Zu _ _ _ _ _ _ _ hu (Zd 0) Zk (by intro _ _; rfl)) Zcs (by rfl)) (by rfl) (by rfl) (by rfl) (by rfl) (by rfl)) (by rfl) (by first | exact Or.inl rfl | exact Or.inr rfl) (by rfl) (by first | exact .inl rfl | exact .inr rfl)) (@Zf _ _ _ _ _ _ (@s_if _ _ _ _ _ _ _ _ _ (@Zx4 _ _ _ _ _ _ _ (Zd 2) Zgs) (@Zj _ _ _ _ (@Zam _ _ _ _ _ Zgs)) Zai) (@Zf _ _ _ _ _ _ (@Zvm _ _ _ _ _ _ _ _ _ _ _ _ _ _ (fun _ _ _ tq => (@Zj _ _ _ _ (@Zyo _ _ _ _ _ 3 _ _ Zdw.nd (@Ztd _ _ _ _ _ _ _ _ _ _ _ _ _ _ G_read_hands (hr.mono (by decide)) T.m_read_hands T.k_read_hands B_read_hands (tq.pass rfl) (@Zpb _ _ _ _ _ _ (@Ztb _ _ _ _ (Zd 2)) Ztc (by rfl)) (by rfl) (by decide) (by rfl) (by rfl)) (by rfl) (by first | exact Or.inl rfl | exact Or.inr rfl) (by rfl) (by first | exact .inl rfl | exact .inr rfl)))) T.x_NoHands ⟨T.ty_NoHands, T.ic_NoHands, T.be_NoHands⟩ (fun _ => (@Zj _ _ _ _ (@Zam _ _ _ _ _ (Zd 2)))) (Zr1 T.n_NoHands T.h_NoHands_NoHands Zpd) Zpd (by rfl) (by decide) (by rfl) (by rfl) (by rfl)) (@Zj _ _ _ _ (@Zam _ _ _ _ _ (@Za0 _ _ _ _ _ _ _ _ _ _ _ _ _ _ G_told_hands (hr.mono (by decide)) T.m_told_hands T.k_told_hands B_told_hands (@Zm _ _ _ _ _ _ (Zd 3) (@Zm _ _ _ _ _ _ (@Zu _ _ _ _ _ _ _ hu (Zd 0) Zk (by intro _ _; rfl)) (@Zm _ _ _ _ _ _ (@Zu _ _ _ _ _ _ _ hu (Zd 0) Zk (by intro _ _; rfl)) Zba (by rfl)) (by rfl)) (by rfl)) (by rfl) (by decide) (by rfl) (by rfl)))))))
theorem Zfe : FnScope ["pieces", "texts", "told"] ["pieces", "texts"] (Zh Zat) := ⟨rfl, rfl, rfl, by decide +kernel, rfl, by decide +kernel, by decide +kernel⟩
theorem Zff {fd : FuncData} {lv : Nat} {r_told_piece : List D → Option SV} (hlv : 5 ≤ lv) (F : Fun K "told_group" "told_group" Zat ftold_group fd) (T : Txt K mg tLETTERS tMOST_GIVENS tMOST_HANDS tWORD_LENGTH flaw_numbers flaw_names flaw_template flaw_hands flaw_hands_text flaw_fields ftold_field ftold_hand ftold_hands fis_all_of fis_text_of fread_hand fread_hands ftold_names ftold_group ftold_piece ffill flaw_cell_at flaw_short flaw_told flaw aNoHands) {fd_told_piece : FuncData} (G_told_piece : FnOk P w K mg base CX0 (lv) ftold_piece fd_told_piece ["piece", "texts"] (spOf K 2 (r_told_piece))) (B_told_piece : Zay K fd_told_piece ["piece", "texts"] []) :
    FnOk P w K mg base CX0 (lv + 1) ftold_group fd ["pieces", "texts"] (spOf K 2 (Zb5 r_told_piece)) := by
  refine F.ok Zfe (fun vs H Q E h => Z9 h) (fun cdv A outer s H vs Q E hr h => ?_)
  obtain ⟨F0, h⟩ := Zaa (N := ["pieces", "texts", "told"]) (f := (Zdd r_told_piece)) h
  have hu := Zdh hr
  have hv := hr.units
  refine ⟨Zo (ent H F0 : Ent K) (Zdd r_told_piece), ?_, h⟩
  exact (@Zf _ _ _ _ _ _ (@Zck _ _ _ 2 _ _ _ _ _ _ _ _ _ _ _ _ _ _ _ rfl (Z3 (N' := ["piece", "texts", ".acc"]) (src := [.own, .cap 1, .acc]) (by rfl) (by rfl) (by rfl) (by rfl) (by rfl) (by rfl)) (Zd7 2 (by rfl) (by rfl)) (by decide) (@Zc5 _ _ _ _ _ (Zd 0)) (fun _ _ _ _ => @xg _ _ _ (fun _ => (@Z8 _ _ _ 0 _ (show (["piece", "texts", ".acc"] : List Str).Nodup by decide +kernel) (by rfl) (by first | exact Or.inl rfl | exact Or.inr rfl) (by first | exact .inl rfl | exact .inr rfl)))) (fun _ _ _ _ => xt0) (fun _ _ _ _ => @xe _ _ _ (fun _ => (@Za0 _ _ _ _ _ _ _ _ _ _ _ _ _ _ G_told_piece (hr.mono (by omega)) T.m_told_piece T.k_told_piece B_told_piece (@Zm _ _ _ _ _ _ (Zd 0) (@Zm _ _ _ _ _ _ (Zd 1) Zba (by rfl)) (by rfl)) (by rfl) (by decide) (by rfl) (by rfl)))) Zfe.nd (by rfl) (by rfl) (by rfl) (by intro _; rfl)) (@Zf _ _ _ _ _ _ (@s_if _ _ _ _ _ _ _ _ _ (@Zrv _ _ _ _ _ _ _ hu Zgs (Zd 2) (by rfl)) (@Zj _ _ _ _ (@Zam _ _ _ _ _ Zag)) Zai) (@Zj _ _ _ _ (@Zam _ _ _ _ _ (@Zbt _ _ _ _ _ _ _ _ Zag (Zd 2) (by rfl) (by rfl) (by rfl) (by rfl) (by rfl))))))
theorem Zi0 : FnScope ["piece", "texts"] ["piece", "texts"] (Zh Zau) := ⟨rfl, rfl, rfl, by decide +kernel, rfl, by decide +kernel, by decide +kernel⟩
theorem Zi1 {fd : FuncData} {lv : Nat} {r_told_piece : List D → Option SV} (hlv : 5 ≤ lv) (F : Fun K "told_piece" "told_piece" Zau ftold_piece fd) (T : Txt K mg tLETTERS tMOST_GIVENS tMOST_HANDS tWORD_LENGTH flaw_numbers flaw_names flaw_template flaw_hands flaw_hands_text flaw_fields ftold_field ftold_hand ftold_hands fis_all_of fis_text_of fread_hand fread_hands ftold_names ftold_group ftold_piece ffill flaw_cell_at flaw_short flaw_told flaw aNoHands) {fd_told_field : FuncData} (G_told_field : FnOk P w K mg base CX0 1 ftold_field fd_told_field ["names", "texts"] (spOf K 2 Zb2)) (B_told_field : Zay K fd_told_field ["names", "texts"] []) {fd_told_names : FuncData} (G_told_names : FnOk P w K mg base CX0 5 ftold_names fd_told_names ["piece", "texts"] (spOf K 2 Z4)) (B_told_names : Zay K fd_told_names ["piece", "texts"] []) {fd_told_group : FuncData} (G_told_group : FnOk P w K mg base CX0 (lv + 1) ftold_group fd_told_group ["pieces", "texts"] (spOf K 2 (Zb5 r_told_piece))) (B_told_group : Zay K fd_told_group ["pieces", "texts"] []) :
    FnOk P w K mg base CX0 (lv + 2) ftold_piece fd ["piece", "texts"] (spOf K 2 (Zc0 (Zap r_told_piece) 2)) := by
  refine F.ok Zi0 (fun vs H Q E h => Z9 h) (fun cdv A outer s H vs Q E hr h => ?_)
  obtain ⟨F0, h⟩ := Zaa (N := ["piece", "texts"]) (f := (Zap r_told_piece)) h
  have hu := Zdh hr
  have hv := hr.units
  refine ⟨Zo (ent H F0 : Ent K) (Zap r_told_piece), ?_, h⟩
  exact (@Zf _ _ _ _ _ _ (@s_if _ _ _ _ _ _ _ _ _ (@Zen _ _ _ _ _ _ _ hv (@Zu _ _ _ _ _ _ _ hu (Zd 0) Zk (by intro _ _; rfl)) Zag) (@Zj _ _ _ _ (@Zam _ _ _ _ _ (@Zu _ _ _ _ _ _ _ hu (Zd 0) Zk (by intro _ _; rfl)))) Zai) (@Zf _ _ _ _ _ _ (@s_if _ _ _ _ _ _ _ _ _ (@Zen _ _ _ _ _ _ _ hv (@Zu _ _ _ _ _ _ _ hu (Zd 0) Zk (by intro _ _; rfl)) Zag) (@Zj _ _ _ _ (@Zam _ _ _ _ _ (@Za0 _ _ _ _ _ _ _ _ _ _ _ _ _ _ G_told_field (hr.mono (by omega)) T.m_told_field T.k_told_field B_told_field (@Zm _ _ _ _ _ _ (@Zu _ _ _ _ _ _ _ hu (Zd 0) Zk (by intro _ _; rfl)) (@Zm _ _ _ _ _ _ (Zd 1) Zba (by rfl)) (by rfl)) (by rfl) (by decide) (by rfl) (by rfl)))) Zai) (@Zf _ _ _ _ _ _ (@s_if _ _ _ _ _ _ _ _ _ (@Zen _ _ _ _ _ _ _ hv (@Zu _ _ _ _ _ _ _ hu (Zd 0) Zk (by intro _ _; rfl)) Zag) (@Zj _ _ _ _ (@Zam _ _ _ _ _ (@Za0 _ _ _ _ _ _ _ _ _ _ _ _ _ _ G_told_names (hr.mono (by omega)) T.m_told_names T.k_told_names B_told_names (@Zm _ _ _ _ _ _ (Zd 0) (@Zm _ _ _ _ _ _ (Zd 1) Zba (by rfl)) (by rfl)) (by rfl) (by decide) (by rfl) (by rfl)))) Zai) (@Zj _ _ _ _ (@Zam _ _ _ _ _ (@Za0 _ _ _ _ _ _ _ _ _ _ _ _ _ _ G_told_group (hr.mono (by omega)) T.m_told_group T.k_told_group B_told_group (@Zm _ _ _ _ _ _ (@Zu _ _ _ _ _ _ _ hu (Zd 0) Zk (by intro _ _; rfl)) (@Zm _ _ _ _ _ _ (Zd 1) Zba (by rfl)) (by rfl)) (by rfl) (by decide) (by rfl) (by rfl)))))))
theorem Zeq {fd_told_group : FuncData} (F_told_group : Fun K "told_group" "told_group" Zat ftold_group fd_told_group) (B_told_group : Zay K fd_told_group ["pieces", "texts"] []) {fd_told_piece : FuncData} (F_told_piece : Fun K "told_piece" "told_piece" Zau ftold_piece fd_told_piece) (B_told_piece : Zay K fd_told_piece ["piece", "texts"] []) (T : Txt K mg tLETTERS tMOST_GIVENS tMOST_HANDS tWORD_LENGTH flaw_numbers flaw_names flaw_template flaw_hands flaw_hands_text flaw_fields ftold_field ftold_hand ftold_hands fis_all_of fis_text_of fread_hand fread_hands ftold_names ftold_group ftold_piece ffill flaw_cell_at flaw_short flaw_told flaw aNoHands) {fd_told_field : FuncData} (G_told_field : FnOk P w K mg base CX0 1 ftold_field fd_told_field ["names", "texts"] (spOf K 2 Zb2)) (B_told_field : Zay K fd_told_field ["names", "texts"] []) {fd_told_names : FuncData} (G_told_names : FnOk P w K mg base CX0 5 ftold_names fd_told_names ["piece", "texts"] (spOf K 2 Z4)) (B_told_names : Zay K fd_told_names ["piece", "texts"] []) :
    ∀ n : Nat, FnOk P w K mg base CX0 (5 + 2 * n) ftold_piece fd_told_piece ["piece", "texts"] (spOf K 2 (Zq n))
  | 0 => Zj5
  | n + 1 => by
    have G_told_piece := Zeq F_told_group B_told_group F_told_piece B_told_piece T G_told_field B_told_field G_told_names B_told_names n
    have G_told_group := Zff (lv := 5 + 2 * n) (by omega) F_told_group T G_told_piece B_told_piece
    exact (Zi1 (lv := 5 + 2 * n) (by omega) F_told_piece T G_told_field B_told_field G_told_names B_told_names G_told_group B_told_group).mono (by omega)
theorem Zpt : FnScope ["T", "F", "told"] ["T", "F"] (Zh Zfo) := ⟨rfl, rfl, rfl, by decide +kernel, rfl, by decide +kernel, by decide +kernel⟩
theorem Zvs {fd : FuncData} (F : Fun K "fill" "fill" Zfo ffill fd) (T : Txt K mg tLETTERS tMOST_GIVENS tMOST_HANDS tWORD_LENGTH flaw_numbers flaw_names flaw_template flaw_hands flaw_hands_text flaw_fields ftold_field ftold_hand ftold_hands fis_all_of fis_text_of fread_hand fread_hands ftold_names ftold_group ftold_piece ffill flaw_cell_at flaw_short flaw_told flaw aNoHands) {fd_told_piece : FuncData} (G_told_piece : FnOk P w K mg base CX0 29 ftold_piece fd_told_piece ["piece", "texts"] (spOf K 2 Zcn)) (B_told_piece : Zay K fd_told_piece ["piece", "texts"] []) :
    FnOk P w K mg base CX0 30 ffill fd ["T", "F"] (spOf K 2 Zhv) := by
  refine F.ok Zpt (fun vs H Q E h => Z9 h) (fun cdv A outer s H vs Q E hr h => ?_)
  obtain ⟨F0, h⟩ := Zaa (N := ["T", "F", "told"]) (f := Zmr) h
  have hu := Zdh hr
  have hv := hr.units
  refine ⟨Zo (ent H F0 : Ent K) Zmr, ?_, h⟩
  exact (@Zf _ _ _ _ _ _ (@Zck _ _ _ 2 _ _ _ _ _ _ _ _ _ _ _ _ _ _ _ rfl (Z3 (N' := ["piece", "F", ".acc"]) (src := [.own, .cap 1, .acc]) (by rfl) (by rfl) (by rfl) (by rfl) (by rfl) (by rfl)) (Zd7 2 (by rfl) (by rfl)) (by decide) (@Zc5 _ _ _ _ _ (Zd 0)) (fun _ _ _ _ => @xg _ _ _ (fun _ => (@Z8 _ _ _ 0 _ (show (["piece", "F", ".acc"] : List Str).Nodup by decide +kernel) (by rfl) (by first | exact Or.inl rfl | exact Or.inr rfl) (by first | exact .inl rfl | exact .inr rfl)))) (fun _ _ _ _ => xt0) (fun _ _ _ _ => @xe _ _ _ (fun _ => (@Za0 _ _ _ _ _ _ _ _ _ _ _ _ _ _ G_told_piece (hr.mono (by decide)) T.m_told_piece T.k_told_piece B_told_piece (@Zm _ _ _ _ _ _ (Zd 0) (@Zm _ _ _ _ _ _ (Zd 1) Zba (by rfl)) (by rfl)) (by rfl) (by decide) (by rfl) (by rfl)))) Zpt.nd (by rfl) (by rfl) (by rfl) (by intro _; rfl)) (@Zj _ _ _ _ (@Zam _ _ _ _ _ (@Zbt _ _ _ _ _ _ _ _ Zag (@Zfv _ _ _ _ _ _ _ _ _ _ _ _ _ _ _ rfl (Z3 (N' := ["text", ".acc"]) (src := [.own, .acc]) (by rfl) (by rfl) (by rfl) (by rfl) (by rfl) (by rfl)) (Zd7 1 (by rfl) (by rfl)) (by decide) (@Zc5 _ _ _ _ _ (Zd 2)) (fun _ _ _ _ => @xg _ _ _ (fun _ => (@Z8 _ _ _ 0 _ (show (["text", ".acc"] : List Str).Nodup by decide +kernel) (by rfl) (by first | exact Or.inl rfl | exact Or.inr rfl) (by first | exact .inl rfl | exact .inr rfl)))) (fun _ _ _ _ => @xt _ _ _ (fun _ => (@Zl6 _ _ _ _ _ _ _ (Zd 0) Zgs))) (fun _ _ _ _ => @xe _ _ _ (fun _ => (Zd 0))) (by intro _; rfl)) (by rfl) (by rfl) (by rfl) (by rfl) (by rfl)))))
theorem Zhd : FnScope ["_law_script", "_law_k"] ["_law_script", "_law_k"] (Zh Za4) := ⟨rfl, rfl, rfl, by decide +kernel, rfl, by decide +kernel, by decide +kernel⟩
theorem Zhe {fd : FuncData} (F : Fun K "_law_cell_at" "_law_cell_at" Za4 flaw_cell_at fd) (T : Txt K mg tLETTERS tMOST_GIVENS tMOST_HANDS tWORD_LENGTH flaw_numbers flaw_names flaw_template flaw_hands flaw_hands_text flaw_fields ftold_field ftold_hand ftold_hands fis_all_of fis_text_of fread_hand fread_hands ftold_names ftold_group ftold_piece ffill flaw_cell_at flaw_short flaw_told flaw aNoHands) :
    FnOk P w K mg base CX0 1 flaw_cell_at fd ["_law_script", "_law_k"] (spOf K 2 Zaw) := by
  refine F.ok Zhd (fun vs H Q E h => Z9 h) (fun cdv A outer s H vs Q E hr h => ?_)
  obtain ⟨F0, h⟩ := Zaa (N := ["_law_script", "_law_k"]) (f := Zcf) h
  have hu := Zdh hr
  have hv := hr.units
  refine ⟨Zo (ent H F0 : Ent K) Zcf, ?_, h⟩
  exact (@Zf _ _ _ _ _ _ (@s_if _ _ _ _ _ _ _ _ _ (@t_lt _ _ _ _ _ _ _ (Zd 1) (@Zgu _ _ _ _ _ _ T.z_len (Zd 0) (by rfl) (by rfl) (by rfl))) (@Zj _ _ _ _ (@Zam _ _ _ _ _ (@Zu _ _ _ _ _ _ _ hu (Zd 0) (Zd 1) (by intro _ _; rfl)))) Zai) (@Zj _ _ _ _ (@Zam _ _ _ _ _ Zk)))
theorem Zco : FnScope ["_law_hands_here", "_law_many", "_law_sort", "_law_texts", "_law_family", "_law_givens", "_law_ahead"] ["_law_hands_here", "_law_many", "_law_sort"] (Zh Zb1) := ⟨rfl, rfl, rfl, by decide +kernel, rfl, by decide +kernel, by decide +kernel⟩
theorem Zki {fd : FuncData} (F : Fun K "_law_short" "_law_short" Zb1 flaw_short fd) (T : Txt K mg tLETTERS tMOST_GIVENS tMOST_HANDS tWORD_LENGTH flaw_numbers flaw_names flaw_template flaw_hands flaw_hands_text flaw_fields ftold_field ftold_hand ftold_hands fis_all_of fis_text_of fread_hand fread_hands ftold_names ftold_group ftold_piece ffill flaw_cell_at flaw_short flaw_told flaw aNoHands) :
    FnOk P w K mg base CX0 1 flaw_short fd ["_law_hands_here", "_law_many", "_law_sort"] (spOf K 3 Za7) := by
  refine F.ok Zco (fun vs H Q E h => Z9 h) (fun cdv A outer s H vs Q E hr h => ?_)
  obtain ⟨F0, h⟩ := Zaa (N := ["_law_hands_here", "_law_many", "_law_sort", "_law_texts", "_law_family", "_law_givens", "_law_ahead"]) (f := Zci) h
  have hu := Zdh hr
  have hv := hr.units
  refine ⟨Zo (ent H F0 : Ent K) Zci, ?_, h⟩
  exact (@Zf _ _ _ _ _ _ (@Zb8 _ _ _ _ _ 3 _ _ Zco.nd (@Ze8 _ _ _ _ _ Zcs) (by rfl) (by first | exact Or.inl rfl | exact Or.inr rfl) (by rfl) (by first | exact .inl rfl | exact .inr rfl)) (@Zf _ _ _ _ _ _ (@Zf6 _ _ _ _ _ _ _ _ _ PassesOwn.never rfl (@Zc5 _ _ _ _ _ (@e_sl _ _ _ _ _ _ _ _ _ _ (Zd 0) Zhl (@Zfu _ _ _ _ (Zd 1)))) (@Zuv _ _ _ _ _ _ _ rfl (@Zfl _ _ _ _ _ _ (@Z8 _ _ _ 4 _ Zco.nd (by rfl) (by first | exact Or.inl rfl | exact Or.inr rfl) (by first | exact .inl rfl | exact .inr rfl)) (@Zfl _ _ _ _ _ _ (@Z8 _ _ _ 5 _ Zco.nd (by rfl) (by first | exact Or.inl rfl | exact Or.inr rfl) (by first | exact .inl rfl | exact .inr rfl)) Zos (by rfl)) (by rfl)) (by rfl) (by rfl)) (@Zf _ _ _ _ _ _ (@Zb8 _ _ _ _ _ 6 _ _ Zco.nd (@Zbt _ _ _ _ _ _ _ _ Zag (@Zfv _ _ _ _ _ _ _ _ _ _ _ _ _ _ _ rfl (Z3 (N' := ["_law_given", "_law_sort", ".acc"]) (src := [.own, .cap 2, .acc]) (by rfl) (by rfl) (by rfl) (by rfl) (by rfl) (by rfl)) (Zd7 2 (by rfl) (by rfl)) (by decide) (@Zc5 _ _ _ _ _ (Zd 5)) (fun _ _ _ _ => @xg _ _ _ (fun _ => (@Z8 _ _ _ 0 _ (show (["_law_given", "_law_sort", ".acc"] : List Str).Nodup by decide +kernel) (by rfl) (by first | exact Or.inl rfl | exact Or.inr rfl) (by first | exact .inl rfl | exact .inr rfl)))) (fun _ _ _ _ => xt0) (fun _ _ _ _ => @xe _ _ _ (fun _ => (@Zu _ _ _ _ _ _ _ hu (@Ze8 _ _ _ _ _ (@Zaz _ _ _ _ _ _ (@e_sl _ _ _ _ _ _ _ _ _ _ (Zd 0) Zhl (@Zfu _ _ _ _ Zk)) (@Zaz _ _ _ _ _ _ (@Zcc _ _ _ _ _ _ _ (@Zu _ _ _ _ _ _ _ hu (Zd 0) Zk (by intro _ _; rfl)) Zag) (@Zaz _ _ _ _ _ _ (@Zcc _ _ _ _ _ _ _ (Zd 0) Zag) Zcs (by rfl)) (by rfl)) (by rfl))) (Zd 1) (by intro _ _; rfl)))) (by intro _; rfl)) (by rfl) (by rfl) (by rfl) (by rfl) (by rfl)) (by rfl) (by first | exact Or.inl rfl | exact Or.inr rfl) (by rfl) (by first | exact .inl rfl | exact .inr rfl)) (@Zj _ _ _ _ (@Znd _ _ _ _ _ 3 _ _ _ _ (@Zcc _ _ _ _ _ _ _ (Zd 6) (Zd 4)) (by rfl) (by first | exact Or.inl rfl | exact Or.inr (Or.inl rfl) | exact Or.inr (Or.inr rfl)) (by decide) (by decide) (by rfl) (by rfl) (by rfl) (by rfl) (by rfl) (by rfl)))) (by intro _; rfl)) (@Zf _ _ _ _ _ _ (@s_if _ _ _ _ _ _ _ _ _ (@t_gt _ _ _ _ _ _ _ (@Zgu _ _ _ _ _ _ T.z_len (Zd 0) (by rfl) (by rfl) (by rfl)) (Zd 1)) (@Zj _ _ _ _ (@Zam _ _ _ _ _ (@Zcc _ _ _ _ _ _ _ (@Zbt _ _ _ _ _ _ _ _ Zag (Zd 3) (by rfl) (by rfl) (by rfl) (by rfl) (by rfl)) Zag))) Zai) (@Zf _ _ _ _ _ _ (@s_if _ _ _ _ _ _ _ _ _ (@Zen _ _ _ _ _ _ _ hv (@Zgu _ _ _ _ _ _ T.z_len (Zd 3) (by rfl) (by rfl) (by rfl)) Zk) (@Zj _ _ _ _ (@Zam _ _ _ _ _ (@Zu _ _ _ _ _ _ _ hu (Zd 3) Zk (by intro _ _; rfl)))) Zai) (@Zj _ _ _ _ (@Zam _ _ _ _ _ (@Zcc _ _ _ _ _ _ _ (@Zcc _ _ _ _ _ _ _ (@Zbt _ _ _ _ _ _ _ _ Zag (@e_sl _ _ _ _ _ _ _ _ _ _ (Zd 3) Zhl (@Zfu _ _ _ _ (@Zrk _ _ _ _ _ Zk))) (by rfl) (by rfl) (by rfl) (by rfl) (by rfl)) Zag) (@Zu _ _ _ _ _ _ _ hu (Zd 3) (@Zrk _ _ _ _ _ Zk) (by intro _ _; rfl)))))))))
theorem Zdx : FnScope ["_law_piece", "_law_fields_here", "_law_hands_here", "_law_name", "_law_texts", "_law_k"] ["_law_piece", "_law_fields_here", "_law_hands_here"] (Zh Zbu) := ⟨rfl, rfl, rfl, by decide +kernel, rfl, by decide +kernel, by decide +kernel⟩
theorem Zlp {fd : FuncData} {lv : Nat} {r_law_told : List D → Option SV} (hlv : 1 ≤ lv) (F : Fun K "_law_told" "_law_told" Zbu flaw_told fd) (T : Txt K mg tLETTERS tMOST_GIVENS tMOST_HANDS tWORD_LENGTH flaw_numbers flaw_names flaw_template flaw_hands flaw_hands_text flaw_fields ftold_field ftold_hand ftold_hands fis_all_of fis_text_of fread_hand fread_hands ftold_names ftold_group ftold_piece ffill flaw_cell_at flaw_short flaw_told flaw aNoHands) {fd_law_short : FuncData} (G_law_short : FnOk P w K mg base CX0 1 flaw_short fd_law_short ["_law_hands_here", "_law_many", "_law_sort"] (spOf K 3 Za7)) (B_law_short : Zay K fd_law_short ["_law_hands_here", "_law_many", "_law_sort"] []) {fd_law_told : FuncData} (G_law_told : FnOk P w K mg base CX0 (lv) flaw_told fd_law_told ["_law_piece", "_law_fields_here", "_law_hands_here"] (spOf K 3 (r_law_told))) (B_law_told : Zay K fd_law_told ["_law_piece", "_law_fields_here", "_law_hands_here"] []) :
    FnOk P w K mg base CX0 (lv + 1) flaw_told fd ["_law_piece", "_law_fields_here", "_law_hands_here"] (spOf K 3 (Zc0 (Za6 r_law_told) 6)) := by
  refine F.ok Zdx (fun vs H Q E h => Z9 h) (fun cdv A outer s H vs Q E hr h => ?_)
  obtain ⟨F0, h⟩ := Zaa (N := ["_law_piece", "_law_fields_here", "_law_hands_here", "_law_name", "_law_texts", "_law_k"]) (f := (Za6 r_law_told)) h
  have hu := Zdh hr
  have hv := hr.units
  refine ⟨Zo (ent H F0 : Ent K) (Za6 r_law_told), ?_, h⟩
  exact (@Zf _ _ _ _ _ _ (@s_if _ _ _ _ _ _ _ _ _ (@Zen _ _ _ _ _ _ _ hv (@Zu _ _ _ _ _ _ _ hu (Zd 0) Zk (by intro _ _; rfl)) Zag) (@Zj _ _ _ _ (@Zam _ _ _ _ _ (@Zu _ _ _ _ _ _ _ hu (Zd 0) Zk (by intro _ _; rfl)))) Zai) (@Zf _ _ _ _ _ _ (@s_if _ _ _ _ _ _ _ _ _ (@Zen _ _ _ _ _ _ _ hv (@Zu _ _ _ _ _ _ _ hu (Zd 0) Zk (by intro _ _; rfl)) Zag) (@Zf _ _ _ _ _ _ (@Zf6 _ _ _ _ _ _ _ _ _ PassesOwn.never rfl (@Zc5 _ _ _ _ _ (@Zu _ _ _ _ _ _ _ hu (Zd 0) Zk (by intro _ _; rfl))) (@Z8 _ _ _ 3 _ Zdx.nd (by rfl) (by first | exact Or.inl rfl | exact Or.inr rfl) (by first | exact .inl rfl | exact .inr rfl)) (@Zj _ _ _ _ (@s_if _ _ _ _ _ _ _ _ _ (@Zrv _ _ _ _ _ _ _ hu (Zd 3) (Zd 1) (by rfl)) (@Zj _ _ _ _ (@Zam _ _ _ _ _ (@Zu _ _ _ _ _ _ _ hu (Zd 1) (Zd 3) (by intro _ _; rfl)))) Zai)) (by intro _; rfl)) (@Zj _ _ _ _ (@Zam _ _ _ _ _ Zgs))) Zai) (@Zf _ _ _ _ _ _ (@s_if _ _ _ _ _ _ _ _ _ (@Zen _ _ _ _ _ _ _ hv (@Zu _ _ _ _ _ _ _ hu (Zd 0) Zk (by intro _ _; rfl)) Zag) (@Zf _ _ _ _ _ _ (@s_if _ _ _ _ _ _ _ _ _ (@Zrv _ _ _ _ _ _ _ hu (@Zu _ _ _ _ _ _ _ hu (Zd 0) Zk (by intro _ _; rfl)) (Zd 2) (by rfl)) (@Zj _ _ _ _ (@Zam _ _ _ _ _ (@Za0 _ _ _ _ _ _ _ _ _ _ _ _ _ _ G_law_short (hr.mono (by omega)) T.m_law_short T.k_law_short B_law_short (@Zm _ _ _ _ _ _ (@Zu _ _ _ _ _ _ _ hu (Zd 2) (@Zu _ _ _ _ _ _ _ hu (Zd 0) Zk (by intro _ _; rfl)) (by intro _ _; rfl)) (@Zm _ _ _ _ _ _ (@Zu _ _ _ _ _ _ _ hu (Zd 0) Zk (by intro _ _; rfl)) (@Zm _ _ _ _ _ _ (@Zu _ _ _ _ _ _ _ hu (Zd 0) Zk (by intro _ _; rfl)) Zba (by rfl)) (by rfl)) (by rfl)) (by rfl) (by decide) (by rfl) (by rfl)))) Zai) (@Zj _ _ _ _ (@Zam _ _ _ _ _ (@Zs6 _ _ _ _ _ _ _ _ _ hu (Zd 1) (@Zaz _ _ _ _ _ _ (@Zu _ _ _ _ _ _ _ hu (Zd 0) Zk (by intro _ _; rfl)) (@Zaz _ _ _ _ _ _ Zgs Zcs (by rfl)) (by rfl)) (by rfl) (by rfl) (by rfl) (by rfl) (by rfl))))) Zai) (@Zf _ _ _ _ _ _ (@Zck _ _ _ 4 _ _ _ _ _ _ _ _ _ _ _ _ _ _ _ rfl (Z3 (N' := ["_law_one", "_law_fields_here", "_law_hands_here", ".acc"]) (src := [.own, .cap 1, .cap 2, .acc]) (by rfl) (by rfl) (by rfl) (by rfl) (by rfl) (by rfl)) (Zd7 3 (by rfl) (by rfl)) (by decide) (@Zc5 _ _ _ _ _ (@Zu _ _ _ _ _ _ _ hu (Zd 0) Zk (by intro _ _; rfl))) (fun _ _ _ _ => @xg _ _ _ (fun _ => (@Z8 _ _ _ 0 _ (show (["_law_one", "_law_fields_here", "_law_hands_here", ".acc"] : List Str).Nodup by decide +kernel) (by rfl) (by first | exact Or.inl rfl | exact Or.inr rfl) (by first | exact .inl rfl | exact .inr rfl)))) (fun _ _ _ _ => xt0) (fun _ _ _ _ => @xe _ _ _ (fun _ => (@Za0 _ _ _ _ _ _ _ _ _ _ _ _ _ _ G_law_told (hr.mono (by omega)) T.m_law_told T.k_law_told B_law_told (@Zm _ _ _ _ _ _ (Zd 0) (@Zm _ _ _ _ _ _ (Zd 1) (@Zm _ _ _ _ _ _ (Zd 2) Zba (by rfl)) (by rfl)) (by rfl)) (by rfl) (by decide) (by rfl) (by rfl)))) Zdx.nd (by rfl) (by rfl) (by rfl) (by intro _; rfl)) (@Zf _ _ _ _ _ _ (@Zf6 _ _ _ _ _ _ _ _ _ PassesOwn.never rfl (@Zk9 _ _ _ _ _ _ _ T.z_range (@Zgu _ _ _ _ _ _ T.z_len (Zd 4) (by rfl) (by rfl) (by rfl)) (by rfl) (by rfl)) (@Z8 _ _ _ 5 _ Zdx.nd (by rfl) (by first | exact Or.inl rfl | exact Or.inr rfl) (by first | exact .inl rfl | exact .inr rfl)) (@Zj _ _ _ _ (@s_if _ _ _ _ _ _ _ _ _ (@PW.pt _ _ _ (@Zrf _ _ _ _ _ _ _ _ (@Zx4 _ _ _ _ _ _ _ (@Zu _ _ _ _ _ _ _ hu (Zd 4) (Zd 5) (by intro _ _; rfl)) Zgs) (@Zl7 _ _ _ _ _ (@Zru _ _ _ _ _ _ _ hv (@Zu _ _ _ _ _ _ _ hu (@Zu _ _ _ _ _ _ _ hu (@Zu _ _ _ _ _ _ _ hu (Zd 0) Zk (by intro _ _; rfl)) (Zd 5) (by intro _ _; rfl)) Zk (by intro _ _; rfl)) Zag)))) (@Zj _ _ _ _ (@Zam _ _ _ _ _ Zag)) Zai)) (by intro _; rfl)) (@Zj _ _ _ _ (@Zam _ _ _ _ _ (@Zbt _ _ _ _ _ _ _ _ Zag (@Zfv _ _ _ _ _ _ _ _ _ _ _ _ _ _ _ rfl (Z3 (N' := ["_law_text", ".acc"]) (src := [.own, .acc]) (by rfl) (by rfl) (by rfl) (by rfl) (by rfl) (by rfl)) (Zd7 1 (by rfl) (by rfl)) (by decide) (@Zc5 _ _ _ _ _ (Zd 4)) (fun _ _ _ _ => @xg _ _ _ (fun _ => (@Z8 _ _ _ 0 _ (show (["_law_text", ".acc"] : List Str).Nodup by decide +kernel) (by rfl) (by first | exact Or.inl rfl | exact Or.inr rfl) (by first | exact .inl rfl | exact .inr rfl)))) (fun _ _ _ _ => @xt _ _ _ (fun _ => (@Zl6 _ _ _ _ _ _ _ (Zd 0) Zgs))) (fun _ _ _ _ => @xe _ _ _ (fun _ => (Zd 0))) (by intro _; rfl)) (by rfl) (by rfl) (by rfl) (by rfl) (by rfl)))))))))
theorem Zf0 {fd_law_told : FuncData} (F_law_told : Fun K "_law_told" "_law_told" Zbu flaw_told fd_law_told) (B_law_told : Zay K fd_law_told ["_law_piece", "_law_fields_here", "_law_hands_here"] []) (T : Txt K mg tLETTERS tMOST_GIVENS tMOST_HANDS tWORD_LENGTH flaw_numbers flaw_names flaw_template flaw_hands flaw_hands_text flaw_fields ftold_field ftold_hand ftold_hands fis_all_of fis_text_of fread_hand fread_hands ftold_names ftold_group ftold_piece ffill flaw_cell_at flaw_short flaw_told flaw aNoHands) {fd_law_short : FuncData} (G_law_short : FnOk P w K mg base CX0 1 flaw_short fd_law_short ["_law_hands_here", "_law_many", "_law_sort"] (spOf K 3 Za7)) (B_law_short : Zay K fd_law_short ["_law_hands_here", "_law_many", "_law_sort"] []) :
    ∀ n : Nat, FnOk P w K mg base CX0 (1 + 1 * n) flaw_told fd_law_told ["_law_piece", "_law_fields_here", "_law_hands_here"] (spOf K 3 (Zn n))
  | 0 => Zj5
  | n + 1 => by
    have G_law_told := Zf0 F_law_told B_law_told T G_law_short B_law_short n
    exact (Zlp (lv := 1 + 1 * n) (by omega) F_law_told T G_law_short B_law_short G_law_told B_law_told).mono (by omega)
theorem Zer : FnScope ["_law_script", "_law_names_here", "_law_template_here", "_law_fields_here", "_law_hands_here", "_law_texts", "_law_due", "_law_handed", "_law_found"] ["_law_script"] (Zh Zfa) := ⟨rfl, rfl, rfl, by decide +kernel, rfl, by decide +kernel, by decide +kernel⟩
theorem Zy4 {fd : FuncData} (F : Fun K "law" "law" Zfa flaw fd) (T : Txt K mg tLETTERS tMOST_GIVENS tMOST_HANDS tWORD_LENGTH flaw_numbers flaw_names flaw_template flaw_hands flaw_hands_text flaw_fields ftold_field ftold_hand ftold_hands fis_all_of fis_text_of fread_hand fread_hands ftold_names ftold_group ftold_piece ffill flaw_cell_at flaw_short flaw_told flaw aNoHands) {fd_law_names : FuncData} (G_law_names : FnOk P w K mg base CX0 2 flaw_names fd_law_names ["_law_cell"] (spOf K 1 Zc1)) (B_law_names : Zay K fd_law_names ["_law_cell"] []) {fd_law_template : FuncData} (G_law_template : FnOk P w K mg base CX0 1 flaw_template fd_law_template ["_law_names_here", "_law_cells"] (spOf K 2 Zbl)) (B_law_template : Zay K fd_law_template ["_law_names_here", "_law_cells"] []) {fd_law_fields : FuncData} (G_law_fields : FnOk P w K mg base CX0 3 flaw_fields fd_law_fields ["_law_names_here", "_law_cell"] (spOf K 2 Zcm)) (B_law_fields : Zay K fd_law_fields ["_law_names_here", "_law_cell"] []) {fd_fill : FuncData} (G_fill : FnOk P w K mg base CX0 30 ffill fd_fill ["T", "F"] (spOf K 2 Zhv)) (B_fill : Zay K fd_fill ["T", "F"] []) {fd_law_cell_at : FuncData} (G_law_cell_at : FnOk P w K mg base CX0 1 flaw_cell_at fd_law_cell_at ["_law_script", "_law_k"] (spOf K 2 Zaw)) (B_law_cell_at : Zay K fd_law_cell_at ["_law_script", "_law_k"] []) {fd_law_told : FuncData} (G_law_told : FnOk P w K mg base CX0 13 flaw_told fd_law_told ["_law_piece", "_law_fields_here", "_law_hands_here"] (spOf K 3 Zcx)) (B_law_told : Zay K fd_law_told ["_law_piece", "_law_fields_here", "_law_hands_here"] []) :
    FnOk P w K mg base CX0 31 flaw fd ["_law_script"] (spOf K 1 Zis) := by
  refine F.ok Zer (fun vs H Q E h => Z9 h) (fun cdv A outer s H vs Q E hr h => ?_)
  obtain ⟨F0, h⟩ := Zaa (N := ["_law_script", "_law_names_here", "_law_template_here", "_law_fields_here", "_law_hands_here", "_law_texts", "_law_due", "_law_handed", "_law_found"]) (f := Zsb) h
  have hu := Zdh hr
  have hv := hr.units
  refine ⟨Zo (ent H F0 : Ent K) Zsb, ?_, h⟩
  exact (@Zf _ _ _ _ _ _ (@Zb8 _ _ _ _ _ 1 _ _ Zer.nd (@Za0 _ _ _ _ _ _ _ _ _ _ _ _ _ _ G_law_names (hr.mono (by decide)) T.m_law_names T.k_law_names B_law_names (@Zm _ _ _ _ _ _ (@Za0 _ _ _ _ _ _ _ _ _ _ _ _ _ _ G_law_cell_at (hr.mono (by decide)) T.m_law_cell_at T.k_law_cell_at B_law_cell_at (@Zm _ _ _ _ _ _ (Zd 0) (@Zm _ _ _ _ _ _ Zk Zba (by rfl)) (by rfl)) (by rfl) (by decide) (by rfl) (by rfl)) Zba (by rfl)) (by rfl) (by decide) (by rfl) (by rfl)) (by rfl) (by first | exact Or.inl rfl | exact Or.inr rfl) (by rfl) (by first | exact .inl rfl | exact .inr rfl)) (@Zf _ _ _ _ _ _ (@Zb8 _ _ _ _ _ 2 _ _ Zer.nd (@Za0 _ _ _ _ _ _ _ _ _ _ _ _ _ _ G_law_template (hr.mono (by decide)) T.m_law_template T.k_law_template B_law_template (@Zm _ _ _ _ _ _ (Zd 1) (@Zm _ _ _ _ _ _ (@e_sl _ _ _ _ _ _ _ _ _ _ (Zd 0) (@Zfu _ _ _ _ Zk) (@Zfu _ _ _ _ Zk)) Zba (by rfl)) (by rfl)) (by rfl) (by decide) (by rfl) (by rfl)) (by rfl) (by first | exact Or.inl rfl | exact Or.inr rfl) (by rfl) (by first | exact .inl rfl | exact .inr rfl)) (@Zf _ _ _ _ _ _ (@Zri _ _ _ _ _ _ _ (@Za0 _ _ _ _ _ _ _ _ _ _ _ _ _ _ G_law_fields (hr.mono (by decide)) T.m_law_fields T.k_law_fields B_law_fields (@Zm _ _ _ _ _ _ (Zd 1) (@Zm _ _ _ _ _ _ (@Za0 _ _ _ _ _ _ _ _ _ _ _ _ _ _ G_law_cell_at (hr.mono (by decide)) T.m_law_cell_at T.k_law_cell_at B_law_cell_at (@Zm _ _ _ _ _ _ (Zd 0) (@Zm _ _ _ _ _ _ Zk Zba (by rfl)) (by rfl)) (by rfl) (by decide) (by rfl) (by rfl)) Zba (by rfl)) (by rfl)) (by rfl) (by decide) (by rfl) (by rfl)) (@Zuv _ _ _ _ _ _ _ rfl (@Zfl _ _ _ _ _ _ (@Z8 _ _ _ 3 _ Zer.nd (by rfl) (by first | exact Or.inl rfl | exact Or.inr rfl) (by first | exact .inl rfl | exact .inr rfl)) (@Zfl _ _ _ _ _ _ (@Z8 _ _ _ 4 _ Zer.nd (by rfl) (by first | exact Or.inl rfl | exact Or.inr rfl) (by first | exact .inl rfl | exact .inr rfl)) Zos (by rfl)) (by rfl)) (by rfl) (by rfl)) (by rfl) (by rfl) (by rfl)) (@Zf _ _ _ _ _ _ (@Zck _ _ _ 5 _ _ _ _ _ _ _ _ _ _ _ _ _ _ _ rfl (Z3 (N' := ["_law_piece", "_law_fields_here", "_law_hands_here", ".acc"]) (src := [.own, .cap 3, .cap 4, .acc]) (by rfl) (by rfl) (by rfl) (by rfl) (by rfl) (by rfl)) (Zd7 3 (by rfl) (by rfl)) (by decide) (@Zc5 _ _ _ _ _ (Zd 2)) (fun _ _ _ _ => @xg _ _ _ (fun _ => (@Z8 _ _ _ 0 _ (show (["_law_piece", "_law_fields_here", "_law_hands_here", ".acc"] : List Str).Nodup by decide +kernel) (by rfl) (by first | exact Or.inl rfl | exact Or.inr rfl) (by first | exact .inl rfl | exact .inr rfl)))) (fun _ _ _ _ => xt0) (fun _ _ _ _ => @xe _ _ _ (fun _ => (@Za0 _ _ _ _ _ _ _ _ _ _ _ _ _ _ G_law_told (hr.mono (by decide)) T.m_law_told T.k_law_told B_law_told (@Zm _ _ _ _ _ _ (Zd 0) (@Zm _ _ _ _ _ _ (Zd 1) (@Zm _ _ _ _ _ _ (Zd 2) Zba (by rfl)) (by rfl)) (by rfl)) (by rfl) (by decide) (by rfl) (by rfl)))) Zer.nd (by rfl) (by rfl) (by rfl) (by intro _; rfl)) (@Zf _ _ _ _ _ _ (@Zb8 _ _ _ _ _ 6 _ _ Zer.nd (@Zbt _ _ _ _ _ _ _ _ Zag (@Zfv _ _ _ _ _ _ _ _ _ _ _ _ _ _ _ rfl (Z3 (N' := ["_law_text", ".acc"]) (src := [.own, .acc]) (by rfl) (by rfl) (by rfl) (by rfl) (by rfl) (by rfl)) (Zd7 1 (by rfl) (by rfl)) (by decide) (@Zc5 _ _ _ _ _ (Zd 5)) (fun _ _ _ _ => @xg _ _ _ (fun _ => (@Z8 _ _ _ 0 _ (show (["_law_text", ".acc"] : List Str).Nodup by decide +kernel) (by rfl) (by first | exact Or.inl rfl | exact Or.inr rfl) (by first | exact .inl rfl | exact .inr rfl)))) (fun _ _ _ _ => @xt _ _ _ (fun _ => (@Zl6 _ _ _ _ _ _ _ (Zd 0) Zgs))) (fun _ _ _ _ => @xe _ _ _ (fun _ => (Zd 0))) (by intro _; rfl)) (by rfl) (by rfl) (by rfl) (by rfl) (by rfl)) (by rfl) (by first | exact Or.inl rfl | exact Or.inr rfl) (by rfl) (by first | exact .inl rfl | exact .inr rfl)) (@Zf _ _ _ _ _ _ (@Zb8 _ _ _ _ _ 7 _ _ Zer.nd (@Zrt _ _ _ _ _ _ T.z_dict (Zd 3) (by rfl) (by rfl) (by rfl)) (by rfl) (by first | exact Or.inl rfl | exact Or.inr rfl) (by rfl) (by first | exact .inl rfl | exact .inr rfl)) (@Zf _ _ _ _ _ _ (@Zb8 _ _ _ _ _ 8 _ _ Zer.nd (@Za0 _ _ _ _ _ _ _ _ _ _ _ _ _ _ G_fill (hr.mono (by decide)) T.m_fill T.k_fill B_fill (@Zm _ _ _ _ _ _ (Zd 2) (@Zm _ _ _ _ _ _ (Zd 7) Zba (by rfl)) (by rfl)) (by rfl) (by decide) (by rfl) (by rfl)) (by rfl) (by first | exact Or.inl rfl | exact Or.inr rfl) (by rfl) (by first | exact .inl rfl | exact .inr rfl)) (@Zf _ _ _ _ _ _ (@s_if _ _ _ _ _ _ _ _ _ (@PW.pt _ _ _ (@w_or _ _ _ _ _ _ _ _ (@Zrg _ _ _ _ _ (@Zrh _ _ _ _ (@Zut _ _ _ _ _ _ _ _ _ T.z_isinstance T.z_str boot_str (Zla _) (Zd 8) (by rfl) (by rfl) (by decide) (by decide) (by rfl) (by rfl) (by rfl)) (by intro _; rfl))) (@w_or _ _ _ _ _ _ _ _ (@Zru _ _ _ _ _ _ _ hv (Zd 8) (Zd 6)) (@Zx5 _ _ _ _ _ (@Zru _ _ _ _ _ _ _ hv (Zd 7) (Zd 3)))))) (@Zj _ _ _ _ (@Zam _ _ _ _ _ e_bl)) Zai) (@Zf _ _ _ _ _ _ (@Zck _ _ _ 5 _ _ _ _ _ _ _ _ _ _ _ _ _ _ _ rfl (Z3 (N' := ["_law_piece", ".acc"]) (src := [.own, .acc]) (by rfl) (by rfl) (by rfl) (by rfl) (by rfl) (by rfl)) (Zd7 1 (by rfl) (by rfl)) (by decide) (@Zc5 _ _ _ _ _ (Zd 2)) (fun _ _ _ _ => @xg _ _ _ (fun _ => (@Z8 _ _ _ 0 _ (show (["_law_piece", ".acc"] : List Str).Nodup by decide +kernel) (by rfl) (by first | exact Or.inl rfl | exact Or.inr rfl) (by first | exact .inl rfl | exact .inr rfl)))) (fun _ _ _ _ => xt0) (fun _ _ _ _ => @xe _ _ _ (fun _ => (@Za0 _ _ _ _ _ _ _ _ _ _ _ _ _ _ G_law_told (hr.mono (by decide)) T.m_law_told T.k_law_told B_law_told (@Zm _ _ _ _ _ _ (Zd 0) (@Zm _ _ _ _ _ _ Zgw (@Zm _ _ _ _ _ _ Zgw Zba (by rfl)) (by rfl)) (by rfl)) (by rfl) (by decide) (by rfl) (by rfl)))) Zer.nd (by rfl) (by rfl) (by rfl) (by intro _; rfl)) (@Zj _ _ _ _ (@Zam _ _ _ _ _ (@Zyf _ _ _ _ _ _ _ hv (@Za0 _ _ _ _ _ _ _ _ _ _ _ _ _ _ G_fill (hr.mono (by decide)) T.m_fill T.k_fill B_fill (@Zm _ _ _ _ _ _ (Zd 2) (@Zm _ _ _ _ _ _ Zgw Zba (by rfl)) (by rfl)) (by rfl) (by decide) (by rfl) (by rfl)) (@Zbt _ _ _ _ _ _ _ _ Zag (@Zfv _ _ _ _ _ _ _ _ _ _ _ _ _ _ _ rfl (Z3 (N' := ["_law_text", ".acc"]) (src := [.own, .acc]) (by rfl) (by rfl) (by rfl) (by rfl) (by rfl) (by rfl)) (Zd7 1 (by rfl) (by rfl)) (by decide) (@Zc5 _ _ _ _ _ (Zd 5)) (fun _ _ _ _ => @xg _ _ _ (fun _ => (@Z8 _ _ _ 0 _ (show (["_law_text", ".acc"] : List Str).Nodup by decide +kernel) (by rfl) (by first | exact Or.inl rfl | exact Or.inr rfl) (by first | exact .inl rfl | exact .inr rfl)))) (fun _ _ _ _ => @xt _ _ _ (fun _ => (@Zl6 _ _ _ _ _ _ _ (Zd 0) Zgs))) (fun _ _ _ _ => @xe _ _ _ (fun _ => (Zd 0))) (by intro _; rfl)) (by rfl) (by rfl) (by rfl) (by rfl) (by rfl))))))))))))))
end
theorem Zy5 {l : PySem.W.OpenLaw} {w : World} {K : PySem.W.Frag} {h : Heap} {mg : Str → Option Value} {tLETTERS : Tok} {tMOST_GIVENS : Tok} {tMOST_HANDS : Tok} {tWORD_LENGTH : Tok} {fa flaw_numbers flaw_names flaw_template flaw_hands flaw_hands_text flaw_fields ftold_field ftold_hand ftold_hands fis_all_of fis_text_of fread_hand fread_hands ftold_names ftold_group ftold_piece ffill flaw_cell_at flaw_short flaw_told flaw aNoHands : Addr} (X : K.In h) (G : h.Ns mainGlobals mg) (hfa : mg "law" = some (.ref fa))
    {odlaw_numbers anlaw_numbers : Option Addr} {sllaw_numbers : Array (Option Value)} {oclaw_numbers kVlaw_numbers dclaw_numbers pmlaw_numbers cdlaw_numbers ctlaw_numbers : Value}
    {odlaw_names anlaw_names : Option Addr} {sllaw_names : Array (Option Value)} {oclaw_names kVlaw_names dclaw_names pmlaw_names cdlaw_names ctlaw_names : Value}
    {odlaw_template anlaw_template : Option Addr} {sllaw_template : Array (Option Value)} {oclaw_template kVlaw_template dclaw_template pmlaw_template cdlaw_template ctlaw_template : Value}
    {odlaw_hands anlaw_hands : Option Addr} {sllaw_hands : Array (Option Value)} {oclaw_hands kVlaw_hands dclaw_hands pmlaw_hands cdlaw_hands ctlaw_hands : Value}
    {odlaw_hands_text anlaw_hands_text : Option Addr} {sllaw_hands_text : Array (Option Value)} {oclaw_hands_text kVlaw_hands_text dclaw_hands_text pmlaw_hands_text cdlaw_hands_text ctlaw_hands_text : Value}
    {odlaw_fields anlaw_fields : Option Addr} {sllaw_fields : Array (Option Value)} {oclaw_fields kVlaw_fields dclaw_fields pmlaw_fields cdlaw_fields ctlaw_fields : Value}
    {odtold_field antold_field : Option Addr} {sltold_field : Array (Option Value)} {octold_field kVtold_field dctold_field pmtold_field cdtold_field cttold_field : Value}
    {odtold_hand antold_hand : Option Addr} {sltold_hand : Array (Option Value)} {octold_hand kVtold_hand dctold_hand pmtold_hand cdtold_hand cttold_hand : Value}
    {odtold_hands antold_hands : Option Addr} {sltold_hands : Array (Option Value)} {octold_hands kVtold_hands dctold_hands pmtold_hands cdtold_hands cttold_hands : Value}
    {odis_all_of anis_all_of : Option Addr} {slis_all_of : Array (Option Value)} {ocis_all_of kVis_all_of dcis_all_of pmis_all_of cdis_all_of ctis_all_of : Value}
    {odis_text_of anis_text_of : Option Addr} {slis_text_of : Array (Option Value)} {ocis_text_of kVis_text_of dcis_text_of pmis_text_of cdis_text_of ctis_text_of : Value}
    {odread_hand anread_hand : Option Addr} {slread_hand : Array (Option Value)} {ocread_hand kVread_hand dcread_hand pmread_hand cdread_hand ctread_hand : Value}
    {odread_hands anread_hands : Option Addr} {slread_hands : Array (Option Value)} {ocread_hands kVread_hands dcread_hands pmread_hands cdread_hands ctread_hands : Value}
    {odtold_names antold_names : Option Addr} {sltold_names : Array (Option Value)} {octold_names kVtold_names dctold_names pmtold_names cdtold_names cttold_names : Value}
    {odtold_group antold_group : Option Addr} {sltold_group : Array (Option Value)} {octold_group kVtold_group dctold_group pmtold_group cdtold_group cttold_group : Value}
    {odtold_piece antold_piece : Option Addr} {sltold_piece : Array (Option Value)} {octold_piece kVtold_piece dctold_piece pmtold_piece cdtold_piece cttold_piece : Value}
    {odfill anfill : Option Addr} {slfill : Array (Option Value)} {ocfill kVfill dcfill pmfill cdfill ctfill : Value}
    {odlaw_cell_at anlaw_cell_at : Option Addr} {sllaw_cell_at : Array (Option Value)} {oclaw_cell_at kVlaw_cell_at dclaw_cell_at pmlaw_cell_at cdlaw_cell_at ctlaw_cell_at : Value}
    {odlaw_short anlaw_short : Option Addr} {sllaw_short : Array (Option Value)} {oclaw_short kVlaw_short dclaw_short pmlaw_short cdlaw_short ctlaw_short : Value}
    {odlaw_told anlaw_told : Option Addr} {sllaw_told : Array (Option Value)} {oclaw_told kVlaw_told dclaw_told pmlaw_told cdlaw_told ctlaw_told : Value}
    {odlaw anlaw : Option Addr} {sllaw : Array (Option Value)} {oclaw kVlaw dclaw pmlaw cdlaw ctlaw : Value}
    (alaw_numbers : PySem.W.nsIn K mainGlobals "_law_numbers" = some (some (.ref flaw_numbers))) (llaw_numbers : K.lookup flaw_numbers = some ⟨oclaw_numbers, odlaw_numbers, .func (PySem.W.fnOf "_law_numbers" "_law_numbers" (Z2 Za3) (Zy Za3) (Zh Za3) .none kVlaw_numbers dclaw_numbers pmlaw_numbers anlaw_numbers cdlaw_numbers ctlaw_numbers), sllaw_numbers⟩) (claw_numbers : PySem.W.codeIn K cdlaw_numbers "_law_numbers" = true) (klaw_numbers : PySem.W.keepIn K (.ref flaw_numbers) = true)
    (alaw_names : PySem.W.nsIn K mainGlobals "_law_names" = some (some (.ref flaw_names))) (llaw_names : K.lookup flaw_names = some ⟨oclaw_names, odlaw_names, .func (PySem.W.fnOf "_law_names" "_law_names" (Z2 Zbw) (Zy Zbw) (Zh Zbw) .none kVlaw_names dclaw_names pmlaw_names anlaw_names cdlaw_names ctlaw_names), sllaw_names⟩) (claw_names : PySem.W.codeIn K cdlaw_names "_law_names" = true) (klaw_names : PySem.W.keepIn K (.ref flaw_names) = true)
    (alaw_template : PySem.W.nsIn K mainGlobals "_law_template" = some (some (.ref flaw_template))) (llaw_template : K.lookup flaw_template = some ⟨oclaw_template, odlaw_template, .func (PySem.W.fnOf "_law_template" "_law_template" (Z2 Zan) (Zy Zan) (Zh Zan) .none kVlaw_template dclaw_template pmlaw_template anlaw_template cdlaw_template ctlaw_template), sllaw_template⟩) (claw_template : PySem.W.codeIn K cdlaw_template "_law_template" = true) (klaw_template : PySem.W.keepIn K (.ref flaw_template) = true)
    (alaw_hands : PySem.W.nsIn K mainGlobals "_law_hands" = some (some (.ref flaw_hands))) (llaw_hands : K.lookup flaw_hands = some ⟨oclaw_hands, odlaw_hands, .func (PySem.W.fnOf "_law_hands" "_law_hands" (Z2 Zbx) (Zy Zbx) (Zh Zbx) .none kVlaw_hands dclaw_hands pmlaw_hands anlaw_hands cdlaw_hands ctlaw_hands), sllaw_hands⟩) (claw_hands : PySem.W.codeIn K cdlaw_hands "_law_hands" = true) (klaw_hands : PySem.W.keepIn K (.ref flaw_hands) = true)
    (alaw_hands_text : PySem.W.nsIn K mainGlobals "_law_hands_text" = some (some (.ref flaw_hands_text))) (llaw_hands_text : K.lookup flaw_hands_text = some ⟨oclaw_hands_text, odlaw_hands_text, .func (PySem.W.fnOf "_law_hands_text" "_law_hands_text" (Z2 Zae) (Zy Zae) (Zh Zae) .none kVlaw_hands_text dclaw_hands_text pmlaw_hands_text anlaw_hands_text cdlaw_hands_text ctlaw_hands_text), sllaw_hands_text⟩) (claw_hands_text : PySem.W.codeIn K cdlaw_hands_text "_law_hands_text" = true) (klaw_hands_text : PySem.W.keepIn K (.ref flaw_hands_text) = true)
    (alaw_fields : PySem.W.nsIn K mainGlobals "_law_fields" = some (some (.ref flaw_fields))) (llaw_fields : K.lookup flaw_fields = some ⟨oclaw_fields, odlaw_fields, .func (PySem.W.fnOf "_law_fields" "_law_fields" (Z2 Zbb) (Zy Zbb) (Zh Zbb) .none kVlaw_fields dclaw_fields pmlaw_fields anlaw_fields cdlaw_fields ctlaw_fields), sllaw_fields⟩) (claw_fields : PySem.W.codeIn K cdlaw_fields "_law_fields" = true) (klaw_fields : PySem.W.keepIn K (.ref flaw_fields) = true)
    (atold_field : PySem.W.nsIn K mainGlobals "told_field" = some (some (.ref ftold_field))) (ltold_field : K.lookup ftold_field = some ⟨octold_field, odtold_field, .func (PySem.W.fnOf "told_field" "told_field" (Z2 Zbc) (Zy Zbc) (Zh Zbc) .none kVtold_field dctold_field pmtold_field antold_field cdtold_field cttold_field), sltold_field⟩) (ctold_field : PySem.W.codeIn K cdtold_field "told_field" = true) (ktold_field : PySem.W.keepIn K (.ref ftold_field) = true)
    (atold_hand : PySem.W.nsIn K mainGlobals "told_hand" = some (some (.ref ftold_hand))) (ltold_hand : K.lookup ftold_hand = some ⟨octold_hand, odtold_hand, .func (PySem.W.fnOf "told_hand" "told_hand" (Z2 Zby) (Zy Zby) (Zh Zby) .none kVtold_hand dctold_hand pmtold_hand antold_hand cdtold_hand cttold_hand), sltold_hand⟩) (ctold_hand : PySem.W.codeIn K cdtold_hand "told_hand" = true) (ktold_hand : PySem.W.keepIn K (.ref ftold_hand) = true)
    (atold_hands : PySem.W.nsIn K mainGlobals "told_hands" = some (some (.ref ftold_hands))) (ltold_hands : K.lookup ftold_hands = some ⟨octold_hands, odtold_hands, .func (PySem.W.fnOf "told_hands" "told_hands" (Z2 Zbd) (Zy Zbd) (Zh Zbd) .none kVtold_hands dctold_hands pmtold_hands antold_hands cdtold_hands cttold_hands), sltold_hands⟩) (ctold_hands : PySem.W.codeIn K cdtold_hands "told_hands" = true) (ktold_hands : PySem.W.keepIn K (.ref ftold_hands) = true)
    (ais_all_of : PySem.W.nsIn K mainGlobals "is_all_of" = some (some (.ref fis_all_of))) (lis_all_of : K.lookup fis_all_of = some ⟨ocis_all_of, odis_all_of, .func (PySem.W.fnOf "is_all_of" "is_all_of" (Z2 Zbz) (Zy Zbz) (Zh Zbz) .none kVis_all_of dcis_all_of pmis_all_of anis_all_of cdis_all_of ctis_all_of), slis_all_of⟩) (cis_all_of : PySem.W.codeIn K cdis_all_of "is_all_of" = true) (kis_all_of : PySem.W.keepIn K (.ref fis_all_of) = true)
    (ais_text_of : PySem.W.nsIn K mainGlobals "is_text_of" = some (some (.ref fis_text_of))) (lis_text_of : K.lookup fis_text_of = some ⟨ocis_text_of, odis_text_of, .func (PySem.W.fnOf "is_text_of" "is_text_of" (Z2 Zbe) (Zy Zbe) (Zh Zbe) .none kVis_text_of dcis_text_of pmis_text_of anis_text_of cdis_text_of ctis_text_of), slis_text_of⟩) (cis_text_of : PySem.W.codeIn K cdis_text_of "is_text_of" = true) (kis_text_of : PySem.W.keepIn K (.ref fis_text_of) = true)
    (aread_hand : PySem.W.nsIn K mainGlobals "read_hand" = some (some (.ref fread_hand))) (lread_hand : K.lookup fread_hand = some ⟨ocread_hand, odread_hand, .func (PySem.W.fnOf "read_hand" "read_hand" (Z2 Zb0) (Zy Zb0) (Zh Zb0) .none kVread_hand dcread_hand pmread_hand anread_hand cdread_hand ctread_hand), slread_hand⟩) (cread_hand : PySem.W.codeIn K cdread_hand "read_hand" = true) (kread_hand : PySem.W.keepIn K (.ref fread_hand) = true)
    (aread_hands : PySem.W.nsIn K mainGlobals "read_hands" = some (some (.ref fread_hands))) (lread_hands : K.lookup fread_hands = some ⟨ocread_hands, odread_hands, .func (PySem.W.fnOf "read_hands" "read_hands" (Z2 Zbf) (Zy Zbf) (Zh Zbf) .none kVread_hands dcread_hands pmread_hands anread_hands cdread_hands ctread_hands), slread_hands⟩) (cread_hands : PySem.W.codeIn K cdread_hands "read_hands" = true) (kread_hands : PySem.W.keepIn K (.ref fread_hands) = true)
    (atold_names : PySem.W.nsIn K mainGlobals "told_names" = some (some (.ref ftold_names))) (ltold_names : K.lookup ftold_names = some ⟨octold_names, odtold_names, .func (PySem.W.fnOf "told_names" "told_names" (Z2 Zbg) (Zy Zbg) (Zh Zbg) .none kVtold_names dctold_names pmtold_names antold_names cdtold_names cttold_names), sltold_names⟩) (ctold_names : PySem.W.codeIn K cdtold_names "told_names" = true) (ktold_names : PySem.W.keepIn K (.ref ftold_names) = true)
    (atold_group : PySem.W.nsIn K mainGlobals "told_group" = some (some (.ref ftold_group))) (ltold_group : K.lookup ftold_group = some ⟨octold_group, odtold_group, .func (PySem.W.fnOf "told_group" "told_group" (Z2 Zat) (Zy Zat) (Zh Zat) .none kVtold_group dctold_group pmtold_group antold_group cdtold_group cttold_group), sltold_group⟩) (ctold_group : PySem.W.codeIn K cdtold_group "told_group" = true) (ktold_group : PySem.W.keepIn K (.ref ftold_group) = true)
    (atold_piece : PySem.W.nsIn K mainGlobals "told_piece" = some (some (.ref ftold_piece))) (ltold_piece : K.lookup ftold_piece = some ⟨octold_piece, odtold_piece, .func (PySem.W.fnOf "told_piece" "told_piece" (Z2 Zau) (Zy Zau) (Zh Zau) .none kVtold_piece dctold_piece pmtold_piece antold_piece cdtold_piece cttold_piece), sltold_piece⟩) (ctold_piece : PySem.W.codeIn K cdtold_piece "told_piece" = true) (ktold_piece : PySem.W.keepIn K (.ref ftold_piece) = true)
    (afill : PySem.W.nsIn K mainGlobals "fill" = some (some (.ref ffill))) (lfill : K.lookup ffill = some ⟨ocfill, odfill, .func (PySem.W.fnOf "fill" "fill" (Z2 Zfo) (Zy Zfo) (Zh Zfo) .none kVfill dcfill pmfill anfill cdfill ctfill), slfill⟩) (cfill : PySem.W.codeIn K cdfill "fill" = true) (kfill : PySem.W.keepIn K (.ref ffill) = true)
    (alaw_cell_at : PySem.W.nsIn K mainGlobals "_law_cell_at" = some (some (.ref flaw_cell_at))) (llaw_cell_at : K.lookup flaw_cell_at = some ⟨oclaw_cell_at, odlaw_cell_at, .func (PySem.W.fnOf "_law_cell_at" "_law_cell_at" (Z2 Za4) (Zy Za4) (Zh Za4) .none kVlaw_cell_at dclaw_cell_at pmlaw_cell_at anlaw_cell_at cdlaw_cell_at ctlaw_cell_at), sllaw_cell_at⟩) (claw_cell_at : PySem.W.codeIn K cdlaw_cell_at "_law_cell_at" = true) (klaw_cell_at : PySem.W.keepIn K (.ref flaw_cell_at) = true)
    (alaw_short : PySem.W.nsIn K mainGlobals "_law_short" = some (some (.ref flaw_short))) (llaw_short : K.lookup flaw_short = some ⟨oclaw_short, odlaw_short, .func (PySem.W.fnOf "_law_short" "_law_short" (Z2 Zb1) (Zy Zb1) (Zh Zb1) .none kVlaw_short dclaw_short pmlaw_short anlaw_short cdlaw_short ctlaw_short), sllaw_short⟩) (claw_short : PySem.W.codeIn K cdlaw_short "_law_short" = true) (klaw_short : PySem.W.keepIn K (.ref flaw_short) = true)
    (alaw_told : PySem.W.nsIn K mainGlobals "_law_told" = some (some (.ref flaw_told))) (llaw_told : K.lookup flaw_told = some ⟨oclaw_told, odlaw_told, .func (PySem.W.fnOf "_law_told" "_law_told" (Z2 Zbu) (Zy Zbu) (Zh Zbu) .none kVlaw_told dclaw_told pmlaw_told anlaw_told cdlaw_told ctlaw_told), sllaw_told⟩) (claw_told : PySem.W.codeIn K cdlaw_told "_law_told" = true) (klaw_told : PySem.W.keepIn K (.ref flaw_told) = true)
    (alaw : PySem.W.nsIn K mainGlobals "law" = some (some (.ref flaw))) (llaw : K.lookup flaw = some ⟨oclaw, odlaw, .func (PySem.W.fnOf "law" "law" (Z2 Zfa) (Zy Zfa) (Zh Zfa) .none kVlaw dclaw pmlaw anlaw cdlaw ctlaw), sllaw⟩) (claw : PySem.W.codeIn K cdlaw "law" = true) (klaw : PySem.W.keepIn K (.ref flaw) = true)
    (zall : PySem.W.nsIn K mainGlobals "all" = some none)
    (zdict : PySem.W.nsIn K mainGlobals "dict" = some none)
    (zint : PySem.W.nsIn K mainGlobals "int" = some none)
    (zisinstance : PySem.W.nsIn K mainGlobals "isinstance" = some none)
    (zlen : PySem.W.nsIn K mainGlobals "len" = some none)
    (zrange : PySem.W.nsIn K mainGlobals "range" = some none)
    (zstr : PySem.W.nsIn K mainGlobals "str" = some none)
    (ztuple : PySem.W.nsIn K mainGlobals "tuple" = some none)
    (zLETTERS : PySem.W.nsIn K mainGlobals "LETTERS" = some (some (.str "ABCDEFGHIJKLMNOPQRSTUVWXYZabcdefghijklmnopqrstuvwxyz" tLETTERS)))
    (zMOST_GIVENS : PySem.W.nsIn K mainGlobals "MOST_GIVENS" = some (some (.int 4 tMOST_GIVENS)))
    (zMOST_HANDS : PySem.W.nsIn K mainGlobals "MOST_HANDS" = some (some (.int 6 tMOST_HANDS)))
    (zWORD_LENGTH : PySem.W.nsIn K mainGlobals "WORD_LENGTH" = some (some (.int 15 tWORD_LENGTH)))
    (zc_NoHands : PySem.W.nsIn K mainGlobals "NoHands" = some (some (.ref aNoHands)))
    (ty_NoHands : PySem.W.typeIn K (.ref aNoHands) = some (.type "type"))
    (ic_NoHands : PySem.W.isClsIn K aNoHands = true)
    (be_NoHands : PySem.W.mroIn K aNoHands (.type "BaseException") = some true)
    (h_NoHands_NoHands : PySem.W.mroIn K aNoHands (.ref aNoHands) = some true)
    (ow_NoHands : PySem.W.excIn K aNoHands VEB "ValueError.__new__" = true)
    : ∃ fd : FuncData, (∀ (s : Shared) (v : Value), BindsTo s fd ⟨[v], []⟩ [("_law_script", v)]) ∧ ∀ base : Heap, K.In base → base.Ns mainGlobals mg → FnOk l.prog w K mg base CX0 31 fa fd ["_law_script"] (spOf K 1 Zis) := by
  have e := hfa.symm.trans (PySem.W.mg_of X G alaw)
  cases e
  have T : Txt K mg tLETTERS tMOST_GIVENS tMOST_HANDS tWORD_LENGTH flaw_numbers flaw_names flaw_template flaw_hands flaw_hands_text flaw_fields ftold_field ftold_hand ftold_hands fis_all_of fis_text_of fread_hand fread_hands ftold_names ftold_group ftold_piece ffill flaw_cell_at flaw_short flaw_told _ aNoHands := ⟨PySem.W.mg_of X G zc_NoHands, zc_NoHands, ty_NoHands, ic_NoHands, be_NoHands, h_NoHands_NoHands, PySem.W.mg_none_of X G zall, PySem.W.mg_none_of X G zdict, PySem.W.mg_none_of X G zint, PySem.W.mg_none_of X G zisinstance, PySem.W.mg_none_of X G zlen, PySem.W.mg_none_of X G zrange, PySem.W.mg_none_of X G zstr, PySem.W.mg_none_of X G ztuple, PySem.W.mg_of X G zLETTERS, PySem.W.mg_of X G zMOST_GIVENS, PySem.W.mg_of X G zMOST_HANDS, PySem.W.mg_of X G zWORD_LENGTH, PySem.W.mg_of X G alaw_numbers, klaw_numbers, PySem.W.mg_of X G alaw_names, klaw_names, PySem.W.mg_of X G alaw_template, klaw_template, PySem.W.mg_of X G alaw_hands, klaw_hands, PySem.W.mg_of X G alaw_hands_text, klaw_hands_text, PySem.W.mg_of X G alaw_fields, klaw_fields, PySem.W.mg_of X G atold_field, ktold_field, PySem.W.mg_of X G atold_hand, ktold_hand, PySem.W.mg_of X G atold_hands, ktold_hands, PySem.W.mg_of X G ais_all_of, kis_all_of, PySem.W.mg_of X G ais_text_of, kis_text_of, PySem.W.mg_of X G aread_hand, kread_hand, PySem.W.mg_of X G aread_hands, kread_hands, PySem.W.mg_of X G atold_names, ktold_names, PySem.W.mg_of X G atold_group, ktold_group, PySem.W.mg_of X G atold_piece, ktold_piece, PySem.W.mg_of X G afill, kfill, PySem.W.mg_of X G alaw_cell_at, klaw_cell_at, PySem.W.mg_of X G alaw_short, klaw_short, PySem.W.mg_of X G alaw_told, klaw_told, PySem.W.mg_of X G alaw, klaw⟩
  have Flaw_numbers := Zbk (st := Za3) llaw_numbers claw_numbers klaw_numbers
  have Flaw_names := Zbk (st := Zbw) llaw_names claw_names klaw_names
  have Flaw_template := Zbk (st := Zan) llaw_template claw_template klaw_template
  have Flaw_hands := Zbk (st := Zbx) llaw_hands claw_hands klaw_hands
  have Flaw_hands_text := Zbk (st := Zae) llaw_hands_text claw_hands_text klaw_hands_text
  have Flaw_fields := Zbk (st := Zbb) llaw_fields claw_fields klaw_fields
  have Ftold_field := Zbk (st := Zbc) ltold_field ctold_field ktold_field
  have Ftold_hand := Zbk (st := Zby) ltold_hand ctold_hand ktold_hand
  have Ftold_hands := Zbk (st := Zbd) ltold_hands ctold_hands ktold_hands
  have Fis_all_of := Zbk (st := Zbz) lis_all_of cis_all_of kis_all_of
  have Fis_text_of := Zbk (st := Zbe) lis_text_of cis_text_of kis_text_of
  have Fread_hand := Zbk (st := Zb0) lread_hand cread_hand kread_hand
  have Fread_hands := Zbk (st := Zbf) lread_hands cread_hands kread_hands
  have Ftold_names := Zbk (st := Zbg) ltold_names ctold_names ktold_names
  have Ftold_group := Zbk (st := Zat) ltold_group ctold_group ktold_group
  have Ftold_piece := Zbk (st := Zau) ltold_piece ctold_piece ktold_piece
  have Ffill := Zbk (st := Zfo) lfill cfill kfill
  have Flaw_cell_at := Zbk (st := Za4) llaw_cell_at claw_cell_at klaw_cell_at
  have Flaw_short := Zbk (st := Zb1) llaw_short claw_short klaw_short
  have Flaw_told := Zbk (st := Zbu) llaw_told claw_told klaw_told
  have Flaw := Zbk (st := Zfa) llaw claw klaw
  have blaw_numbers := Flaw_numbers.binds (ps := ["_law_cell", "_law_many"]) fun _ _ _ _ _ _ us hl => of2 (fun _ _ => rfl) us hl
  have blaw_names := Flaw_names.binds (ps := ["_law_cell"]) fun _ _ _ _ _ _ us hl => of1 (fun _ => rfl) us hl
  have blaw_template := Flaw_template.binds (ps := ["_law_names_here", "_law_cells"]) fun _ _ _ _ _ _ us hl => of2 (fun _ _ => rfl) us hl
  have blaw_hands := Flaw_hands.binds (ps := ["_law_cell"]) fun _ _ _ _ _ _ us hl => of1 (fun _ => rfl) us hl
  have blaw_hands_text := Flaw_hands_text.binds (ps := ["_law_hands_here"]) fun _ _ _ _ _ _ us hl => of1 (fun _ => rfl) us hl
  have blaw_fields := Flaw_fields.binds (ps := ["_law_names_here", "_law_cell"]) fun _ _ _ _ _ _ us hl => of2 (fun _ _ => rfl) us hl
  have btold_field := Ftold_field.binds (ps := ["names", "texts"]) fun _ _ _ _ _ _ us hl => of2 (fun _ _ => rfl) us hl
  have btold_hand := Ftold_hand.binds (ps := ["hand", "way"]) fun _ _ _ _ _ _ us hl => of2 (fun _ _ => rfl) us hl
  have btold_hands := Ftold_hands.binds (ps := ["hands", "many", "way"]) fun _ _ _ _ _ _ us hl => of3 (fun _ _ _ => rfl) us hl
  have bis_all_of := Fis_all_of.binds (ps := ["text", "signs"]) fun _ _ _ _ _ _ us hl => of2 (fun _ _ => rfl) us hl
  have bis_text_of := Fis_text_of.binds (ps := ["value", "signs", "most"]) fun _ _ _ _ _ _ us hl => of3 (fun _ _ _ => rfl) us hl
  have bread_hand := Fread_hand.binds (ps := ["text"]) fun _ _ _ _ _ _ us hl => of1 (fun _ => rfl) us hl
  have bread_hands := Fread_hands.binds (ps := ["text"]) fun _ _ _ _ _ _ us hl => of1 (fun _ => rfl) us hl
  have btold_names := Ftold_names.binds (ps := ["piece", "texts"]) fun _ _ _ _ _ _ us hl => of2 (fun _ _ => rfl) us hl
  have btold_group := Ftold_group.binds (ps := ["pieces", "texts"]) fun _ _ _ _ _ _ us hl => of2 (fun _ _ => rfl) us hl
  have btold_piece := Ftold_piece.binds (ps := ["piece", "texts"]) fun _ _ _ _ _ _ us hl => of2 (fun _ _ => rfl) us hl
  have bfill := Ffill.binds (ps := ["T", "F"]) fun _ _ _ _ _ _ us hl => of2 (fun _ _ => rfl) us hl
  have blaw_cell_at := Flaw_cell_at.binds (ps := ["_law_script", "_law_k"]) fun _ _ _ _ _ _ us hl => of2 (fun _ _ => rfl) us hl
  have blaw_short := Flaw_short.binds (ps := ["_law_hands_here", "_law_many", "_law_sort"]) fun _ _ _ _ _ _ us hl => of3 (fun _ _ _ => rfl) us hl
  have blaw_told := Flaw_told.binds (ps := ["_law_piece", "_law_fields_here", "_law_hands_here"]) fun _ _ _ _ _ _ us hl => of3 (fun _ _ _ => rfl) us hl
  refine ⟨PySem.W.fnOf "law" "law" (Z2 Zfa) (Zy Zfa) (Zh Zfa) .none kVlaw dclaw pmlaw anlaw cdlaw ctlaw, fun s v => .of_eq rfl, fun base kb nb => ?_⟩
  have Glaw_numbers := Zhc (P := l.prog) (w := w) (base := base) Flaw_numbers T
  have Glaw_names := Zkb (P := l.prog) (w := w) (base := base) Flaw_names T Glaw_numbers blaw_numbers
  have Glaw_template := Zg4 (P := l.prog) (w := w) (base := base) Flaw_template T
  have Glaw_hands := Zkc (P := l.prog) (w := w) (base := base) Flaw_hands T Glaw_numbers blaw_numbers
  have Glaw_hands_text := Zfp (P := l.prog) (w := w) (base := base) Flaw_hands_text T
  have Glaw_fields := Zit (P := l.prog) (w := w) (base := base) Flaw_fields T Glaw_numbers blaw_numbers Glaw_hands blaw_hands Glaw_hands_text blaw_hands_text
  have Gtold_field := Ziu (P := l.prog) (w := w) (base := base) Ftold_field T
  have Gtold_hand := Zke (P := l.prog) (w := w) (base := base) Ftold_hand T
  have Gtold_hands := Ziv (P := l.prog) (w := w) (base := base) Ftold_hands T Gtold_hand btold_hand
  have Gis_all_of := Zkg (P := l.prog) (w := w) (base := base) Fis_all_of T
  have Gis_text_of := Zix (P := l.prog) (w := w) (base := base) Fis_text_of T Gis_all_of bis_all_of
  have Gread_hand := Zkh (P := l.prog) (w := w) (base := base) Fread_hand T (Zhr kb (PySem.W.mg_of kb nb zc_NoHands) ow_NoHands) Gis_text_of bis_text_of
  have Gread_hands := Ziy (P := l.prog) (w := w) (base := base) Fread_hands T (Zhr kb (PySem.W.mg_of kb nb zc_NoHands) ow_NoHands) Gread_hand bread_hand
  have Gtold_names := Ziz (P := l.prog) (w := w) (base := base) Ftold_names T Gtold_hands btold_hands Gread_hands bread_hands
  have Gtold_piece : FnOk l.prog w K mg base CX0 29 ftold_piece _ ["piece", "texts"] (spOf K 2 Zcn) := Zeq (P := l.prog) (w := w) (base := base) Ftold_group btold_group Ftold_piece btold_piece T Gtold_field btold_field Gtold_names btold_names 12
  have Gtold_group : FnOk l.prog w K mg base CX0 30 ftold_group _ ["pieces", "texts"] (spOf K 2 Zka) := Zff (P := l.prog) (w := w) (base := base) (lv := 29) (by decide) Ftold_group T Gtold_piece btold_piece
  have Gfill := Zvs (P := l.prog) (w := w) (base := base) Ffill T Gtold_piece btold_piece
  have Glaw_cell_at := Zhe (P := l.prog) (w := w) (base := base) Flaw_cell_at T
  have Glaw_short := Zki (P := l.prog) (w := w) (base := base) Flaw_short T
  have Glaw_told : FnOk l.prog w K mg base CX0 13 flaw_told _ ["_law_piece", "_law_fields_here", "_law_hands_here"] (spOf K 3 Zcx) := Zf0 (P := l.prog) (w := w) (base := base) Flaw_told blaw_told T Glaw_short blaw_short 12
  exact Zy4 Flaw T Glaw_names blaw_names Glaw_template blaw_template Glaw_fields blaw_fields Gfill bfill Glaw_cell_at blaw_cell_at Glaw_told blaw_told
theorem Zy6 {K : PySem.W.Frag} {H : Hp} {a : Addr} {ns : List Int} (hn : Zis [.lst (ns.map D.int)] = some (.fz (.bl true))) (hO : Only H) (hS : SqL K H a (ns.map V.int)) : spOf K 1 Zis [.ref a] H (fun v _ => v = .bl true) fun _ _ _ => False := by
  refine ⟨H, [.lst (ns.map D.int)], .fz (.bl true), Same.refl H, .cons (.lst hS (Zl8 ns)) .nil, rfl, hn, fun v H' F' ms _ _ _ _ sh _ _ => ?_⟩
  cases Zdr sh
  rfl
theorem walk {l : PySem.W.OpenLaw} {q : Program} {loose : List Str} {XP : (Str → Option Value) → Heap → Prop} {YP : World → Heap → Prop} {d : DefRec} {K : Params → PySem.W.Frag} (hn : l.most = some 63) (hdf : d.params.defaults = [])
    (hY : ∀ (w : World) (h : Heap), YP w h → (K w.params).In h)
    (F : ∀ (w : World) (mg : Str → Option Value) (fa : Addr) (h : Heap), (K w.params).In h → h.Ns mainGlobals mg → mg d.name = some (.ref fa) →
      ∃ fd : FuncData, (∀ (s : Shared) (u : Value), BindsTo s fd ⟨[u], []⟩ [("_law_script", u)]) ∧ ∀ base : Heap, (K w.params).In base → base.Ns mainGlobals mg → FnOk l.prog w (K w.params) mg base CX0 31 fa fd ["_law_script"] (spOf (K w.params) 1 Zis))
    (hlaw : ∀ ns : List Int, ns.length ≤ 63 → Zis [.lst (ns.map D.int)] = some (.fz (.bl true))) :
    PySem.W.WalkO q loose XP YP l.row.toRowW d [] (fun f vs => PySem.call f vs) :=
  L2.Zq2 (n := 63) (k := 31) (x := "_law_script") (CX := CX0) (sp := fun K => spOf K 1 Zis) hn (by decide) hdf ⟨rfl, by decide, by decide⟩ hY F (fun _ _ _ ns hl hO hS => Zy6 (hlaw ns hl) hO hS) fun _ _ _ _ z => z
end Gen
namespace My
open DL PySem
noncomputable def abc (c : Nat) : Bool := Nat.ble 97 c && Nat.ble c 122
noncomputable def sts (c : Nat) : Bool := (Nat.ble 65 c && Nat.ble c 90) || abc c || (Nat.ble 39 c && Nat.ble c 59) || [32, 33, 38, 61, 63].contains c
theorem Zvt : ∀ c, abc c = true → 97 ≤ c ∧ c ≤ 122 := fun c h => by
  unfold abc at h
  rw [Bool.and_eq_true] at h
  exact ⟨Nat.le_of_ble_eq_true h.1, Nat.le_of_ble_eq_true h.2⟩
noncomputable def Nam (l : List Nat) : Prop := 1 ≤ l.length ∧ l.length ≤ 8 ∧ l.all abc = true ∧ l ≠ [110, 111, 116, 101]
theorem Nam.no {l : List Nat} (h : Nam l) (c : Nat) (hc : c < 97 ∨ 122 < c) : c ∉ l := fun hm => by
  have := Zvt c (List.all_eq_true.mp h.2.2.1 c hm); omega
inductive Tk where
  | op | cl | sg (l : List Nat) | br (l : List Nat)
noncomputable def Tk.l : Tk → List Nat
  | .op => [91]
  | .cl => [93]
  | .sg l => l
  | .br l => 123 :: (l ++ [125])
noncomputable def Tk.isSg : Tk → Bool
  | .sg _ => true
  | _ => false
noncomputable def Tk.ok : Tk → Prop
  | .sg l => l ≠ [] ∧ l.length ≤ 100 ∧ ∀ c ∈ l, c < 128 ∧ sts c = true
  | .br l => 125 ∉ l ∧ l.length ≤ 100
  | _ => True
noncomputable def Gd : Bool → List Tk → Prop
  | _, [] => True
  | p, t :: r => t.ok ∧ ¬ (p = true ∧ t.isSg = true) ∧ Gd t.isSg r
noncomputable def flat (ts : List Tk) : List Nat := ts.flatMap Tk.l
theorem Zpu (t : Tk) (ts : List Tk) : flat (t :: ts) = t.l ++ flat ts := rfl
noncomputable abbrev SGS : Str := "signs"
noncomputable abbrev FLD : Str := "field"
noncomputable abbrev HDS : Str := "hands"
noncomputable abbrev GRP : Str := "group"
theorem Ze3 : Str.ofString "signs" = SGS := rfl
theorem Zg5 : Str.ofString "field" = FLD := rfl
theorem Zkj : Str.ofString "hands" = HDS := rfl
theorem Zy7 : Str.ofString "group" = GRP := rfl
noncomputable def sgD (l : List Nat) : D := .tup [.str SGS, .str (S l)]
noncomputable def fdD (ns : List Str) : D := .tup [.str FLD, .tup (ns.map D.str)]
noncomputable def hdD (n : List Nat) (a b : Nat) : D := .tup [.str HDS, .str (S n), .int (a : Int), .int (b : Int)]
noncomputable def grD (ds : List D) : D := .tup [.str GRP, .tup ds]
noncomputable def hdL (n : List Nat) (a b : Nat) : List Nat := jl [32] [n, [48 + a], [48 + b]]
theorem z2 : 2 ≤ PySem.sizeLine := Z1 (by decide)
theorem z4 : 4 ≤ PySem.sizeLine := Z1 (by decide)
theorem Zpv {c : Nat} {y : List Nat} : ∀ ps : List (List Nat), c ∈ jl y ps → c ∈ y ∨ ∃ p ∈ ps, c ∈ p
  | [], h => nomatch h
  | [p], h => .inr ⟨p, List.mem_cons_self, h⟩
  | p :: q :: r, h => by
    have h : c ∈ p ++ y ++ jl y (q :: r) := h
    rcases List.mem_append.mp h with h | h
    · rcases List.mem_append.mp h with h | h
      · exact .inr ⟨p, List.mem_cons_self, h⟩
      · exact .inl h
    · rcases Zpv (q :: r) h with h | ⟨p', h1, h2⟩
      · exact .inl h
      · exact .inr ⟨p', List.mem_cons_of_mem _ h1, h2⟩
theorem Ztj {y : List Nat} {B : Nat} : ∀ ps : List (List Nat), (∀ p ∈ ps, p.length ≤ B) → (jl y ps).length ≤ ps.length * (B + y.length)
  | [], _ => Nat.zero_le _
  | [p], h => by
    have := h p List.mem_cons_self
    show p.length ≤ _
    simp; omega
  | p :: q :: r, h => by
    have h1 := h p List.mem_cons_self
    have h2 := Ztj (y := y) (B := B) (q :: r) fun x hx => h x (List.mem_cons_of_mem _ hx)
    show (p ++ y ++ jl y (q :: r)).length ≤ _
    rw [List.length_append, List.length_append]
    have e : (p :: q :: r).length * (B + y.length) = (q :: r).length * (B + y.length) + (B + y.length) := by
      rw [List.length_cons, Nat.succ_mul]
    omega
theorem Z1t {ns : List (List Nat)} (hn : ∀ n ∈ ns, Nam n) (c : Nat) (h1 : c < 97 ∨ 122 < c) (h2 : c ≠ 124) : c ∉ jl [124] ns := fun h => by
  rcases Zpv ns h with h | ⟨p, hp, h⟩
  · exact h2 (List.mem_singleton.mp h)
  · exact (hn p hp).no c h1 h
theorem Zy8 {ns : List (List Nat)} (hl : ns.length ≤ 4) (hn : ∀ n ∈ ns, Nam n) : (jl [124] ns).length ≤ 36 := by
  have := Ztj (y := [124]) (B := 8) ns fun p hp => (hn p hp).2.1
  have e : ns.length * (8 + [124].length) ≤ 4 * 9 := Nat.mul_le_mul hl (Nat.le_refl _)
  omega
theorem Z1u {n : List Nat} {a b : Nat} (hn : Nam n) (ha : a ≤ 9) (hb : b ≤ 2) (c : Nat) (h1 : 122 < c) : c ∉ hdL n a b := fun h => by
  unfold hdL at h
  rcases Zpv _ h with h | ⟨p, hp, h'⟩
  · have := List.mem_singleton.mp h; omega
  · rcases List.mem_cons.mp hp with z | hp
    · rw [z] at h'; exact hn.no c (.inr h1) h'
    · rcases List.mem_cons.mp hp with z | hp
      · rw [z] at h'; have := List.mem_singleton.mp h'; omega
      · rw [List.mem_singleton.mp hp] at h'; have := List.mem_singleton.mp h'; omega
theorem Zy9 {n : List Nat} {a b : Nat} (hn : Nam n) : (hdL n a b).length ≤ 12 := by
  have := hn.2.1
  show (n ++ [32] ++ ([48 + a] ++ [32] ++ [48 + b])).length ≤ _
  simp; omega
section
variable (A B : Option SV)
end
noncomputable def Pie : Nat → D → List Tk → Prop
  | 0, _, _ => False
  | n + 1, d, ts => (∃ l, (Tk.sg l).ok ∧ d = sgD l ∧ ts = [.sg l])
    ∨ (∃ ns : List (List Nat), ns ≠ [] ∧ ns.length ≤ 4 ∧ (∀ m ∈ ns, Nam m) ∧ d = fdD (ns.map S) ∧ ts = [.br (jl [124] ns)])
    ∨ (∃ nm a b, Nam nm ∧ 1 ≤ a ∧ a ≤ 9 ∧ b ≤ 2 ∧ d = hdD nm a b ∧ ts = [.br (hdL nm a b)])
    ∨ ∃ qs : List (D × List Tk), qs ≠ [] ∧ qs.length ≤ 100 ∧ (∀ q ∈ qs, Pie n q.1 q.2) ∧ d = grD (qs.map (·.1)) ∧ ts = .op :: (qs.flatMap (·.2) ++ [.cl])
theorem Pie.mono : ∀ {n : Nat} {d : D} {ts : List Tk}, Pie n d ts → Pie (n + 1) d ts
  | 0, _, _, h => h.elim
  | n + 1, d, ts, h => by
    rcases h with h | h | h | ⟨qs, h1, h2, h3, h4⟩
    · exact .inl h
    · exact .inr (.inl h)
    · exact .inr (.inr (.inl h))
    · exact .inr (.inr (.inr ⟨qs, h1, h2, fun q hq => (h3 q hq).mono, h4⟩))
noncomputable def Tk.isCl : Tk → Bool
  | .cl => true
  | _ => false
theorem Gd.ok : ∀ {p : Bool} {ts : List Tk}, Gd p ts → ∀ t ∈ ts, t.ok
  | _, [], _, _, h => nomatch h
  | _, t :: ts, g, u, h => by
    rcases List.mem_cons.mp h with z | z
    · subst z; exact g.1
    · exact g.2.2.ok u z
theorem two1 (x y : D) : L2.atI [x, y] 1 = some y := rfl
theorem two0 (x y : D) : L2.atI [x, y] 0 = some x := rfl
theorem Zsc (x y z u : D) : L2.atI [x, y, z, u] 0 = some x := rfl
theorem Zlq (x y z u : D) : L2.atI [x, y, z, u] 1 = some y := rfl
theorem Zza (x y z u : D) : L2.atI [x, y, z, u] 2 = some z := rfl
theorem Zzb (x y z u : D) : L2.atI [x, y, z, u] 3 = some u := rfl
theorem fl_s : ¬ FLD = SGS := by decide +kernel
theorem hd_s : ¬ HDS = SGS := by decide +kernel
theorem hd_f : ¬ HDS = FLD := by decide +kernel
theorem gr_s : ¬ GRP = SGS := by decide +kernel
theorem gr_f : ¬ GRP = FLD := by decide +kernel
theorem gr_h : ¬ GRP = HDS := by decide +kernel
noncomputable abbrev Q := D × List Tk
noncomputable def tks (qs : List Q) : List Tk := qs.flatMap (·.2)
noncomputable def dsq (qs : List Q) : List D := qs.map (·.1)
noncomputable def nc (ts : List Tk) : Nat := ts.countP fun t => !t.isCl
theorem Zg6 (a b : List Tk) : nc (a ++ b) = nc a + nc b := List.countP_append
theorem Zi2 (a b : List Q) : tks (a ++ b) = tks a ++ tks b := List.flatMap_append
theorem Zi3 (q : Q) : tks [q] = q.2 := by unfold tks; simp
theorem Zlr (a b : List Q) : dsq (a ++ b) = dsq a ++ dsq b := List.map_append
noncomputable def Zf8 : Bool → List Tk → Bool
  | p, [] => p
  | _, t :: r => Zf8 t.isSg r
theorem Zg7 : ∀ (p : Bool) (a b : List Tk), Zf8 p (a ++ b) = Zf8 (Zf8 p a) b
  | _, [], _ => rfl
  | _, t :: a, b => Zg7 t.isSg a b
theorem Ztk : ∀ {p : Bool} {a b : List Tk}, Gd p a → Gd (Zf8 p a) b → Gd p (a ++ b)
  | _, [], _, _, h => h
  | _, t :: a, b, ⟨h1, h2, h3⟩, h => ⟨h1, h2, Ztk h3 h⟩
theorem Gd.any {ts : List Tk} (h : Gd true ts) (p : Bool) : Gd p ts := by
  cases ts with
  | nil => trivial
  | cons t r => exact ⟨h.1, fun z => h.2.1 ⟨rfl, z.2⟩, h.2.2⟩
structure Lev (n : Nat) (qs : List Q) : Prop where
  pie : ∀ q ∈ qs, Pie n q.1 q.2
  gd : Gd false (tks qs)
theorem Zfq : ∀ qs : List Q, (∀ q ∈ qs, 1 ≤ nc q.2 ∧ q.2.countP Tk.isCl ≤ nc q.2) → qs.length ≤ nc (tks qs) ∧ (tks qs).countP Tk.isCl ≤ nc (tks qs)
  | [], _ => ⟨Nat.zero_le _, Nat.zero_le _⟩
  | q :: qs, h => by
    obtain ⟨h1, h2⟩ := h q List.mem_cons_self
    obtain ⟨h3, h4⟩ := Zfq qs fun p hp => h p (List.mem_cons_of_mem _ hp)
    have e : tks (q :: qs) = q.2 ++ tks qs := rfl
    rw [e, Zg6, List.countP_append, List.length_cons]
    omega
theorem Zpw (ts : List Tk) : nc (.op :: (ts ++ [.cl])) = nc ts + 1 := by
  have e : (.op :: (ts ++ [.cl]) : List Tk) = [.op] ++ (ts ++ [.cl]) := rfl
  rw [e, Zg6, Zg6]
  show 1 + (nc ts + 0) = _
  omega
theorem Zzc (ts : List Tk) : (.op :: (ts ++ [.cl]) : List Tk).countP Tk.isCl = ts.countP Tk.isCl + 1 := by
  have e : (.op :: (ts ++ [.cl]) : List Tk) = [.op] ++ (ts ++ [.cl]) := rfl
  rw [e, List.countP_append, List.countP_append]
  show 0 + (ts.countP Tk.isCl + 1) = _
  omega
theorem Zg8 : ∀ (n : Nat) (d : D) (ts : List Tk), Pie n d ts → 1 ≤ nc ts ∧ ts.countP Tk.isCl ≤ nc ts
  | 0, _, _, h => h.elim
  | n + 1, d, ts, h => by
    rcases h with ⟨l, h1, rfl, rfl⟩ | ⟨ns, h0, h1, h2, rfl, rfl⟩ | ⟨nm, a, b, h1, h2, h3, h4, rfl, rfl⟩ | ⟨qs, h0, h1, h2, rfl, rfl⟩
    · exact ⟨Nat.le_refl 1, Nat.zero_le _⟩
    · exact ⟨Nat.le_refl 1, Nat.zero_le _⟩
    · exact ⟨Nat.le_refl 1, Nat.zero_le _⟩
    · have := Zfq qs fun q hq => Zg8 n q.1 q.2 (h2 q hq)
      have e1 := Zpw (tks qs)
      have e2 := Zzc (tks qs)
      show 1 ≤ nc (.op :: (tks qs ++ [.cl])) ∧ (.op :: (tks qs ++ [.cl]) : List Tk).countP Tk.isCl ≤ nc (.op :: (tks qs ++ [.cl]))
      omega
theorem Zsd : ∀ {n : Nat} {d : D} {ts : List Tk}, Pie n d ts → ∃ k r, d = .tup (.str k :: r) ∧ ((k = SGS ∧ ∀ p, Zf8 p ts = true) ∨ (¬ k = SGS ∧ ∀ p, Zf8 p ts = false))
  | 0, _, _, h => h.elim
  | n + 1, d, ts, h => by
    rcases h with ⟨l, h1, rfl, rfl⟩ | ⟨ns, h0, h1, h2, rfl, rfl⟩ | ⟨nm, a, b, h1, h2, h3, h4, rfl, rfl⟩ | ⟨qs, h0, h1, h2, rfl, rfl⟩
    · exact ⟨_, _, rfl, .inl ⟨rfl, fun p => rfl⟩⟩
    · exact ⟨_, _, rfl, .inr ⟨fl_s, fun p => rfl⟩⟩
    · exact ⟨_, _, rfl, .inr ⟨hd_s, fun p => rfl⟩⟩
    · refine ⟨_, _, rfl, .inr ⟨gr_s, fun p => ?_⟩⟩
      show Zf8 false (qs.flatMap (·.2) ++ [.cl]) = false
      rw [Zg7]
      rfl
structure Inv (lv : List (List Q)) (m : Nat) : Prop where
  lev : ∀ i qs, lv[i]? = some qs → Lev (4 - i) qs
  one : 1 ≤ lv.length
  four : lv.length ≤ 4
  sum : (lv.map fun qs => nc (tks qs)).sum + lv.length ≤ m + 1
theorem Inv.start : Inv [[]] 0 := by
  refine ⟨fun i qs h => ?_, by decide, by decide, by decide⟩
  match i, h with
  | 0, h => cases h; exact ⟨(fun _ h => nomatch h), trivial⟩
  | i + 1, h => cases h
theorem Inv.up {lv : List (List Q)} {m : Nat} (h : Inv lv m) : Inv lv (m + 1) := ⟨h.lev, h.one, h.four, by have := h.sum; omega⟩
theorem Inv.push {lv : List (List Q)} {m : Nat} (h : Inv lv m) (hl : lv.length < 4) : Inv (lv ++ [[]]) (m + 1) := by
  refine ⟨fun i qs e => ?_, by simp, by simp; omega, ?_⟩
  · by_cases hi : i < lv.length
    · rw [List.getElem?_append_left hi] at e; exact h.lev i qs e
    · rw [List.getElem?_append_right (by omega)] at e
      match hj : i - lv.length, e with
      | 0, e => cases e; exact ⟨(fun _ h => nomatch h), trivial⟩
      | j + 1, e => cases e
  · have := h.sum
    rw [List.map_append, List.sum_append, List.length_append]
    show _ + 0 + (_ + 1) ≤ _
    omega
theorem Inv.top {lv : List (List Q)} {qs : List Q} {m : Nat} (h : Inv (lv ++ [qs]) m) : Lev (4 - lv.length) qs := h.lev lv.length qs (by rw [List.getElem?_append_right (Nat.le_refl _), Nat.sub_self]; rfl)
theorem Inv.with {lv : List (List Q)} {qs ps : List Q} {m k : Nat} (h : Inv (lv ++ [qs]) m) (hp : Lev (4 - lv.length) ps) (hk : nc (tks ps) ≤ nc (tks qs) + k) : Inv (lv ++ [ps]) (m + k) := by
  refine ⟨fun i rs e => ?_, by simp, by have := h.four; simp at this ⊢; omega, ?_⟩
  · by_cases hi : i < lv.length
    · refine h.lev i rs ?_
      rw [List.getElem?_append_left hi] at e ⊢; exact e
    · rw [List.getElem?_append_right (by omega)] at e
      match hj : i - lv.length, e with
      | 0, e => cases e; rw [show i = lv.length by omega]; exact hp
      | j + 1, e => cases e
  · have := h.sum
    rw [List.map_append, List.sum_append, List.length_append] at this ⊢
    have this : (lv.map fun qs => nc (tks qs)).sum + (nc (tks qs) + 0) + (lv.length + 1) ≤ m + 1 := this
    show (lv.map fun qs => nc (tks qs)).sum + (nc (tks ps) + 0) + (lv.length + 1) ≤ m + k + 1
    omega
theorem Lev.add {n : Nat} {qs : List Q} {d : D} {ts : List Tk} (h : Lev n qs) (hp : Pie n d ts) (hg : Gd (Zf8 false (tks qs)) ts) : Lev n (qs ++ [(d, ts)]) := by
  refine ⟨fun q hq => ?_, ?_⟩
  · rcases List.mem_append.mp hq with z | z
    · exact h.pie q z
    · rw [List.mem_singleton.mp z]; exact hp
  · rw [Zi2, Zi3]
    exact Ztk h.gd hg
theorem Pie.le {n : Nat} {d : D} {ts : List Tk} (h : Pie n d ts) : ∀ {m : Nat}, n ≤ m → Pie m d ts := by
  intro m hm
  obtain ⟨k, rfl⟩ : ∃ k, m = n + k := ⟨m - n, by omega⟩
  clear hm
  induction k with
  | zero => exact h
  | succ k ih => exact ih.mono
theorem Inv.add {lv : List (List Q)} {qs : List Q} {m : Nat} {d : D} {t : Tk} (h : Inv (lv ++ [qs]) m) (hp : Pie 1 d [t]) (hg : Gd (Zf8 false (tks qs)) [t]) : Inv (lv ++ [qs ++ [(d, [t])]]) (m + 1) := by
  have h4 := h.four
  rw [List.length_append, List.length_singleton] at h4
  refine h.with (h.top.add (hp.le (by omega)) hg) ?_
  rw [Zi2, Zi3, Zg6]
  have : nc [t] ≤ 1 := List.countP_le_length
  show nc (tks qs) + nc [t] ≤ _
  omega
theorem Inv.drop {lv : List (List Q)} {ps : List Q} {m : Nat} (h : Inv (lv ++ [ps] ++ [[]]) m) : Inv (lv ++ [ps]) m := by
  refine ⟨fun i rs e => h.lev i rs ?_, by simp, by have := h.four; simp at this ⊢; omega, ?_⟩
  · have hi : i < (lv ++ [ps]).length := by
      have := (List.getElem?_eq_some_iff.mp e).1
      exact this
    rw [List.getElem?_append_left hi]; exact e
  · have := h.sum
    rw [List.map_append, List.sum_append, List.length_append] at this
    have this : ((lv ++ [ps]).map fun qs => nc (tks qs)).sum + 0 + ((lv ++ [ps]).length + 1) ≤ m + 1 := this
    omega
theorem Zzd : ∀ {p : Bool} {ts : List Tk}, Gd p ts → Gd p (ts ++ [.cl])
  | _, [], _ => ⟨trivial, (fun h => nomatch h.2), trivial⟩
  | _, t :: ts, ⟨h1, h2, h3⟩ => ⟨h1, h2, Zzd h3⟩
noncomputable def grQ (qs : List Q) : Q := (grD (dsq qs), .op :: (tks qs ++ [.cl]))
theorem Inv.shut {lv : List (List Q)} {ps qs : List Q} {m : Nat} (h : Inv (lv ++ [ps] ++ [qs]) m) (h0 : qs ≠ []) (hm : m ≤ 60) : Inv (lv ++ [ps ++ [grQ qs]]) m := by
  have h4 := h.four
  rw [List.length_append, List.length_append, List.length_singleton, List.length_singleton] at h4
  have ht := h.top
  rw [List.length_append, List.length_singleton] at ht
  have hs := h.sum
  have hq : qs.length ≤ 100 := by
    have := (Zfq qs fun q hq => Zg8 _ q.1 q.2 (ht.pie q hq)).1
    rw [List.map_append, List.sum_append] at hs
    have hs : ((lv ++ [ps]).map fun qs => nc (tks qs)).sum + (nc (tks qs) + 0) + _ ≤ m + 1 := hs
    omega
  have hp : Lev (4 - lv.length) ps := h.lev lv.length ps (by
    rw [List.append_assoc, List.getElem?_append_right (Nat.le_refl _), Nat.sub_self]; rfl)
  have e4 : 4 - lv.length = (4 - (lv.length + 1)) + 1 := by omega
  have pg : Pie (4 - lv.length) (grD (dsq qs)) (.op :: (tks qs ++ [.cl])) := by
    rw [e4]
    exact .inr (.inr (.inr ⟨qs, h0, hq, ht.pie, rfl, rfl⟩))
  have gg : Gd true (.op :: (tks qs ++ [.cl])) := ⟨trivial, (fun z => nomatch z.2), Zzd ht.gd⟩
  have la := hp.add (d := grD (dsq qs)) pg (gg.any _)
  refine ⟨fun i rs e => ?_, by simp, by simp; omega, ?_⟩
  · by_cases hi : i < lv.length
    · refine h.lev i rs ?_
      rw [List.append_assoc]
      rw [List.getElem?_append_left hi] at e ⊢; exact e
    · rw [List.getElem?_append_right (by omega)] at e
      match hj : i - lv.length, e with
      | 0, e => cases e; rw [show i = lv.length by omega]; exact la
      | j + 1, e => cases e
  · have hn := Zpw (tks qs)
    rw [List.map_append, List.sum_append, List.map_append, List.sum_append, List.length_append, List.length_append] at hs
    have hs : (lv.map fun qs => nc (tks qs)).sum + (nc (tks ps) + 0) + (nc (tks qs) + 0) + (lv.length + 1 + 1) ≤ m + 1 := hs
    rw [List.map_append, List.sum_append, List.length_append]
    show (lv.map fun qs => nc (tks qs)).sum + (nc (tks (ps ++ [grQ qs])) + 0) + (lv.length + 1) ≤ m + 1
    rw [Zi2, Zi3, Zg6]
    show (lv.map fun qs => nc (tks qs)).sum + (nc (tks ps) + nc (.op :: (tks qs ++ [.cl])) + 0) + (lv.length + 1) ≤ m + 1
    omega
theorem Zpx : ∀ ts : List Tk, (∀ t ∈ ts, t.ok) → (flat ts).length ≤ 102 * ts.length
  | [], _ => Nat.zero_le _
  | t :: ts, h => by
    have ih := Zpx ts fun u hu => h u (List.mem_cons_of_mem _ hu)
    have ht := h t List.mem_cons_self
    rw [Zpu, List.length_append, List.length_cons]
    have : t.l.length ≤ 102 := by
      cases t with
      | op => decide
      | cl => decide
      | sg l => have := ht.2.1; show l.length ≤ 102; omega
      | br l => have := ht.2; show (123 :: (l ++ [125])).length ≤ 102; simp; omega
    omega
theorem Zze (ts : List Tk) : ts.length = nc ts + ts.countP Tk.isCl := by
  have := List.length_eq_countP_add_countP (p := Tk.isCl) (l := ts)
  have e : ts.countP (fun a => decide ¬ (Tk.isCl a = true)) = nc ts := by
    unfold nc
    congr 1
    funext t
    cases t <;> rfl
  rw [e] at this
  omega
structure Tmp (qs : List Q) : Prop where
  lev : Lev 4 qs
  few : nc (tks qs) ≤ 30
  len : (flat (tks qs)).length ≤ 100000
  most : qs.length ≤ 100
theorem Inv.tmp {qs : List Q} {m : Nat} (h : Inv [qs] m) (hm : m ≤ 30) : Tmp qs := by
  have l := h.lev 0 qs rfl
  have hs : nc (tks qs) + 0 + 1 ≤ m + 1 := h.sum
  obtain ⟨c1, c2⟩ := Zfq qs fun q hq => Zg8 _ q.1 q.2 (l.pie q hq)
  have f := Zpx (tks qs) l.gd.ok
  have e := Zze (tks qs)
  exact ⟨l, by omega, by omega, by omega⟩
end My
namespace My
open DL PySem
noncomputable def Num (x : Int) : Prop := 0 ≤ x ∧ x < 2147483647
theorem Zvu (x : Int) : Num (x % 2147483647) := ⟨Int.emod_nonneg _ (by decide), Int.emod_lt_of_pos _ (by decide)⟩
theorem Zf1 (a b : Option SV) : ∀ (n s : Nat) (ms : List Int) (x : Int) (y : Option SV), (∀ m ∈ ms, Num m) → ms.length + n ≤ 1000 →
    ∃ (ms' : List Int) (x' : Int) (y' : Option SV), forD (Zg 4) Gen.Zcd (nats s n) [a, b, some (.ol (ms.map D.int)), some (.fz (.int x)), y] = some (.nx [a, b, some (.ol (ms'.map D.int)), some (.fz (.int x')), y']) ∧ (∀ m ∈ ms', Num m) ∧ ms'.length = ms.length + n
  | 0, s, ms, x, y, h, _ => ⟨ms, x, y, rfl, h, rfl⟩
  | n + 1, s, ms, x, y, h, hl => by
    have z : ms.length < PySem.sizeLine := Zbj (by omega)
    have hb : Gen.Zcd [a, b, some (.ol (ms.map D.int)), some (.fz (.int x)), some (.fz (.int (s : Int)))] = some (.nx [a, b, some (.ol ((ms ++ [(x + (s : Int) + 1) * 48271 % 2147483647]).map D.int)), some (.fz (.int ((x + (s : Int) + 1) * 48271 % 2147483647))), some (.fz (.int (s : Int)))]) := by
      have hm := Zs9 (i := x + (s : Int) + 1) (j := 48271) (by omega)
      unfold Gen.Zcd
      simp [hm, z]
    obtain ⟨ms', x', y', e, h1, h2⟩ := Zf1 a b n (s + 1) (ms ++ [(x + (s : Int) + 1) * 48271 % 2147483647]) ((x + (s : Int) + 1) * 48271 % 2147483647) (some (.fz (.int (s : Int)))) (fun m hm => by
      rcases List.mem_append.mp hm with hm | hm
      · exact h m hm
      · rw [List.mem_singleton.mp hm]; exact Zvu _) (by rw [List.length_append, List.length_singleton]; omega)
    refine ⟨ms', x', y', (Zcq (ds := nats (s + 1) n) (by simp) hb).trans e, h1, by rw [h2, List.length_append, List.length_singleton]; omega⟩
theorem Zfr (c : Int) (n : Nat) (h : n ≤ 1000) : ∃ ms : List Int, Gen.Zab [.int c, .int (n : Int)] = some (.ol (ms.map D.int)) ∧ (∀ m ∈ ms, Num m) ∧ ms.length = n := by
  obtain ⟨ms, x', y', e, h1, h2⟩ := Zf1 (some (.fz (.int c))) (some (.fz (.int (n : Int)))) n 0 [] (c % 2147483647) none (fun _ h => nomatch h) (by simpa using h)
  refine ⟨ms, ?_, h1, by simpa using h2⟩
  have g1 : rngP (n : Int) := Ze6 (by omega)
  have et : ((n : Int)).toNat = n := by omega
  have z0 : 0 ≤ PySem.sizeLine := Nat.zero_le _
  simp only [List.map_nil] at e
  unfold Gen.Zab Gen.Zct
  simp [-forD, g1, et, Zcl, e]
noncomputable abbrev L18 : Str := "bcdfghklmpqrstvwxz"
theorem Zvv : L18.cps.toList.length = 18 := by decide +kernel
theorem Zms : L18.length ≤ PySem.sizeLine := by decide +kernel
noncomputable def LC (j : Nat) : Nat := L18.cps.toList.getD j 0
theorem Zzf : ∀ i < 18, ∀ j < 18, LC i = LC j → i = j := by decide +kernel
theorem Zzg : ∀ i < 18, abc (LC i) = true ∧ LC i ≠ 111 := by decide +kernel
theorem Z1v (i : Int) : L2.atI L18.cps.toList (i % 18) = some (LC (i % 18).toNat) := by
  have h0 : 0 ≤ i % 18 := Int.emod_nonneg _ (by decide)
  have h1 : i % 18 < 18 := Int.emod_lt_of_pos _ (by decide)
  obtain ⟨j, hj⟩ := Int.eq_ofNat_of_zero_le h0
  rw [hj]
  have hjl : j < L18.cps.toList.length := by rw [Zvv]; omega
  refine Zeb _ _ _ ?_
  unfold LC
  rw [List.getD_eq_getElem?_getD, show ((j : Int)).toNat = j by omega, List.getElem?_eq_getElem hjl]
  rfl
noncomputable def sgn (f : Nat → Int) (at' : Int) (t k : Nat) : Nat := LC ((f k + (t : Int) * (if (k : Int) = at' then 1 else 0)) % 18).toNat
noncomputable def nmL (f : Nat → Int) (at' : Int) (size t : Nat) : List Nat := (List.range size).map (sgn f at' t)
theorem Zpy (a0 a3 a5 : Option SV) (xs : List D) (y at' : Int) (t k : Nat) (hy : L2.atI xs (k : Int) = some (.int y)) (w : List Nat) (hw : w.length ≤ 1000) :
    Gen.Zav [a0, some (.fz (.str L18)), some (.ol xs), a3, some (.fz (.int at')), a5, some (.fz (.int (t : Int))), some (.fz (.str (S w))), some (.fz (.int (k : Int)))] = some (.nx [a0, some (.fz (.str L18)), some (.ol xs), a3, some (.fz (.int at')), a5, some (.fz (.int (t : Int))), some (.fz (.str (S (w ++ [LC ((y + (t : Int) * (if (k : Int) = at' then 1 else 0)) % 18).toNat])))), some (.fz (.int (k : Int)))]) := by
  have go : ∀ ki ti : Int, L2.atI xs ki = some (.int y) → ∀ b : Int, (b = 0 ∨ b = 1) → (if ki = at' then (1 : Int) else 0) = b → ∀ ch, L2.atI L18.cps.toList ((y + ti * b) % 18) = some ch →
      Gen.Zav [a0, some (.fz (.str L18)), some (.ol xs), a3, some (.fz (.int at')), a5, some (.fz (.int ti)), some (.fz (.str (S w))), some (.fz (.int ki))] = some (.nx [a0, some (.fz (.str L18)), some (.ol xs), a3, some (.fz (.int at')), a5, some (.fz (.int ti)), some (.fz (.str (S (w ++ [ch])))), some (.fz (.int ki))]) := by
    intro ki ti hy b hb hif ch hch
    have hm := Zs9 (i := ti) (j := b) (by omega)
    have z : (S w).length + (⟨#[ch]⟩ : Str).length ≤ PySem.sizeLine := Z1 (by rw [Zyz w]; show w.length + 1 ≤ _; omega)
    have ea : S w ++ (⟨#[ch]⟩ : Str) = S (w ++ [ch]) := Zy0 w [ch]
    by_cases hk : ki = at'
    · rw [if_pos hk] at hif
      subst hif
      unfold Gen.Zav
      simp [hk] at hm hch hy ⊢
      simp [hm, hch, hy, Zms, z, ea]
    · rw [if_neg hk] at hif
      subst hif
      unfold Gen.Zav
      simp [hk] at hm hch ⊢
      simp [hk, hm, hch, hy, Zms, z, ea]
  exact go (k : Int) (t : Int) hy (if (k : Int) = at' then 1 else 0) (by split <;> simp) rfl _ (Z1v _)
theorem Zpz (a0 a3 a5 : Option SV) (xs : List D) (f : Nat → Int) (at' : Int) (t size : Nat) (hf : ∀ k, k < size → L2.atI xs (k : Int) = some (.int (f k))) (hs : size ≤ 100) (x8 : Option SV) :
    ∃ y8, forD (Zg 8) Gen.Zav (nats 0 size) [a0, some (.fz (.str L18)), some (.ol xs), a3, some (.fz (.int at')), a5, some (.fz (.int (t : Int))), some (.fz (.str (S []))), x8] = some (.nx [a0, some (.fz (.str L18)), some (.ol xs), a3, some (.fz (.int at')), a5, some (.fz (.int (t : Int))), some (.fz (.str (S (nmL f at' size t)))), y8]) := by
  obtain ⟨δ', e, y8, hy⟩ := Zg2 (tg := Zg 8) (body := Gen.Zav) (P := fun i δ => ∃ y8, δ = [a0, some (.fz (.str L18)), some (.ol xs), a3, some (.fz (.int at')), a5, some (.fz (.int (t : Int))), some (.fz (.str (S (nmL f at' i t)))), y8]) size 0 [a0, some (.fz (.str L18)), some (.ol xs), a3, some (.fz (.int at')), a5, some (.fz (.int (t : Int))), some (.fz (.str (S []))), x8] ⟨x8, rfl⟩ (fun i _ hi δ ⟨y8, hy⟩ => by
    subst hy
    have e := Zpy a0 a3 a5 xs (f i) at' t i (hf i (by omega)) (nmL f at' i t) (by unfold nmL; simp; omega)
    refine ⟨[a0, some (.fz (.str L18)), some (.ol xs), a3, some (.fz (.int at')), a5, some (.fz (.int (t : Int))), some (.fz (.str (S (nmL f at' i t)))), some (.fz (.int (i : Int)))], _, by simp, e, some (.fz (.int (i : Int))), ?_⟩
    have : nmL f at' (i + 1) t = nmL f at' i t ++ [sgn f at' t i] := by unfold nmL; rw [List.range_succ, List.map_append]; rfl
    rw [this]; rfl)
  subst hy
  rw [Nat.zero_add] at e
  exact ⟨y8, e⟩
noncomputable def Zcr (f : Nat → Int) (at' : Int) (size m : Nat) : List (List Nat) := (List.range m).map fun t => nmL f at' size t
theorem Zls (a0 : Option SV) (xs : List D) (f : Nat → Int) (at' : Int) (size : Nat) (hf : ∀ k, k < size → L2.atI xs (k : Int) = some (.int (f k))) (hs : size ≤ 8) (m : Nat) (hm : m ≤ 100) :
    ∃ δ, forD (Zg 6) Gen.Zcu (nats 0 m) [a0, some (.fz (.str L18)), some (.ol xs), some (.fz (.int (size : Int))), some (.fz (.int at')), some (.ol []), none, none, none] = some (.nx δ) ∧ δ[5]? = some (some (.ol (((Zcr f at' size m).map S).map D.str))) := by
  obtain ⟨δ', e, y6, y7, y8, hy⟩ := Zg2 (tg := Zg 6) (body := Gen.Zcu) (P := fun i δ => ∃ y6 y7 y8, δ = [a0, some (.fz (.str L18)), some (.ol xs), some (.fz (.int (size : Int))), some (.fz (.int at')), some (.ol (((Zcr f at' size i).map S).map D.str)), y6, y7, y8]) m 0 [a0, some (.fz (.str L18)), some (.ol xs), some (.fz (.int (size : Int))), some (.fz (.int at')), some (.ol []), none, none, none] ⟨none, none, none, rfl⟩ (fun i _ hi δ ⟨y6, y7, y8, hy⟩ => by
    subst hy
    obtain ⟨z8, e⟩ := Zpz a0 (some (.fz (.int (size : Int)))) (some (.ol (((Zcr f at' size i).map S).map D.str))) xs f at' i size hf (by omega) y8
    have g1 : rngP (size : Int) := Ze6 (by omega)
    have et : ((size : Int)).toNat = size := by omega
    have z : ((Zcr f at' size i).map S).length < PySem.sizeLine := Zbj (by unfold Zcr; simp; omega)
    have he : Str.ofString "" = S [] := rfl
    have hr : (Zcr f at' size (i + 1)).map S = (Zcr f at' size i).map S ++ [S (nmL f at' size i)] := by unfold Zcr; rw [List.range_succ, List.map_append, List.map_append]; rfl
    refine ⟨[a0, some (.fz (.str L18)), some (.ol xs), some (.fz (.int (size : Int))), some (.fz (.int at')), some (.ol (((Zcr f at' size i).map S).map D.str)), some (.fz (.int (i : Int))), y7, y8], [a0, some (.fz (.str L18)), some (.ol xs), some (.fz (.int (size : Int))), some (.fz (.int at')), some (.ol (((Zcr f at' size (i + 1)).map S).map D.str)), some (.fz (.int (i : Int))), some (.fz (.str (S (nmL f at' size i)))), z8], by simp, ?_, _, _, _, rfl⟩
    rw [hr]
    generalize (Zcr f at' size i).map S = NL at *
    unfold Gen.Zcu
    simp [-forD, he, g1, et, Zcl, e, z])
  subst hy
  rw [Nat.zero_add] at e
  exact ⟨_, e, rfl⟩
theorem Zse (c : Int) : ∃ ws : List (List Nat), Gen.Zc1 [.int c] = some (.ol ((ws.map S).map D.str)) ∧ ws.length = 6 ∧ ws.Nodup ∧ ∀ w ∈ ws, Nam w := by
  obtain ⟨ms, e1, _, e3⟩ := Zfr c 10 (by decide)
  have i10 : ((10 : Nat) : Int) = 10 := rfl
  rw [i10] at e1
  have hf : ∀ k : Nat, k < 10 → L2.atI (ms.map D.int) (k : Int) = some (.int (ms.getD k 0)) := fun k hk => Zeb _ _ _ (by rw [List.getElem?_map, List.getD_eq_getElem?_getD, List.getElem?_eq_getElem (by omega)]; rfl)
  have a8 : L2.atI (ms.map D.int) 8 = some (.int (ms.getD 8 0)) := hf 8 (by decide)
  have a9 : L2.atI (ms.map D.int) 9 = some (.int (ms.getD 9 0)) := hf 9 (by decide)
  generalize hg : (fun k : Nat => ms.getD k 0) = f at *
  have hf : ∀ k : Nat, k < 10 → L2.atI (ms.map D.int) (k : Int) = some (.int (f k)) := fun k hk => by rw [← hg]; exact hf k hk
  have a8 : L2.atI (ms.map D.int) 8 = some (.int (f 8)) := hf 8 (by decide)
  have a9 : L2.atI (ms.map D.int) 9 = some (.int (f 9)) := hf 9 (by decide)
  have s0 : 0 ≤ f 8 % 8 := Int.emod_nonneg _ (by decide)
  have s1 : f 8 % 8 < 8 := Int.emod_lt_of_pos _ (by decide)
  obtain ⟨size, hs⟩ : ∃ n : Nat, (n : Int) = 1 + f 8 % 8 := ⟨(1 + f 8 % 8).toNat, by omega⟩
  have hs1 : 1 ≤ size := by omega
  have hs8 : size ≤ 8 := by omega
  have p0 : (0 : Int) < (size : Int) := by omega
  have b0 : 0 ≤ f 9 % (size : Int) := Int.emod_nonneg _ (by omega)
  have b1 : f 9 % (size : Int) < (size : Int) := Int.emod_lt_of_pos _ p0
  generalize hat : f 9 % (size : Int) = at' at b0 b1
  obtain ⟨δ, e, hδ⟩ := Zls (some (.fz (.int c))) (ms.map D.int) f at' size (fun k hk => hf k (by omega)) hs8 6 (by decide)
  refine ⟨Zcr f at' size 6, ?_, by unfold Zcr; simp, ?_, fun w hw => ?_⟩
  · generalize (Zcr f at' size 6).map S = NL at hδ ⊢
    generalize ms.map D.int = MS at *
    have g1 : rngP (6 : Int) := Zk3 (by decide) (by decide)
    have et : ((6 : Int)).toNat = 6 := rfl
    have hs0 : 0 < size := by omega
    unfold Gen.Zc1 Gen.Zds
    simp [-forD, e1, a8, a9, ← hs, p0, hs0, hat, g1, et, Zcl, e, hδ]
  · unfold Zcr
    refine List.Pairwise.map _ (R := fun a b => a ≠ b ∧ a < 6 ∧ b < 6) (fun a b h => ?_) ?_
    · intro hl
      obtain ⟨hne, ha, hb⟩ := h
      obtain ⟨k, hk⟩ := Int.eq_ofNat_of_zero_le b0
      have hks : k < size := by omega
      have e1 : (nmL f at' size a)[k]? = some (sgn f at' a k) := by unfold nmL; rw [List.getElem?_map, List.getElem?_range hks]; rfl
      have e2 : (nmL f at' size b)[k]? = some (sgn f at' b k) := by unfold nmL; rw [List.getElem?_map, List.getElem?_range hks]; rfl
      have hl : nmL f at' size a = nmL f at' size b := hl
      rw [hl, e2] at e1
      have e3 := Option.some.inj e1
      unfold sgn at e3
      rw [if_pos hk.symm] at e3
      have q := fun y : Int => (Int.emod_nonneg y (show (18 : Int) ≠ 0 by decide))
      have q' := fun y : Int => (Int.emod_lt_of_pos y (show (0 : Int) < 18 by decide))
      have r1 := q (f k + (a : Int) * 1)
      have r2 := q' (f k + (a : Int) * 1)
      have r3 := q (f k + (b : Int) * 1)
      have r4 := q' (f k + (b : Int) * 1)
      have e4 := Zzf _ (by omega) _ (by omega) e3
      generalize f k = y at *
      omega
    · have nd : (List.range 6).Pairwise (fun a b => a < b) := List.pairwise_lt_range
      refine (List.Pairwise.and_mem.mp nd).imp fun {a b} h => ?_
      exact ⟨Nat.ne_of_lt h.2.2, List.mem_range.mp h.1, List.mem_range.mp h.2.1⟩
  · unfold Zcr at hw
    obtain ⟨t, _, rfl⟩ := List.mem_map.mp hw
    have hl : (nmL f at' size t).length = size := by unfold nmL; simp
    have hc : ∀ c ∈ nmL f at' size t, abc c = true ∧ c ≠ 111 := fun c hc => by
      unfold nmL at hc
      obtain ⟨k, _, rfl⟩ := List.mem_map.mp hc
      have r1 := Int.emod_nonneg (f k + (t : Int) * (if (k : Int) = at' then 1 else 0)) (show (18 : Int) ≠ 0 by decide)
      have r2 := Int.emod_lt_of_pos (f k + (t : Int) * (if (k : Int) = at' then 1 else 0)) (show (0 : Int) < 18 by decide)
      exact Zzg _ (by omega)
    refine ⟨by omega, by omega, List.all_eq_true.mpr fun c h => (hc c h).1, fun z => ?_⟩
    exact (hc 111 (by rw [z]; decide)).2 rfl
theorem fl_g : ¬ FLD = GRP := by decide +kernel
noncomputable def nmsD : Nat → D → List Str
  | 0, _ => []
  | n + 1, .tup [.str k, .tup xs] => if k = GRP then xs.flatMap (nmsD n) else (strs? xs).getD []
  | _ + 1, .tup [.str _, .str s, _, _] => [s]
  | _ + 1, _ => []
theorem Zzh (n : Nat) (l : List Nat) : nmsD (n + 1) (sgD l) = [] := rfl
theorem Zzi (n : Nat) (ns : List Str) : nmsD (n + 1) (fdD ns) = ns := by
  unfold fdD nmsD
  rw [if_neg fl_g, Zas]; rfl
theorem Zzj (n : Nat) (nm : List Nat) (a b : Nat) : nmsD (n + 1) (hdD nm a b) = [S nm] := rfl
theorem Zzk (n : Nat) (ds : List D) : nmsD (n + 1) (grD ds) = ds.flatMap (nmsD n) := by
  unfold grD
  rw [nmsD, if_pos rfl]
noncomputable def Own (P : Str → Prop) (d : D) : Prop := ∀ n, ∀ s ∈ nmsD n d, P s
section
variable {P : Str → Prop}
theorem Zzl (l : List Nat) : Own P (sgD l) := fun n s h => by
  cases n with
  | zero => exact nomatch h
  | succ n => rw [Zzh] at h; exact nomatch h
theorem Zzm {ns : List Str} (h0 : ∀ s ∈ ns, P s) : Own P (fdD ns) := fun n s h => by
  cases n with
  | zero => exact nomatch h
  | succ n => rw [Zzi] at h; exact h0 s h
theorem Zzn {nm : List Nat} (h0 : P (S nm)) (a b : Nat) : Own P (hdD nm a b) := fun n s h => by
  cases n with
  | zero => exact nomatch h
  | succ n => rw [Zzj] at h; rw [List.mem_singleton.mp h]; exact h0
theorem Zzo {ds : List D} (h0 : ∀ d ∈ ds, Own P d) : Own P (grD ds) := fun n s h => by
  cases n with
  | zero => exact nomatch h
  | succ n =>
    rw [Zzk] at h
    obtain ⟨d, hd, hs⟩ := List.mem_flatMap.mp h
    exact h0 d hd n s hs
end
end My
namespace My
open DL PySem
structure Inv2 (P : Str → Prop) (lv : List (List Q)) (m : Nat) : Prop where
  inv : Inv lv m
  own : ∀ qs ∈ lv, ∀ q ∈ qs, Own P q.1
noncomputable def lvD (lv : List (List Q)) : List (List D) := lv.map dsq
theorem Ze4 (a b : List (List Q)) : lvD (a ++ b) = lvD a ++ lvD b := List.map_append
theorem Zlt (a : List (List Q)) : (lvD a).length = a.length := List.length_map _
theorem Inv.most {lv : List (List Q)} {qs : List Q} {m : Nat} (h : Inv (lv ++ [qs]) m) (hm : m ≤ 60) : (dsq qs).length ≤ 100 := by
  have hs := h.sum
  have := (Zfq qs fun q hq => Zg8 _ q.1 q.2 (h.top.pie q hq)).1
  rw [List.map_append, List.sum_append] at hs
  have hs : (lv.map fun qs => nc (tks qs)).sum + (nc (tks qs) + 0) + _ ≤ m + 1 := hs
  unfold dsq
  rw [List.length_map]
  omega
section
variable {P : Str → Prop}
theorem Inv2.push {lv : List (List Q)} {m : Nat} (h : Inv2 P lv m) (hl : lv.length < 4) : Inv2 P (lv ++ [[]]) (m + 1) := ⟨h.inv.push hl, fun qs hq q hq2 => by
  rcases List.mem_append.mp hq with z | z
  · exact h.own qs z q hq2
  · rw [List.mem_singleton.mp z] at hq2; exact nomatch hq2⟩
theorem Inv2.up {lv : List (List Q)} {m : Nat} (h : Inv2 P lv m) : Inv2 P lv (m + 1) := ⟨h.inv.up, h.own⟩
theorem Inv2.add {lv : List (List Q)} {qs : List Q} {m : Nat} {d : D} {t : Tk} (h : Inv2 P (lv ++ [qs]) m) (hp : Pie 1 d [t]) (hg : Gd (Zf8 false (tks qs)) [t]) (ho : Own P d) : Inv2 P (lv ++ [qs ++ [(d, [t])]]) (m + 1) := ⟨h.inv.add hp hg, fun rs hr q hq => by
  rcases List.mem_append.mp hr with z | z
  · exact h.own rs (List.mem_append_left _ z) q hq
  · rw [List.mem_singleton.mp z] at hq
    rcases List.mem_append.mp hq with z | z
    · exact h.own qs (List.mem_append_right _ (List.mem_singleton.mpr rfl)) q z
    · rw [List.mem_singleton.mp z]; exact ho⟩
theorem Zmt {α : Type} (l : List α) (h : 1 < l.length) : ∃ r a b, l = r ++ [a] ++ [b] := by
  rcases List.eq_nil_or_concat l with z | ⟨r, b, z⟩
  · rw [z] at h; simp at h
  · rw [List.concat_eq_append] at z
    subst z
    rcases List.eq_nil_or_concat r with z | ⟨r, a, z⟩
    · rw [z] at h; simp at h
    · rw [List.concat_eq_append] at z
      subst z
      exact ⟨r, a, b, rfl⟩
theorem Z1w (A B C E x5 x6 : Option SV) (yss : List (List D)) (ys xs : List D) (hx : xs ≠ []) (hz : xs.length ≤ 1000) (hy : ys.length ≤ 1000) : Gen.Zw [A, B, some (.oL none (yss ++ [ys] ++ [xs])), C, E, x5, x6] = some (.nx [A, B, some (.oL none (yss ++ [ys ++ [grD xs]])), C, E, some (.ol xs), x6]) := by
  have l2 : Zij 5 2 [A, B, some (.oL none (yss ++ [ys] ++ [xs])), C, E, x5, x6] = some (.nx [A, B, some (.oL none (yss ++ [ys])), C, E, some (.ol xs), x6]) := Zmj (i := 2) (j := 5) (δ := [A, B, some (.oL none (yss ++ [ys] ++ [xs])), C, E, x5, x6]) rfl (by decide) (by show 5 < 7; decide)
  have zx : xs.length ≤ PySem.sizeLine := Z1 (by omega)
  have l3 : Zar 2 (tupF (Zl (Za (.str "group")) (Zl (Zb7 Ze7 (Zc (Zb 5) Zi)) (Zt)))) [A, B, some (.oL none (yss ++ [ys])), C, E, some (.ol xs), x6] = some (.nx [A, B, some (.oL none (yss ++ [ys ++ [grD xs]])), C, E, some (.ol xs), x6]) :=
    Zg0 (i := 2) (δ := [A, B, some (.oL none (yss ++ [ys])), C, E, some (.ol xs), x6]) (δ1 := [A, B, some (.oL none (yss ++ [ys])), C, E, some (.ol xs), x6]) (δ2 := [A, B, some (.oL none (yss ++ [ys])), C, E, some (.ol xs), x6]) (rv := .tmp (.fz (grD xs))) (d := grD xs) rfl (by simp) (by simp [z2, grD, Zy7]) rfl rfl (Zbj (by omega))
  have hp : 0 < xs.length := List.length_pos_iff.mpr hx
  have g2 : (0 : Int) < (xs.length : Int) := by omega
  generalize yss ++ [ys] ++ [xs] = W at *
  unfold Gen.Zw
  simp [l2, l3, g2, hp, hx]
theorem Z1x (A B C E x5 x6 : Option SV) (yss : List (List D)) : Gen.Zw [A, B, some (.oL none (yss ++ [[]])), C, E, x5, x6] = some (.nx [A, B, some (.oL none yss), C, E, some (.ol []), x6]) := by
  have l2 : Zij 5 2 [A, B, some (.oL none (yss ++ [[]])), C, E, x5, x6] = some (.nx [A, B, some (.oL none yss), C, E, some (.ol []), x6]) := Zmj (i := 2) (j := 5) (δ := [A, B, some (.oL none (yss ++ [[]])), C, E, x5, x6]) rfl (by decide) (by show 5 < 7; decide)
  generalize yss ++ [[]] = W at *
  unfold Gen.Zw
  simp [l2]
theorem shut (A B C E x5 x6 : Option SV) {lv : List (List Q)} {ps qs : List Q} {m : Nat} (h : Inv2 P (lv ++ [ps] ++ [qs]) m) (hm : m ≤ 60) : ∃ rs x5', Inv2 P (lv ++ [rs]) m ∧ Gen.Zw [A, B, some (.oL none (lvD (lv ++ [ps] ++ [qs]))), C, E, x5, x6] = some (.nx [A, B, some (.oL none (lvD (lv ++ [rs]))), C, E, x5', x6]) := by
  by_cases h0 : qs = []
  · subst h0
    refine ⟨ps, some (.ol []), ⟨h.inv.drop, fun rs hr => h.own rs (List.mem_append_left _ hr)⟩, ?_⟩
    rw [Ze4]
    exact Z1x A B C E x5 x6 _
  · refine ⟨ps ++ [grQ qs], some (.ol (dsq qs)), ⟨h.inv.shut h0 hm, fun rs hr q hq => ?_⟩, ?_⟩
    · rcases List.mem_append.mp hr with z | z
      · exact h.own rs (List.mem_append_left _ (List.mem_append_left _ z)) q hq
      · rw [List.mem_singleton.mp z] at hq
        rcases List.mem_append.mp hq with z | z
        · exact h.own ps (List.mem_append_left _ (List.mem_append_right _ (List.mem_singleton.mpr rfl))) q z
        · rw [List.mem_singleton.mp z]
          refine Zzo fun d hd => ?_
          obtain ⟨p, hp, rfl⟩ := List.mem_map.mp hd
          exact h.own qs (List.mem_append_right _ (List.mem_singleton.mpr rfl)) p hp
    have h1 := h.inv.most hm
    have h2 : (dsq ps).length ≤ 100 := by
      have hs := h.inv.sum
      have hp : Lev (4 - lv.length) ps := h.inv.lev lv.length ps (by
        rw [List.append_assoc, List.getElem?_append_right (Nat.le_refl _), Nat.sub_self]; rfl)
      have := (Zfq ps fun q hq => Zg8 _ q.1 q.2 (hp.pie q hq)).1
      rw [List.map_append, List.sum_append, List.map_append, List.sum_append] at hs
      have hs : (lv.map fun qs => nc (tks qs)).sum + (nc (tks ps) + 0) + (nc (tks qs) + 0) + _ ≤ m + 1 := hs
      unfold dsq
      rw [List.length_map]
      omega
    have e := Z1w A B C E x5 x6 (lvD lv) (dsq ps) (dsq qs) (by unfold dsq; simpa using h0) (by omega) (by omega)
    have eL : lvD (lv ++ [ps] ++ [qs]) = lvD lv ++ [dsq ps] ++ [dsq qs] := by rw [Ze4, Ze4]; rfl
    have eR : lvD (lv ++ [ps ++ [grQ qs]]) = lvD lv ++ [dsq ps ++ [grD (dsq qs)]] := by
      rw [Ze4]
      show lvD lv ++ [dsq (ps ++ [grQ qs])] = _
      rw [Zlr]; rfl
    rw [eL, eR]
    exact e
theorem Zkk (A B C E x6 : Option SV) : ∀ (f : Nat) (lv : List (List Q)) (m : Nat) (x5 : Option SV), Inv2 P lv m → m ≤ 60 → lv.length ≤ f → ∃ qs x5', Inv2 P [qs] m ∧ Zd4 Gen.Zbp Gen.Zw f [A, B, some (.oL none (lvD lv)), C, E, x5, x6] = some (.nx [A, B, some (.oL none [dsq qs]), C, E, x5', x6])
  | 0, lv, m, x5, h, _, hl => by have := h.inv.one; omega
  | f + 1, lv, m, x5, h, hm, hl => by
    have l1 := Zii (i := 2) (δ := [A, B, some (.oL none (lvD lv)), C, E, x5, x6]) (p := none) (xss := lvD lv) rfl
    rw [Zlt] at l1
    by_cases h1 : 1 < lv.length
    · obtain ⟨r, ps, qs, rfl⟩ := Zmt lv h1
      obtain ⟨rs, y5, h', e⟩ := shut A B C E x5 x6 h hm
      obtain ⟨q, z5, hq, ih⟩ := Zkk A B C E x6 f (r ++ [rs]) m y5 h' hm (by simp at hl ⊢; omega)
      refine ⟨q, z5, hq, (Zpo (δ1 := [A, B, some (.oL none (lvD (r ++ [ps] ++ [qs]))), C, E, x5, x6]) (δ2 := [A, B, some (.oL none (lvD (r ++ [rs]))), C, E, y5, x6]) ?_ e).trans ih⟩
      have g : (1 : Int) < (((r ++ [ps] ++ [qs]).length : Nat) : Int) := by omega
      generalize ((r ++ [ps] ++ [qs]).length : Int) = L at l1 g
      generalize lvD (r ++ [ps] ++ [qs]) = W at l1 ⊢
      unfold Gen.Zbp
      simp [l1, g]
    · have e1 : lv.length = 1 := by have := h.inv.one; omega
      match lv, e1 with
      | [qs], _ =>
        refine ⟨qs, x5, h, Znl ?_⟩
        have l1 : Zf7 2 [A, B, some (.oL none [dsq qs]), C, E, x5, x6] = some (.tmp (.fz (.int 1)), [A, B, some (.oL none [dsq qs]), C, E, x5, x6]) := l1
        unfold Gen.Zbp
        show Zr (binF gtD (Zf7 2) (Za (.int 1))) [A, B, some (.oL none [dsq qs]), C, E, x5, x6] = some (false, [A, B, some (.oL none [dsq qs]), C, E, x5, x6])
        simp [l1]
end
noncomputable abbrev T1 : FT := andF (Zr (binF eqY (binF modD (Zb 3) (Za (.int 5))) (Za (.int 0)))) (Zr (binF ltD (Zf7 2) (Za (.int 4))))
noncomputable abbrev T2 : FT := andF (Zr (binF eqY (binF modD (Zb 3) (Za (.int 5))) (Za (.int 1)))) (Zr (binF gtD (Zf7 2) (Za (.int 1))))
noncomputable abbrev T3 : FT := andF (Zr (binF eqY (binF modD (Zb 3) (Za (.int 5))) (Za (.int 2)))) (orF (Zr (binF eqY (Zd8 2) (Za (.int 0)))) (Zr (binF neY (binF ixX (Zey 2) (Za (.int 0))) (Za (.str "signs")))))
noncomputable abbrev T4 : FT := Zr (binF eqY (binF modD (Zb 3) (Za (.int 5))) (Za (.int 3)))
noncomputable abbrev SGE : FE := tupF (Zl (Za (.str "signs")) (Zl (binF ixX (lstF (Zfx ["; p. ", "a", ": (x) ", "="] (Zt))) (binF modD (Zb 4) (Za (.int 4)))) (Zt)))
noncomputable abbrev HDE : FE := tupF (Zl (Za (.str "hands")) (Zl (binF ixX (Zb 0) (binF modD (Zb 4) (Za (.int 6)))) (Zl (binF addD (Za (.int 1)) (binF modD (binF Zfk (Zb 4) (Za (.int 6))) (Za (.int 3)))) (Zl (binF modD (binF Zfk (Zb 4) (Za (.int 18))) (Za (.int 3))) (Zt)))))
noncomputable abbrev FDE : FE := tupF (Zl (Za (.str "field")) (Zl (Zb7 Ze7 (Zc (Zb 6) Zi)) (Zt)))
noncomputable abbrev FDC : FS := setF 6 (Zdm [.own, .cap 0, .cap 4, .acc] 3 (rngI (Zc (binF addD (Za (.int 1)) (binF modD (binF Zfk (Zb 4) (Za (.int 6))) (Za (.int 3)))) Zi)) (Zg 0) (Za9) Gen.Za1)
theorem b_eq : Gen.Z6 = seqF (setF 4 (binF Zfk (Zb 3) (Za (.int 5)))) (ifS T1 (Zj6 2) (ifS T2 Gen.Zw (ifS T3 (Zar 2 SGE) (ifS T4 (Zar 2 HDE) (seqF FDC (Zar 2 FDE)))))) := rfl
section
variable (A B x5 x6 : Option SV) (c r : Int)
theorem Z1y (W : List (List D)) : T1 [A, B, some (.oL none W), some (.fz (.int c)), some (.fz (.int r)), x5, x6] = some (decide (c % 5 = 0) && decide (W.length < 4), [A, B, some (.oL none W), some (.fz (.int c)), some (.fz (.int r)), x5, x6]) := by
  have l1 := Zii (i := 2) (δ := [A, B, some (.oL none W), some (.fz (.int c)), some (.fz (.int r)), x5, x6]) (p := none) (xss := W) rfl
  unfold T1
  by_cases h : c % 5 = 0
  · by_cases h2 : W.length < 4
    · have g : (W.length : Int) < 4 := by omega
      simp [h, h2, l1, g]
    · have g : ¬ (W.length : Int) < 4 := by omega
      simp [h, h2, l1, g]
  · simp [h]
theorem Z1z (W : List (List D)) : T2 [A, B, some (.oL none W), some (.fz (.int c)), some (.fz (.int r)), x5, x6] = some (decide (c % 5 = 1) && decide (1 < W.length), [A, B, some (.oL none W), some (.fz (.int c)), some (.fz (.int r)), x5, x6]) := by
  have l1 := Zii (i := 2) (δ := [A, B, some (.oL none W), some (.fz (.int c)), some (.fz (.int r)), x5, x6]) (p := none) (xss := W) rfl
  unfold T2
  by_cases h : c % 5 = 1
  · by_cases h2 : 1 < W.length
    · have g : (1 : Int) < (W.length : Int) := by omega
      simp [h, h2, l1, g]
    · have g : ¬ (1 : Int) < (W.length : Int) := by omega
      simp [h, h2, l1, g]
  · simp [h]
theorem Z10 (W : Option SV) : T4 [A, B, W, some (.fz (.int c)), some (.fz (.int r)), x5, x6] = some (decide (c % 5 = 3), [A, B, W, some (.fz (.int c)), some (.fz (.int r)), x5, x6]) := by
  unfold T4
  by_cases h : c % 5 = 3 <;> simp [h]
theorem tup0 (k : Str) (r : List D) : L2.atI (D.str k :: r) 0 = some (.str k) := Zeb _ 0 _ rfl
theorem Z11 (W : Option SV) (h : ¬ c % 5 = 2) : T3 [A, B, W, some (.fz (.int c)), some (.fz (.int r)), x5, x6] = some (false, [A, B, W, some (.fz (.int c)), some (.fz (.int r)), x5, x6]) := by
  unfold T3
  simp [h]
theorem Zzp (yss : List (List D)) (h : c % 5 = 2) : T3 [A, B, some (.oL none (yss ++ [[]])), some (.fz (.int c)), some (.fz (.int r)), x5, x6] = some (true, [A, B, some (.oL none (yss ++ [[]])), some (.fz (.int c)), some (.fz (.int r)), x5, x6]) := by
  have l4 := Zht (i := 2) (δ := [A, B, some (.oL none (yss ++ [[]])), some (.fz (.int c)), some (.fz (.int r)), x5, x6]) (p := none) (yss := yss) (xs := []) rfl
  have l4 : Zd8 2 [A, B, some (.oL none (yss ++ [[]])), some (.fz (.int c)), some (.fz (.int r)), x5, x6] = some (.tmp (.fz (.int 0)), [A, B, some (.oL none (yss ++ [[]])), some (.fz (.int c)), some (.fz (.int r)), x5, x6]) := l4
  generalize yss ++ [[]] = W at *
  unfold T3
  simp [h, l4]
theorem Zvw (yss : List (List D)) (xs : List D) (r' : List D) (k : Str) (h : c % 5 = 2) : T3 [A, B, some (.oL none (yss ++ [xs ++ [.tup (.str k :: r')]])), some (.fz (.int c)), some (.fz (.int r)), x5, x6] = some (!decide (k = SGS), [A, B, some (.oL none (yss ++ [xs ++ [.tup (.str k :: r')]])), some (.fz (.int c)), some (.fz (.int r)), x5, x6]) := by
  have a1 := tup0 k r'
  have l4 := Zht (i := 2) (δ := [A, B, some (.oL none (yss ++ [xs ++ [.tup (.str k :: r')]])), some (.fz (.int c)), some (.fz (.int r)), x5, x6]) (p := none) (yss := yss) (xs := xs ++ [.tup (.str k :: r')]) rfl
  have l5 := Znj (i := 2) (δ := [A, B, some (.oL none (yss ++ [xs ++ [.tup (.str k :: r')]])), some (.fz (.int c)), some (.fz (.int r)), x5, x6]) (p := none) (yss := yss) (xs := xs) (d := .tup (.str k :: r')) rfl
  have g : ¬ (((xs ++ [D.tup (.str k :: r')]).length : Nat) : Int) = 0 := by rw [List.length_append, List.length_singleton]; omega
  generalize (((xs ++ [D.tup (.str k :: r')]).length : Nat) : Int) = L at *
  generalize yss ++ [xs ++ [.tup (.str k :: r')]] = W at *
  unfold T3
  by_cases hk : k = SGS
  · subst hk; simp [h, a1, Ze3, l4, l5, g]
  · simp [h, a1, Ze3, l4, l5, g, hk]
theorem Zp0 (fe : FE) (yss : List (List D)) (xs : List D) (d : D) (hz : xs.length ≤ 1000) (he : fe [A, B, some (.oL none (yss ++ [xs])), some (.fz (.int c)), some (.fz (.int r)), x5, x6] = some (.tmp (.fz d), [A, B, some (.oL none (yss ++ [xs])), some (.fz (.int c)), some (.fz (.int r)), x5, x6])) :
    Zar 2 fe [A, B, some (.oL none (yss ++ [xs])), some (.fz (.int c)), some (.fz (.int r)), x5, x6] = some (.nx [A, B, some (.oL none (yss ++ [xs ++ [d]])), some (.fz (.int c)), some (.fz (.int r)), x5, x6]) :=
  Zg0 (i := 2) (δ := [A, B, some (.oL none (yss ++ [xs])), some (.fz (.int c)), some (.fz (.int r)), x5, x6]) (δ1 := [A, B, some (.oL none (yss ++ [xs])), some (.fz (.int c)), some (.fz (.int r)), x5, x6]) (δ2 := [A, B, some (.oL none (yss ++ [xs])), some (.fz (.int c)), some (.fz (.int r)), x5, x6]) (rv := .tmp (.fz d)) (d := d) rfl (by simp) he rfl rfl (Zbj (by omega))
end
noncomputable def SG4 : List (List Nat) := [[59, 32, 112, 46, 32], [97], [58, 32, 40, 120, 41, 32], [61]]
theorem Zzq : [D.str "; p. ", D.str "a", D.str ": (x) ", D.str "="] = (SG4.map S).map D.str := by
  have h1 : ("; p. " : Str) = S [59, 32, 112, 46, 32] := by decide +kernel
  have h2 : ("a" : Str) = S [97] := by decide +kernel
  have h3 : (": (x) " : Str) = S [58, 32, 40, 120, 41, 32] := by decide +kernel
  have h4 : ("=" : Str) = S [61] := by decide +kernel
  rw [h1, h2, h3, h4]; rfl
theorem Zzr : ∀ l ∈ SG4, (Tk.sg l).ok := by
  intro l hl
  have h : l ≠ [] ∧ l.length ≤ 100 ∧ ∀ c ∈ l, c < 128 ∧ sts c = true := by
    revert hl l
    decide
  exact h
theorem Zzs (ls : List (List Nat)) (x n : Int) (hl : (ls.length : Int) = n) (hn : 0 < n) : ∃ l ∈ ls, L2.atI ((ls.map S).map D.str) (x % n) = some (.str (S l)) := by
  have h0 : 0 ≤ x % n := Int.emod_nonneg _ (by omega)
  have h1 : x % n < n := Int.emod_lt_of_pos _ hn
  obtain ⟨j, hj⟩ := Int.eq_ofNat_of_zero_le h0
  have hjl : j < ls.length := by omega
  rw [hj]
  exact ⟨ls[j], List.getElem_mem hjl, Zeb _ _ _ (by rw [List.getElem?_map, List.getElem?_map, List.getElem?_eq_getElem hjl]; rfl)⟩
theorem at6 (ws : List (List Nat)) (h6 : 6 ≤ ws.length) (x : Int) : ∃ l ∈ ws.take 6, L2.atI ((ws.map S).map D.str) (x % 6) = some (.str (S l)) := by
  have h0 : 0 ≤ x % 6 := Int.emod_nonneg _ (by decide)
  have h1 : x % 6 < 6 := Int.emod_lt_of_pos _ (by decide)
  obtain ⟨j, hj⟩ := Int.eq_ofNat_of_zero_le h0
  have hjl : j < ws.length := by omega
  rw [hj]
  refine ⟨ws[j], ?_, Zeb _ _ _ (by rw [List.getElem?_map, List.getElem?_map, List.getElem?_eq_getElem hjl]; rfl)⟩
  have hj6 : j < (ws.take 6).length := by rw [List.length_take]; omega
  have : (ws.take 6)[j] = ws[j] := List.getElem_take
  rw [← this]
  exact List.getElem_mem hj6
theorem Zvx (ws : List (List Nat)) (h6 : 6 ≤ ws.length) (x : Int) (n : Nat) (hn : n ≤ 3) : ∃ ns : List (List Nat), Zz [.own, .cap 0, .cap 4, .acc] 3 (Zg 0) Za9 Gen.Za1 (nats 0 n) [none, some (.fz (.lst ((ws.map S).map D.str))), some (.fz (.int x)), some (.ol [])] = some [none, some (.fz (.lst ((ws.map S).map D.str))), some (.fz (.int x)), some (.ol ((ns.map S).map D.str))] ∧ ns.length = n ∧ ∀ l ∈ ns, l ∈ ws.take 6 := by
  obtain ⟨vs, e, hv, hvl⟩ := Zlo (src := [.own, .cap 0, .cap 4, .acc]) (k := 3) (g := Zg 0) (tt := Za9) (te := Gen.Za1) (st := fun zs => [none, some (.fz (.lst ((ws.map S).map D.str))), some (.fz (.int x)), some (.ol zs)]) (R := fun v => ∃ s, v = .str s ∧ ∃ l, s = S l ∧ l ∈ ws.take 6) (nats 0 n) [] (fun d hd zs' ds' hz => by
    obtain ⟨i, hi, rfl⟩ := List.mem_map.mp hd
    have hi4 : i < n := by obtain ⟨j, h1, h2⟩ := List.mem_range'.mp hi; omega
    obtain ⟨l, hl, ha⟩ := at6 ws h6 (x / ((i : Int) + 1))
    refine ⟨.str (S l), ⟨_, rfl, l, rfl, hl⟩, ?_⟩
    have d1 : 0 < (i : Int) + 1 := by omega
    have d2 : (i : Int) + 1 < 1073741824 := by omega
    generalize S l = N at *
    generalize (ws.map S).map D.str = WD at *
    generalize (i : Int) = k at *
    unfold Gen.Za1
    simp [ha, hz, d1, d2]) (by simp; omega)
  obtain ⟨ts, e2, h2⟩ := Zew vs hv
  rw [e2, List.length_map, List.length_map, List.length_range'] at hvl
  rw [e2, List.nil_append] at e
  obtain ⟨ns, e3, h3⟩ : ∃ ns : List (List Nat), ts = ns.map S ∧ ∀ l ∈ ns, l ∈ ws.take 6 := by
    refine ⟨ts.map fun t => t.cps.toList, ?_, fun l hl => ?_⟩
    · rw [List.map_map]
      conv => lhs; rw [← List.map_id ts]
      refine List.map_congr_left fun t _ => ?_
      exact S_of t
    · obtain ⟨t, ht, rfl⟩ := List.mem_map.mp hl
      obtain ⟨l, e, ok⟩ := h2 t ht
      rw [e, Zy1]; exact ok
  rw [e3] at e hvl
  rw [List.length_map] at hvl
  exact ⟨ns, e, hvl, h3⟩
noncomputable def PN (ws : List (List Nat)) (s : Str) : Prop := ∃ l ∈ ws.take 6, s = S l
theorem Zzt (B x4 x5 x6 : Option SV) (ws : List (List Nat)) (h6 : 6 ≤ ws.length) (hW : ∀ w ∈ ws, Nam w) {lv : List (List Q)} {m : Nat} (h : Inv2 (PN ws) lv m) (hm : m ≤ 60) (c : Int) :
    ∃ lv' y4 y5 y6, Inv2 (PN ws) lv' (m + 1) ∧ Gen.Z6 [some (.fz (.lst ((ws.map S).map D.str))), B, some (.oL none (lvD lv)), some (.fz (.int c)), x4, x5, x6] = some (.nx [some (.fz (.lst ((ws.map S).map D.str))), B, some (.oL none (lvD lv')), some (.fz (.int c)), y4, y5, y6]) := by
  have hA6 := at6 ws h6
  have hFD := fun n hn => Zvx ws h6 (c / 5) n hn
  have hT : ∀ l ∈ ws.take 6, Nam l := fun l hl => hW l (List.mem_of_mem_take hl)
  generalize hWD : (ws.map S).map D.str = WD at *
  have t1 := Z1y (some (.fz (.lst WD))) B x5 x6 c (c / 5) (lvD lv)
  have t2 := Z1z (some (.fz (.lst WD))) B x5 x6 c (c / 5) (lvD lv)
  rw [Zlt] at t1 t2
  by_cases h1 : c % 5 = 0 ∧ lv.length < 4
  · have ap := Zr3 (i := 2) (δ := [some (.fz (.lst WD)), B, some (.oL none (lvD lv)), some (.fz (.int c)), some (.fz (.int (c / 5))), x5, x6]) (p := none) (xss := lvD lv) rfl (by rw [Zlt]; exact Zbj (by omega))
    have ap : Zj6 2 [some (.fz (.lst WD)), B, some (.oL none (lvD lv)), some (.fz (.int c)), some (.fz (.int (c / 5))), x5, x6] = some (.nx [some (.fz (.lst WD)), B, some (.oL none (lvD (lv ++ [[]]))), some (.fz (.int c)), some (.fz (.int (c / 5))), x5, x6]) := by
      rw [ap, Ze4]; rfl
    refine ⟨lv ++ [[]], some (.fz (.int (c / 5))), x5, x6, h.push h1.2, ?_⟩
    rw [decide_eq_true h1.1, decide_eq_true h1.2] at t1
    generalize lvD (lv ++ [[]]) = W2 at *
    generalize lvD lv = W at *
    rw [b_eq]
    generalize T1 = TT1 at *
    simp [t1, ap]
  have t1 : T1 [some (.fz (.lst WD)), B, some (.oL none (lvD lv)), some (.fz (.int c)), some (.fz (.int (c / 5))), x5, x6] = some (false, [some (.fz (.lst WD)), B, some (.oL none (lvD lv)), some (.fz (.int c)), some (.fz (.int (c / 5))), x5, x6]) := by
    rw [t1]
    by_cases z : c % 5 = 0
    · have : ¬ lv.length < 4 := fun w => h1 ⟨z, w⟩
      rw [decide_eq_false this, Bool.and_false]
    · rw [decide_eq_false z, Bool.false_and]
  by_cases h2 : c % 5 = 1 ∧ 1 < lv.length
  · rw [decide_eq_true h2.1, decide_eq_true h2.2] at t2
    obtain ⟨r, ps, qs, rfl⟩ := Zmt lv h2.2
    obtain ⟨rs, y5, h', e⟩ := shut (some (.fz (.lst WD))) B (some (.fz (.int c))) (some (.fz (.int (c / 5)))) x5 x6 h hm
    refine ⟨r ++ [rs], some (.fz (.int (c / 5))), y5, x6, h'.up, ?_⟩
    generalize lvD (r ++ [rs]) = W2 at *
    generalize lvD (r ++ [ps] ++ [qs]) = W at *
    rw [b_eq]
    generalize T1 = TT1 at *
    generalize T2 = TT2 at *
    simp [t1, t2, e]
  have t2 : T2 [some (.fz (.lst WD)), B, some (.oL none (lvD lv)), some (.fz (.int c)), some (.fz (.int (c / 5))), x5, x6] = some (false, [some (.fz (.lst WD)), B, some (.oL none (lvD lv)), some (.fz (.int c)), some (.fz (.int (c / 5))), x5, x6]) := by
    rw [t2]
    by_cases z : c % 5 = 1
    · have : ¬ 1 < lv.length := fun w => h2 ⟨z, w⟩
      rw [decide_eq_false this, Bool.and_false]
    · rw [decide_eq_false z, Bool.false_and]
  rcases List.eq_nil_or_concat lv with z | ⟨l0, qs, z⟩
  · rw [z] at h; exact absurd h.inv.one (by decide)
  rw [List.concat_eq_append] at z
  subst z
  have hz := h.inv.most hm
  have eA : lvD (l0 ++ [qs]) = lvD l0 ++ [dsq qs] := by rw [Ze4]; rfl
  have eB : ∀ d ts, lvD (l0 ++ [qs ++ [(d, ts)]]) = lvD l0 ++ [dsq qs ++ [d]] := fun d ts => by rw [Ze4]; show lvD l0 ++ [dsq (qs ++ [(d, ts)])] = _; rw [Zlr]; rfl
  rw [eA] at t1 t2 ⊢
  have t4 := Z10 (some (.fz (.lst WD))) B x5 x6 c (c / 5) (some (.oL none (lvD l0 ++ [dsq qs])))
  /- no signs: hands or a field -/
  have noSg : T3 [some (.fz (.lst WD)), B, some (.oL none (lvD l0 ++ [dsq qs])), some (.fz (.int c)), some (.fz (.int (c / 5))), x5, x6] = some (false, [some (.fz (.lst WD)), B, some (.oL none (lvD l0 ++ [dsq qs])), some (.fz (.int c)), some (.fz (.int (c / 5))), x5, x6]) → ∃ lv' y4 y5 y6, Inv2 (PN ws) lv' (m + 1) ∧ Gen.Z6 [some (.fz (.lst WD)), B, some (.oL none (lvD l0 ++ [dsq qs])), some (.fz (.int c)), x4, x5, x6] = some (.nx [some (.fz (.lst WD)), B, some (.oL none (lvD lv')), some (.fz (.int c)), y4, y5, y6]) := by
    intro t3
    by_cases h3 : c % 5 = 3
    · rw [decide_eq_true h3] at t4
      have m0 : 0 ≤ c / 5 / 6 % 3 := Int.emod_nonneg _ (by decide)
      have m1 : c / 5 / 6 % 3 < 3 := Int.emod_lt_of_pos _ (by decide)
      have m2 : 0 ≤ c / 5 / 18 % 3 := Int.emod_nonneg _ (by decide)
      have m3 : c / 5 / 18 % 3 < 3 := Int.emod_lt_of_pos _ (by decide)
      obtain ⟨a, ha⟩ : ∃ n : Nat, (n : Int) = 1 + c / 5 / 6 % 3 := ⟨(1 + c / 5 / 6 % 3).toNat, by omega⟩
      obtain ⟨b, hb⟩ : ∃ n : Nat, (n : Int) = c / 5 / 18 % 3 := ⟨(c / 5 / 18 % 3).toNat, by omega⟩
      obtain ⟨l, hl, at'⟩ := hA6 (c / 5)
      have ok := hT l hl
      have zl := Zy9 (a := a) (b := b) ok
      have okt : (Tk.br (hdL l a b)).ok := ⟨Z1u ok (by omega) (by omega) 125 (by decide), by omega⟩
      refine ⟨l0 ++ [qs ++ [(hdD l a b, [.br (hdL l a b)])]], some (.fz (.int (c / 5))), x5, x6, h.add (.inr (.inr (.inl ⟨l, a, b, ok, by omega, by omega, by omega, rfl, rfl⟩))) ⟨okt, (fun z => nomatch z.2), trivial⟩ (Zzn ⟨l, hl, rfl⟩ a b), ?_⟩
      have ap := Zp0 (some (.fz (.lst WD))) B x5 x6 c (c / 5) HDE (lvD l0) (dsq qs) (hdD l a b) (by omega) (by
        generalize lvD l0 ++ [dsq qs] = W
        unfold HDE hdD
        simp [at', ← ha, ← hb, z4, Zkj])
      rw [eB]
      generalize lvD l0 ++ [dsq qs] = W at *
      generalize lvD l0 ++ [dsq qs ++ [hdD l a b]] = W2 at *
      rw [b_eq]
      generalize T1 = TT1 at *
      generalize T2 = TT2 at *
      generalize T3 = TT3 at *
      generalize T4 = TT4 at *
      generalize HDE = HE at *
      simp [t1, t2, t3, t4, ap]
    · rw [decide_eq_false h3] at t4
      have m0 : 0 ≤ c / 5 / 6 % 3 := Int.emod_nonneg _ (by decide)
      have m1 : c / 5 / 6 % 3 < 3 := Int.emod_lt_of_pos _ (by decide)
      obtain ⟨n, hn⟩ : ∃ n : Nat, (n : Int) = 1 + c / 5 / 6 % 3 := ⟨(1 + c / 5 / 6 % 3).toNat, by omega⟩
      obtain ⟨ns, ec, hl, hN⟩ := hFD n (by omega)
      have hNm : ∀ l ∈ ns, Nam l := fun l hl => hT l (hN l hl)
      have h0 : ns ≠ [] := fun z => by rw [z] at hl; simp at hl; omega
      have g1 : rngP (n : Int) := Ze6 (by omega)
      have et : ((n : Int)).toNat = n := by omega
      have zn : (ns.map S).length ≤ PySem.sizeLine := Z1 (by rw [List.length_map]; omega)
      have zl := Zy8 (by omega) hNm
      have okt : (Tk.br (jl [124] ns)).ok := ⟨Z1t hNm 125 (.inr (by decide)) (by decide), by omega⟩
      refine ⟨l0 ++ [qs ++ [(fdD (ns.map S), [.br (jl [124] ns)])]], some (.fz (.int (c / 5))), x5, some (.ol ((ns.map S).map D.str)), h.add (.inr (.inl ⟨ns, h0, by omega, hNm, rfl, rfl⟩)) ⟨okt, (fun z => nomatch z.2), trivial⟩ (Zzm fun s hs => by
        obtain ⟨l, h1, rfl⟩ := List.mem_map.mp hs
        exact ⟨l, hN l h1, rfl⟩), ?_⟩
      have fc : FDC [some (.fz (.lst WD)), B, some (.oL none (lvD l0 ++ [dsq qs])), some (.fz (.int c)), some (.fz (.int (c / 5))), x5, x6] = some (.nx [some (.fz (.lst WD)), B, some (.oL none (lvD l0 ++ [dsq qs])), some (.fz (.int c)), some (.fz (.int (c / 5))), x5, some (.ol ((ns.map S).map D.str))]) := by
        generalize (ns.map S).map D.str = NS at *
        generalize lvD l0 ++ [dsq qs] = W at *
        unfold FDC
        simp [-Zz, ← hn, g1, et, Zcl, ec]
      have ap := Zp0 (some (.fz (.lst WD))) B x5 (some (.ol ((ns.map S).map D.str))) c (c / 5) FDE (lvD l0) (dsq qs) (fdD (ns.map S)) (by omega) (by
        generalize lvD l0 ++ [dsq qs] = W
        generalize ns.map S = NS at *
        unfold FDE fdD
        simp [z2, zn, Zg5])
      rw [eB]
      generalize lvD l0 ++ [dsq qs] = W at *
      generalize lvD l0 ++ [dsq qs ++ [fdD (ns.map S)]] = W2 at *
      rw [b_eq]
      generalize T1 = TT1 at *
      generalize T2 = TT2 at *
      generalize T3 = TT3 at *
      generalize T4 = TT4 at *
      generalize FDE = FE' at *
      generalize FDC = FC at *
      generalize (ns.map S).map D.str = NSD at *
      simp [t1, t2, t3, t4, fc, ap]
  by_cases h3 : c % 5 = 2
  · have sgY : T3 [some (.fz (.lst WD)), B, some (.oL none (lvD l0 ++ [dsq qs])), some (.fz (.int c)), some (.fz (.int (c / 5))), x5, x6] = some (true, [some (.fz (.lst WD)), B, some (.oL none (lvD l0 ++ [dsq qs])), some (.fz (.int c)), some (.fz (.int (c / 5))), x5, x6]) → Zf8 false (tks qs) = false → ∃ lv' y4 y5 y6, Inv2 (PN ws) lv' (m + 1) ∧ Gen.Z6 [some (.fz (.lst WD)), B, some (.oL none (lvD l0 ++ [dsq qs])), some (.fz (.int c)), x4, x5, x6] = some (.nx [some (.fz (.lst WD)), B, some (.oL none (lvD lv')), some (.fz (.int c)), y4, y5, y6]) := by
      intro t3 he
      obtain ⟨l, hl, at'⟩ := Zzs SG4 (c / 5) 4 rfl (by decide)
      rw [← Zzq] at at'
      have ok := Zzr l hl
      refine ⟨l0 ++ [qs ++ [(sgD l, [.sg l])]], some (.fz (.int (c / 5))), x5, x6, h.add (.inl ⟨l, ok, rfl, rfl⟩) (by rw [he]; exact ⟨ok, (fun z => nomatch z.1), trivial⟩) (Zzl l), ?_⟩
      have y4 : 4 ≤ PySem.sizeLine := Z1 (by decide)
      have ap := Zp0 (some (.fz (.lst WD))) B x5 x6 c (c / 5) SGE (lvD l0) (dsq qs) (sgD l) (by omega) (by
        generalize lvD l0 ++ [dsq qs] = W
        unfold SGE sgD
        simp [at', z2, y4, Ze3])
      rw [eB]
      generalize lvD l0 ++ [dsq qs] = W at *
      generalize lvD l0 ++ [dsq qs ++ [sgD l]] = W2 at *
      rw [b_eq]
      generalize T1 = TT1 at *
      generalize T2 = TT2 at *
      generalize T3 = TT3 at *
      generalize SGE = SE at *
      simp [t1, t2, t3, ap]
    rcases List.eq_nil_or_concat qs with z | ⟨qs', q, z⟩
    · subst z
      exact sgY (Zzp (some (.fz (.lst WD))) B x5 x6 c (c / 5) (lvD l0) h3) rfl
    · rw [List.concat_eq_append] at z
      subst z
      obtain ⟨k', r', e', hk'⟩ := Zsd (h.inv.top.pie q (List.mem_append_right _ (List.mem_singleton.mpr rfl)))
      have ed : dsq (qs' ++ [q]) = dsq qs' ++ [.tup (.str k' :: r')] := by rw [Zlr, ← e']; rfl
      have t3 := Zvw (some (.fz (.lst WD))) B x5 x6 c (c / 5) (lvD l0) (dsq qs') r' k' h3
      rw [← ed] at t3
      rcases hk' with ⟨z, _⟩ | ⟨z, hs⟩
      · rw [decide_eq_true z] at t3
        exact noSg t3
      · rw [decide_eq_false z] at t3
        exact sgY t3 (by rw [Zi2, Zg7, Zi3]; exact hs _)
  · exact noSg (Z11 (some (.fz (.lst WD))) B x5 x6 c (c / 5) _ h3)
theorem Ztl (B : Option SV) (ws : List (List Nat)) (h6 : 6 ≤ ws.length) (hW : ∀ w ∈ ws, Nam w) : ∀ (cs : List Int) (lv : List (List Q)) (m : Nat) (x3 x4 x5 x6 : Option SV), Inv2 (PN ws) lv m → m + cs.length ≤ 60 → ∃ lv' y3 y4 y5 y6, Inv2 (PN ws) lv' (m + cs.length) ∧ forD (Zg 3) Gen.Z6 (cs.map D.int) [some (.fz (.lst ((ws.map S).map D.str))), B, some (.oL none (lvD lv)), x3, x4, x5, x6] = some (.nx [some (.fz (.lst ((ws.map S).map D.str))), B, some (.oL none (lvD lv')), y3, y4, y5, y6])
  | [], lv, m, x3, x4, x5, x6, h, _ => ⟨lv, x3, x4, x5, x6, h, rfl⟩
  | c :: cs, lv, m, x3, x4, x5, x6, h, hm => by
    rw [List.length_cons] at hm
    obtain ⟨lv1, y4, y5, y6, h1, e⟩ := Zzt B x4 x5 x6 ws h6 hW h (by omega) c
    obtain ⟨lv2, z3, z4, z5, z6, h2, e2⟩ := Ztl B ws h6 hW cs lv1 (m + 1) (some (.fz (.int c))) y4 y5 y6 h1 (by omega)
    refine ⟨lv2, z3, z4, z5, z6, ?_, (Zcq (by simp) e).trans e2⟩
    rw [List.length_cons, show m + (cs.length + 1) = m + 1 + cs.length by omega]; exact h2
theorem Znn (ws : List (List Nat)) (h6 : 6 ≤ ws.length) (hW : ∀ w ∈ ws, Nam w) (cs : List Int) (hc : cs.length ≤ 30) : ∃ qs, Tmp qs ∧ (∀ q ∈ qs, Own (PN ws) q.1) ∧ Gen.Zbl [.lst ((ws.map S).map D.str), .lst (cs.map D.int)] = some (.fz (.tup (dsq qs))) := by
  obtain ⟨lv, y3, y4, y5, y6, h, e⟩ := Ztl (some (.fz (.lst (cs.map D.int)))) ws h6 hW cs [[]] 0 none none none none ⟨Inv.start, fun qs hq q hq2 => by rw [List.mem_singleton.mp hq] at hq2; exact nomatch hq2⟩ (by omega)
  rw [Nat.zero_add] at h
  obtain ⟨qs, z5, hq, w⟩ := Zkk (some (.fz (.lst ((ws.map S).map D.str)))) (some (.fz (.lst (cs.map D.int)))) y3 y4 y6 1000 lv _ y5 h (by omega) (by have := h.inv.four; omega)
  refine ⟨qs, hq.inv.tmp hc, hq.own qs (List.mem_singleton.mpr rfl), ?_⟩
  have e : forD (Zg 3) Gen.Z6 (cs.map D.int) [some (.fz (.lst ((ws.map S).map D.str))), some (.fz (.lst (cs.map D.int))), some (.oL none [[]]), none, none, none, none] = _ := e
  have l2 := Zll (i := 2) (δ := [some (.fz (.lst ((ws.map S).map D.str))), some (.fz (.lst (cs.map D.int))), some (.oL none [dsq qs]), y3, y4, z5, y6]) (p := none) (xss := []) (xs := dsq qs) rfl
  generalize (ws.map S).map D.str = WD at *
  generalize cs.map D.int = CS at *
  generalize lvD lv = W at *
  generalize dsq qs = DS at *
  unfold Gen.Zbl Gen.Zcj
  simp [-forD, e, w, l2]
end My
set_option maxHeartbeats 1000000
namespace My
open DL PySem
noncomputable abbrev HX := Str × List Str
noncomputable abbrev GVS : List Str := ["Ann", "Bo", "c"]
noncomputable abbrev FAM : List Str := ["Lee", "Kim", "Ng"]
noncomputable def GIV : List (List Str) := [] :: (GVS.map fun g => [g]) ++ GVS.flatMap fun g => GVS.map fun h => [g, h]
noncomputable def H39 : List HX := FAM.flatMap fun f => GIV.map fun g => (f, g)
noncomputable def pD (x : HX) : D := .tup [.str x.1, .tup (x.2.map D.str)]
noncomputable def lD (x : HX) : D := .tup [.str x.1, .lst (x.2.map D.str)]
noncomputable abbrev CO : Str := ", "
noncomputable abbrev BL : Str := " "
noncomputable abbrev AM : Str := " & "
noncomputable def hT (x : HX) : Str := match x.2 with
  | [] => x.1
  | g :: r => x.1 ++ CO ++ Txt.join BL (g :: r)
noncomputable def ah (w : Nat) (gs : List Str) : List Str := match w with
  | 0 => gs.map fun g => Txt.slice g none (some 0)
  | 1 => gs.map fun g => Txt.slice g none (some 1) ++ Str.ofString ". "
  | _ => gs.map fun g => g ++ Str.ofString " "
noncomputable def tl (w : Nat) (x : HX) : Str := Txt.join (Str.ofString "") (ah w x.2) ++ x.1
theorem r39 : H39.map (fun x => Gen.Zc3 [.str (hT x)]) = H39.map fun x => some (.v (.fz (pD x))) := by kernel_rfl
theorem Z12 : H39.map (fun x => Gen.Zbv [pD x, .int 0]) = H39.map fun x => some (.fz (.str (tl 0 x))) := by kernel_rfl
theorem Z13 : H39.map (fun x => Gen.Zbv [pD x, .int 1]) = H39.map fun x => some (.fz (.str (tl 1 x))) := by kernel_rfl
theorem Z14 : H39.map (fun x => Gen.Zbv [pD x, .int 2]) = H39.map fun x => some (.fz (.str (tl 2 x))) := by kernel_rfl
theorem Zvy (x : HX) (h : x ∈ H39) : Gen.Zc3 [.str (hT x)] = some (.v (.fz (pD x))) := List.map_inj_left.mp r39 x h
theorem Zvz (x : HX) (h : x ∈ H39) (w : Nat) (hw : w ≤ 2) : Gen.Zbv [pD x, .int (w : Int)] = some (.fz (.str (tl w x))) := by
  match w, hw with
  | 0, _ => exact List.map_inj_left.mp Z12 x h
  | 1, _ => exact List.map_inj_left.mp Z13 x h
  | 2, _ => exact List.map_inj_left.mp Z14 x h
noncomputable def shC (w : Nat) (gs : List Str) : Option DSt := Zz [.own, .cap 2, .acc] 2 (Zg 0) Za9 Gen.Zdv (gs.map D.str) [none, some (.fz (.int (w : Int))), some (.ol [])]
theorem Z15 : GIV.map (shC 0) = GIV.map fun gs => some [none, some (.fz (.int 0)), some (.ol ((ah 0 gs).map D.str))] := by kernel_rfl
theorem Z16 : GIV.map (shC 1) = GIV.map fun gs => some [none, some (.fz (.int 1)), some (.ol ((ah 1 gs).map D.str))] := by kernel_rfl
theorem Z17 : GIV.map (shC 2) = GIV.map fun gs => some [none, some (.fz (.int 2)), some (.ol ((ah 2 gs).map D.str))] := by kernel_rfl
theorem Zzu (gs : List Str) (h : gs ∈ GIV) (w : Nat) (hw : w ≤ 2) : Zz [.own, .cap 2, .acc] 2 (Zg 0) Za9 Gen.Zdv (gs.map D.str) [none, some (.fz (.int (w : Int))), some (.ol [])] = some [none, some (.fz (.int (w : Int))), some (.ol ((ah w gs).map D.str))] := by
  match w, hw with
  | 0, _ => exact List.map_inj_left.mp Z15 gs h
  | 1, _ => exact List.map_inj_left.mp Z16 gs h
  | 2, _ => exact List.map_inj_left.mp Z17 gs h
theorem Zp1 {x : HX} (h : x ∈ H39) : x.1 ∈ FAM ∧ x.2 ∈ GIV := by
  obtain ⟨f, hf, h2⟩ := List.mem_flatMap.mp h
  obtain ⟨g, hg, rfl⟩ := List.mem_map.mp h2
  exact ⟨hf, hg⟩
theorem Zzv {f : Str} {gs : List Str} (hf : f ∈ FAM) (hg : gs ∈ GIV) : (f, gs) ∈ H39 := List.mem_flatMap.mpr ⟨f, hf, List.mem_map.mpr ⟨gs, hg, rfl⟩⟩
theorem Zzw : ∀ gs : List Str, gs.length ≤ 2 → (∀ g ∈ gs, g ∈ GVS) → gs ∈ GIV
  | [], _, _ => List.mem_append_left _ List.mem_cons_self
  | [a], _, h => List.mem_append_left _ (List.mem_cons_of_mem _ (List.mem_map.mpr ⟨a, h a List.mem_cons_self, rfl⟩))
  | [a, b], _, h => List.mem_append_right _ (List.mem_flatMap.mpr ⟨a, h a List.mem_cons_self, List.mem_map.mpr ⟨b, h b (List.mem_cons_of_mem _ List.mem_cons_self), rfl⟩⟩)
  | _ :: _ :: _ :: _, hl, _ => by simp at hl
theorem Zv0 : ∀ f ∈ FAM, f.length ≤ 3 := by decide +kernel
theorem Zzx : ∀ gs ∈ GIV, ∀ w < 3, JoinOk (Str.ofString "") (ah w gs) = true ∧ (Txt.join (Str.ofString "") (ah w gs)).length ≤ 8 := by decide +kernel
theorem Z18 : ∀ gs ∈ GIV, JoinOk BL gs = true ∧ (Txt.join BL gs).length ≤ 7 := by decide +kernel
theorem t_ok : ∀ x ∈ H39, (hT x).length ≤ 12 ∧ 38 ∉ (hT x).cps.toList := by decide +kernel
theorem Zzy (x : HX) (h : x ∈ H39) (w : Nat) (hw : w ≤ 2) : (tl w x).length ≤ 11 := by
  obtain ⟨h1, h2⟩ := Zp1 h
  have := (Zzx x.2 h2 w (by omega)).2
  have := Zv0 x.1 h1
  unfold tl
  rw [Zea]
  omega
theorem Zp2 (ls : List Str) (x n : Int) (hl : (ls.length : Int) = n) (hn : 0 < n) : ∃ s ∈ ls, L2.atI (ls.map D.str) (x % n) = some (.str s) := by
  obtain ⟨c, hc, e⟩ := Zy2 (ls.map D.str) x n (by rw [List.length_map]; exact hl) hn
  obtain ⟨s, hs, rfl⟩ := List.mem_map.mp hc
  exact ⟨s, hs, e⟩
theorem Zsf (v : Int) (n : Nat) (hn : n ≤ 2) : ∃ gs ∈ GIV, Zz [.own, .cap 2, .acc] 2 (Zg 0) Za9 Gen.Zcv (nats 0 n) [none, some (.fz (.int v)), some (.ol [])] = some [none, some (.fz (.int v)), some (.ol (gs.map D.str))] := by
  obtain ⟨vs, e, hv, hvl⟩ := Zlo (src := [.own, .cap 2, .acc]) (k := 2) (g := Zg 0) (tt := Za9) (te := Gen.Zcv) (st := fun zs => [none, some (.fz (.int v)), some (.ol zs)]) (R := fun v => ∃ s, v = .str s ∧ s ∈ GVS) (nats 0 n) [] (fun d hd zs' ds' hz => by
    obtain ⟨i, hi, rfl⟩ := List.mem_map.mp hd
    have hi4 : i < n := by obtain ⟨j, h1, h2⟩ := List.mem_range'.mp hi; omega
    obtain ⟨s, hs, ha⟩ := Zp2 GVS (v / ((i : Int) + 2)) 3 rfl (by decide)
    have ha : L2.atI [.str "Ann", .str "Bo", .str "c"] (v / ((i : Int) + 2) % 3) = some (D.str s) := ha
    refine ⟨.str s, ⟨_, rfl, hs⟩, ?_⟩
    have d1 : 0 < (i : Int) + 2 := by omega
    have d2 : (i : Int) + 2 < 1073741824 := by omega
    have y3 : 3 ≤ PySem.sizeLine := Z1 (by decide)
    generalize (i : Int) = k at *
    unfold Gen.Zcv
    simp [ha, hz, d1, d2, y3]) (by simp; omega)
  obtain ⟨ts, e2, h2⟩ := Zew vs hv
  rw [e2, List.length_map, List.length_map, List.length_range'] at hvl
  rw [e2, List.nil_append] at e
  exact ⟨ts, Zzw ts (by omega) h2, e⟩
theorem Zp3 (A x3 : Option SV) (zs : List D) (hz : zs.length ≤ 1000) (v : Int) : ∃ x ∈ H39, ∃ y3, Gen.Zce [A, some (.ol zs), some (.fz (.int v)), x3] = some (.nx [A, some (.ol (zs ++ [lD x])), some (.fz (.int v)), y3]) := by
  have m0 : 0 ≤ v % 3 := Int.emod_nonneg _ (by decide)
  have m1 : v % 3 < 3 := Int.emod_lt_of_pos _ (by decide)
  obtain ⟨n, hn⟩ : ∃ n : Nat, (n : Int) = v % 3 := ⟨(v % 3).toNat, by omega⟩
  obtain ⟨gs, hg, e⟩ := Zsf v n (by omega)
  obtain ⟨f, hf, ha⟩ := Zp2 FAM (v / 9) 3 rfl (by decide)
  have ha : L2.atI [.str "Lee", .str "Kim", .str "Ng"] (v / 9 % 3) = some (D.str f) := ha
  refine ⟨(f, gs), Zzv hf hg, some (.fz (.lst (gs.map D.str))), ?_⟩
  have g1 : rngP (n : Int) := Ze6 (by omega)
  have et : ((n : Int)).toNat = n := by omega
  have y3 : 3 ≤ PySem.sizeLine := Z1 (by decide)
  have zz : zs.length < PySem.sizeLine := Zbj (by omega)
  unfold lD
  generalize gs.map D.str = GS at *
  unfold Gen.Zce
  simp [-Zz, ← hn, g1, et, Zcl, e, ha, y3, z2, zz]
theorem Zhw (A : Option SV) : ∀ (ms : List Int) (xs : List HX) (x2 x3 : Option SV), (∀ x ∈ xs, x ∈ H39) → xs.length + ms.length ≤ 100 → ∃ (ys : List HX) (y2 y3 : Option SV), (∀ x ∈ ys, x ∈ H39) ∧ ys.length = xs.length + ms.length ∧ forD (Zg 2) Gen.Zce (ms.map D.int) [A, some (.ol (xs.map lD)), x2, x3] = some (.nx [A, some (.ol (ys.map lD)), y2, y3])
  | [], xs, x2, x3, h, _ => ⟨xs, x2, x3, h, rfl, rfl⟩
  | m :: ms, xs, x2, x3, h, hl => by
    rw [List.length_cons] at hl
    obtain ⟨x, hx, y3, e⟩ := Zp3 A x3 (xs.map lD) (by rw [List.length_map]; omega) m
    obtain ⟨ys, z2, z3, h2, l2, e2⟩ := Zhw A ms (xs ++ [x]) (some (.fz (.int m))) y3 (fun y hy => by
      rcases List.mem_append.mp hy with z | z
      · exact h y z
      · rw [List.mem_singleton.mp z]; exact hx) (by rw [List.length_append, List.length_singleton]; omega)
    refine ⟨ys, z2, z3, h2, by rw [l2, List.length_append, List.length_singleton, List.length_cons]; omega, ?_⟩
    rw [List.map_append] at e2
    exact (Zcq (by simp) e).trans e2
structure Hs (xs : List HX) : Prop where
  ok : ∀ x ∈ xs, x ∈ H39
  one : 1 ≤ xs.length
  four : xs.length ≤ 4
theorem Zv1 (c : Int) : ∃ xs, Hs xs ∧ Gen.Zc2 [.int c] = some (.ol (xs.map lD)) := by
  have m0 : 0 ≤ c % 4 := Int.emod_nonneg _ (by decide)
  have m1 : c % 4 < 4 := Int.emod_lt_of_pos _ (by decide)
  obtain ⟨n, hn⟩ : ∃ n : Nat, (n : Int) = 1 + c % 4 := ⟨(1 + c % 4).toNat, by omega⟩
  obtain ⟨ms, e1, _, l1⟩ := Zfr c n (by omega)
  obtain ⟨ys, y2, y3, h, l, e⟩ := Zhw (some (.fz (.int c))) ms [] none none (fun _ h => nomatch h) (by simp; omega)
  refine ⟨ys, ⟨h, by simp at l; omega, by simp at l; omega⟩, ?_⟩
  rw [hn] at e1
  have e : forD (Zg 2) Gen.Zce (ms.map D.int) [some (.fz (.int c)), some (.ol []), none, none] = _ := e
  generalize ys.map lD = YS at *
  generalize ms.map D.int = MS at *
  unfold Gen.Zc2 Gen.Zdt
  simp [-forD, e1, e]
theorem Zp4 (A x2 x3 : Option SV) (x : HX) (h : x ∈ H39) (zs : List D) (hz : zs.length ≤ 1000) : Gen.Z5 [A, some (.ol zs), some (.fz (.str x.1)), some (.fz (.lst (x.2.map D.str)))] = some (.nx [A, some (.ol (zs ++ [.str (hT x)])), some (.fz (.str x.1)), some (.fz (.lst (x.2.map D.str)))]) := by
  obtain ⟨h1, h2⟩ := Zp1 h
  obtain ⟨f, gs⟩ := x
  have fl := Zv0 f h1
  obtain ⟨j1, j2⟩ := Z18 gs h2
  have zz : zs.length < PySem.sizeLine := Zbj (by omega)
  cases gs with
  | nil =>
    unfold hT Gen.Z5
    simp [zz]
  | cons g r =>
    have sm := Zas (g :: r)
    have c2 : CO.length = 2 := by decide +kernel
    have w1 : f.length + CO.length ≤ PySem.sizeLine := Z1 (by omega)
    have w2 : (f ++ CO).length + (Txt.join BL (g :: r)).length ≤ PySem.sizeLine := Z1 (by rw [Zea]; omega)
    have ne : eqM 48 (.lst ((g :: r).map D.str)) (.lst []) = some false := by simp
    unfold hT
    dsimp only at *
    generalize (g :: r).map D.str = GS at *
    generalize hJ : Txt.join BL (g :: r) = J at *
    unfold Gen.Z5
    simp [-eqM, ne, sm, j1, hJ, w1, w2, zz]
end My
set_option maxHeartbeats 1000000
namespace My
open DL PySem
theorem Zkl (A : Option SV) : ∀ (xs : List HX) (ts : List Str) (x2 x3 : Option SV), (∀ x ∈ xs, x ∈ H39) → ts.length + xs.length ≤ 100 → ∃ y2 y3, forD (Zf5 2 (Zcb (Zg 2) (Zcb (Zg 3) (Zgp)))) Gen.Z5 (xs.map lD) [A, some (.ol (ts.map D.str)), x2, x3] = some (.nx [A, some (.ol ((ts ++ xs.map hT).map D.str)), y2, y3])
  | [], ts, x2, x3, _, _ => ⟨x2, x3, by simp⟩
  | x :: xs, ts, x2, x3, h, hl => by
    rw [List.length_cons] at hl
    have e := Zp4 A x2 x3 x (h x List.mem_cons_self) (ts.map D.str) (by rw [List.length_map]; omega)
    obtain ⟨y2, y3, e2⟩ := Zkl A xs (ts ++ [hT x]) (some (.fz (.str x.1))) (some (.fz (.lst (x.2.map D.str)))) (fun y hy => h y (List.mem_cons_of_mem _ hy)) (by rw [List.length_append, List.length_singleton]; omega)
    refine ⟨y2, y3, ?_⟩
    rw [List.map_append] at e2
    rw [List.map_cons, List.map_cons, show ts ++ hT x :: xs.map hT = ts ++ [hT x] ++ xs.map hT by simp]
    exact (Zcq (d := lD x) (δ1 := [A, some (.ol (ts.map D.str)), some (.fz (.str x.1)), some (.fz (.lst (x.2.map D.str)))]) (by unfold lD; simp) e).trans e2
noncomputable def HTx (xs : List HX) : Str := Str.join AM (xs.map hT)
theorem Ztm : AM.length = 3 := by decide +kernel
theorem Zzz {xs : List HX} (h : Hs xs) : ∀ s ∈ xs.map hT, s.length ≤ 12 := fun s hs => by
  obtain ⟨x, hx, rfl⟩ := List.mem_map.mp hs
  exact (t_ok x (h.ok x hx)).1
theorem Zp5 {xs : List HX} (h : Hs xs) : (HTx xs).length ≤ 60 := by
  have l := Zik (sep := AM) _ (Zzz h)
  have h4 := h.four
  rw [Ztm, List.length_map] at l
  unfold HTx
  omega
theorem Zp6 {xs : List HX} (h : Hs xs) : Gen.Za2 [.lst (xs.map lD)] = some (.fz (.str (HTx xs))) := by
  have h4 := h.four
  obtain ⟨y2, y3, e⟩ := Zkl (some (.fz (.lst (xs.map lD)))) xs [] none none h.ok (by simp; omega)
  rw [List.nil_append] at e
  have e : forD (Zf5 2 (Zcb (Zg 2) (Zcb (Zg 3) (Zgp)))) Gen.Z5 (xs.map lD) [some (.fz (.lst (xs.map lD))), some (.ol []), none, none] = _ := e
  have jo := Zj7 (sep := AM) (Zzz h) (by rw [Ztm, List.length_map]; omega)
  have tj := Zpl AM (xs.map hT)
  have sm := Zas (xs.map hT)
  have tj : Txt.join AM (xs.map hT) = HTx xs := tj
  generalize HTx xs = T at *
  generalize (xs.map hT).map D.str = TS at *
  generalize xs.map hT = TT at *
  generalize xs.map lD = LS at *
  unfold Gen.Za2 Gen.Zbq
  simp [-forD, e, sm, jo, tj]
theorem am_l : AM.cps.toList = [32, 38, 32] := by decide +kernel
theorem Z19 : Sep AM 38 1 := ⟨by rw [am_l]; rfl, fun j h => by
  rw [am_l] at h
  match j, h with
  | 0, h => exact absurd h (by decide)
  | 1, _ => rfl
  | 2, h => exact absurd h (by decide)
  | j + 3, h => exact absurd h (by simp)⟩
theorem Zkm : ∀ (xs : List HX) (ys : List D), (∀ x ∈ xs, x ∈ H39) → ys.length + xs.length ≤ 100 → Zep [.own, .acc] 1 (Zg 0) Za9 Gen.Zbn ((xs.map hT).map D.str) [none, some (.ol ys)] = some (.v [none, some (.ol (ys ++ xs.map pD))])
  | [], ys, _, _ => by simp
  | x :: xs, ys, h, hl => by
    rw [List.length_cons] at hl
    have e := Zvy x (h x List.mem_cons_self)
    have ih := Zkm xs (ys ++ [pD x]) (fun y hy => h y (List.mem_cons_of_mem _ hy)) (by rw [List.length_append, List.length_singleton]; omega)
    have zy : ys.length < PySem.sizeLine := Zbj (by omega)
    have st : Zep [.own, .acc] 1 (Zg 0) Za9 Gen.Zbn (.str (hT x) :: (xs.map hT).map D.str) [none, some (.ol ys)] = Zep [.own, .acc] 1 (Zg 0) Za9 Gen.Zbn ((xs.map hT).map D.str) [none, some (.ol (ys ++ [pD x]))] := by
      generalize (xs.map hT).map D.str = HS
      generalize hT x = T at *
      unfold pD at *
      rw [Zep]
      unfold Gen.Zbn
      simp [-Zep, e, zy]
    rw [List.map_cons, List.map_cons, List.map_cons]
    refine st.trans (ih.trans ?_)
    rw [List.append_assoc]; rfl
theorem Zp7 {xs : List HX} (h : Hs xs) : Gen.Zaj [.str (HTx xs)] = some (.v (.ol (xs.map pD))) := by
  have h4 := h.four
  have h1 := h.one
  have sp : Txt.split (HTx xs) AM = xs.map hT := Znk Z19 (by decide +kernel) (xs.map hT) (fun z => by
    have q : (xs.map hT).length = 0 := by rw [z]; rfl
    rw [List.length_map] at q
    omega) (fun s hs => by
    obtain ⟨x, hx, rfl⟩ := List.mem_map.mp hs
    exact (t_ok x (h.ok x hx)).2)
  have c := Zkm xs [] h.ok (by simp; omega)
  rw [List.nil_append] at c
  have zl := Zp5 h
  have z : (HTx xs).length ≤ PySem.sizeLine := Z1 (by omega)
  have n6 : ¬ (6 : Int) < ((xs.map hT).length : Int) := by rw [List.length_map]; omega
  have n6' : ¬ 6 < (xs.map hT).length := by rw [List.length_map]; omega
  have zz : (xs.map hT).length ≤ PySem.sizeLine := Z1 (by rw [List.length_map]; omega)
  have am0 : ¬ AM.length = 0 := by decide +kernel
  generalize HTx xs = T at *
  generalize xs.map pD = PS at *
  generalize xs.map hT = TT at *
  unfold Gen.Zaj Gen.Zdc
  simp [-Zep, sp, z, zz, am0, n6, n6', c]
noncomputable abbrev AO : Str := " and others"
noncomputable abbrev AN : Str := " and "
noncomputable def Zlu (many : Nat) (ts : List Str) : Str := if many < ts.length then Str.join CO (ts.take many) ++ AO else if ts.length < 2 then ts.getLastD Str.empty else Str.join CO ts.dropLast ++ AN ++ ts.getLastD Str.empty
theorem Ztn (xs : List D) (m : Nat) : cutD xs none (some (m : Int)) = xs.take m := by
  unfold cutD
  rw [HT.sIx_none, HT.sIx_nat, List.drop_zero, Nat.sub_zero]
  by_cases h : m ≤ xs.length
  · rw [Nat.min_eq_left h]
  · rw [Nat.min_eq_right (by omega), List.take_of_length_le (Nat.le_refl _), List.take_of_length_le (by omega)]
theorem Zmu (xs : List D) (h : xs ≠ []) : cutD xs none (some (-1)) = xs.dropLast := by
  unfold cutD
  have hp := List.length_pos_iff.mpr h
  rw [HT.sIx_none, List.drop_zero, Nat.sub_zero, List.dropLast_eq_take]
  show xs.take (if (-1 : Int) < 0 then ((-1 : Int) + (xs.length : Int)).toNat else min (-1 : Int).toNat xs.length) = _
  rw [if_pos (by decide)]
  congr 1
  omega
theorem Zmv (ts : List Str) (h : ts ≠ []) : L2.atI (ts.map D.str) (-1) = some (.str (ts.getLastD Str.empty)) := by
  have e := List.dropLast_concat_getLast h
  rw [← e, List.map_append, List.map_cons, List.map_nil, L2.Zlz, List.getLastD_concat]
theorem Zmw : CO.length = 2 := by decide +kernel
theorem Zp8 : AO.length = 11 := by decide +kernel
theorem Zkn : AN.length = 5 := by decide +kernel
theorem Z2a (t : Str) : cat [t] = t := by
  show t ++ Str.ofString "" = t
  have : Str.ofString "" = S [] := by decide +kernel
  rw [this]
  conv => lhs; rw [S_of t]
  rw [Zy0, List.append_nil, ← S_of t]
structure Ts (ts : List Str) : Prop where
  one : 1 ≤ ts.length
  four : ts.length ≤ 4
  len : ∀ t ∈ ts, t.length ≤ 11
theorem Zv2 {xs : List HX} (h : Hs xs) (b : Nat) (hb : b ≤ 2) : Ts (xs.map (tl b)) := ⟨by rw [List.length_map]; exact h.one, by rw [List.length_map]; exact h.four, fun t ht => by
  obtain ⟨x, hx, rfl⟩ := List.mem_map.mp ht
  exact Zzy x (h.ok x hx) b hb⟩
section
variable {ts : List Str} (h : Ts ts)
include h
theorem Ts.ne : ts ≠ [] := fun z => by
  have := h.one
  rw [z] at this
  simp at this
theorem Ts.last : (ts.getLastD Str.empty).length ≤ 11 := by
  have e := List.dropLast_concat_getLast h.ne
  rw [← e, List.getLastD_concat]
  exact h.len _ (List.getLast_mem h.ne)
theorem Ts.join1 (m : Nat) : JoinOk CO (ts.take m) = true ∧ (Str.join CO (ts.take m)).length ≤ 100 := by
  have b : ∀ x ∈ ts.take m, x.length ≤ 11 := fun x hx => h.len x (List.mem_of_mem_take hx)
  have n : (ts.take m).length ≤ 4 := by rw [List.length_take]; have := h.four; omega
  have l := Zik (sep := CO) _ b
  rw [Zmw] at l
  exact ⟨Zj7 (sep := CO) b (by rw [Zmw]; omega), by omega⟩
theorem Ts.join2 : JoinOk CO ts.dropLast = true ∧ (Str.join CO ts.dropLast).length ≤ 100 := by
  have b : ∀ x ∈ ts.dropLast, x.length ≤ 11 := fun x hx => h.len x ((List.dropLast_sublist ts).subset hx)
  have n : ts.dropLast.length ≤ 4 := by rw [List.length_dropLast]; have := h.four; omega
  have l := Zik (sep := CO) _ b
  rw [Zmw] at l
  exact ⟨Zj7 (sep := CO) b (by rw [Zmw]; omega), by omega⟩
theorem Ts.told_len (m : Nat) : (Zlu m ts).length ≤ 200 := by
  have j1 := (h.join1 m).2
  have j2 := h.join2.2
  have l := h.last
  unfold Zlu
  split
  · rw [Zea, Zp8]; omega
  · split
    · omega
    · rw [Zea, Zea, Zkn]; omega
end
theorem Zko (b : Nat) (hb : b ≤ 2) : ∀ (xs : List HX) (zs : List D), (∀ x ∈ xs, x ∈ H39) → zs.length + xs.length ≤ 100 → Zz [.own, .cap 2, .acc] 2 (Zg 0) Za9 Gen.Zbm (xs.map pD) [none, some (.fz (.int (b : Int))), some (.ol zs)] = some [none, some (.fz (.int (b : Int))), some (.ol (zs ++ (xs.map (tl b)).map D.str))]
  | [], zs, _, _ => by simp
  | x :: xs, zs, h, hl => by
    rw [List.length_cons] at hl
    have e := Zvz x (h x List.mem_cons_self) b hb
    have ih := Zko b hb xs (zs ++ [.str (tl b x)]) (fun y hy => h y (List.mem_cons_of_mem _ hy)) (by rw [List.length_append, List.length_singleton]; omega)
    have zy : zs.length < PySem.sizeLine := Zbj (by omega)
    have st : Zz [.own, .cap 2, .acc] 2 (Zg 0) Za9 Gen.Zbm (pD x :: xs.map pD) [none, some (.fz (.int (b : Int))), some (.ol zs)] = Zz [.own, .cap 2, .acc] 2 (Zg 0) Za9 Gen.Zbm (xs.map pD) [none, some (.fz (.int (b : Int))), some (.ol (zs ++ [.str (tl b x)]))] := by
      generalize xs.map pD = PS
      generalize tl b x = T at *
      generalize pD x = P at *
      generalize (b : Int) = B at *
      rw [Zz]
      unfold Gen.Zbm
      simp [-Zz, e, zy]
    rw [List.map_cons, List.map_cons, List.map_cons]
    refine st.trans (ih.trans ?_)
    rw [List.append_assoc]; rfl
theorem Zp9 {xs : List HX} (h : Hs xs) (a b : Nat) (h1 : 1 ≤ a) (hb : b ≤ 2) : Gen.Zao [.lst (xs.map pD), .int (a : Int), .int (b : Int)] = some (.fz (.str (Zlu a (xs.map (tl b))))) := by
  have T := Zv2 h b hb
  have h4 := h.four
  have c := Zko b hb xs [] h.ok (by simp; omega)
  rw [List.nil_append] at c
  generalize xs.map (tl b) = ts at *
  generalize xs.map pD = PS at *
  have hne := T.ne
  have k1 := Ztn (ts.map D.str) a
  have k2 := Zmu (ts.map D.str) (by simpa using hne)
  have k3 := Zmv ts hne
  have s0 := Zas ts
  have s1 := Zas (ts.take a)
  have s2 := Zas ts.dropLast
  rw [List.map_take] at s1
  rw [List.map_dropLast] at s2
  obtain ⟨j1, l1⟩ := T.join1 a
  obtain ⟨j2, l2⟩ := T.join2
  have la := T.last
  have t4 := T.four
  have w1 : (Str.join CO (ts.take a)).length + AO.length ≤ PySem.sizeLine := Z1 (by rw [Zp8]; omega)
  have w2 : (Str.join CO ts.dropLast).length + AN.length ≤ PySem.sizeLine := Z1 (by rw [Zkn]; omega)
  have w3 : (Str.join CO ts.dropLast ++ AN).length + (ts.getLastD Str.empty).length ≤ PySem.sizeLine := Z1 (by rw [Zea, Zkn]; omega)
  have zt : (ts.map D.str).length ≤ PySem.sizeLine := Z1 (by rw [List.length_map]; omega)
  have hlen : (ts.map D.str).length = ts.length := List.length_map _
  have tj1 := Zpl CO (ts.take a)
  have tj2 := Zpl CO ts.dropLast
  unfold Zlu
  by_cases g1 : a < ts.length
  · rw [if_pos g1]
    have g1' : (a : Int) < (ts.length : Int) := by omega
    have g3 : (a : Int) < ((ts.map D.str).length : Int) := by rw [hlen]; exact g1'
    generalize ts.map D.str = DS at *
    generalize Str.join CO (ts.take a) = J at *
    unfold Gen.Zao Gen.Zb3
    simp [-Zz, c, g3, k1, s1, j1, tj1, w1]
  · rw [if_neg g1]
    have g3 : ¬ (a : Int) < ((ts.map D.str).length : Int) := by rw [hlen]; omega
    by_cases g2 : ts.length < 2
    · rw [if_pos g2]
      obtain ⟨t, rfl⟩ : ∃ t, ts = [t] := by
        match ts, hne, g2 with
        | [t], _, _ => exact ⟨t, rfl⟩
      have j0 : JoinOk (Str.ofString "") [t] = true := Zj7 (B := 11) T.len (by
        have : (Str.ofString "").length = 0 := by decide +kernel
        rw [this]; simp)
      have tj0 := Zhu [t]
      rw [Z2a] at tj0
      have g2' : (((([t] : List Str).map D.str).length : Nat) : Int) < 2 := by simp
      show _ = some (SV.fz (.str t))
      generalize ([t] : List Str).map D.str = DS at *
      unfold Gen.Zao Gen.Zb3
      simp [-Zz, c, g3, g2', s0, j0, tj0]
    · rw [if_neg g2]
      have g2' : ¬ (((ts.map D.str).length : Nat) : Int) < 2 := by rw [hlen]; omega
      generalize ts.getLastD Str.empty = L at *
      generalize ts.map D.str = DS at *
      generalize Str.join CO ts.dropLast = J at *
      unfold Gen.Zao Gen.Zb3
      simp [-Zz, c, g3, g2', k2, s2, j2, tj2, w2, w3, k3]
end My
set_option maxHeartbeats 1000000
namespace My
open DL PySem
theorem Zno (A B x6 : Option SV) (b : Nat) (hb : b ≤ 2) (x : HX) (h : x ∈ H39) (zs : List D) (hz : zs.length ≤ 1000) : Gen.Zbh [A, B, some (.fz (.int (b : Int))), some (.ol zs), some (.fz (.str x.1)), some (.fz (.lst (x.2.map D.str))), x6] = some (.nx [A, B, some (.fz (.int (b : Int))), some (.ol (zs ++ [.str (tl b x)])), some (.fz (.str x.1)), some (.fz (.lst (x.2.map D.str))), some (.fz (.str (Txt.join (Str.ofString "") (ah b x.2))))]) := by
  obtain ⟨h1, h2⟩ := Zp1 h
  have fl := Zv0 x.1 h1
  have c := Zzu x.2 h2 b hb
  obtain ⟨jo, jl⟩ := Zzx x.2 h2 b (by omega)
  have sm := Zas (ah b x.2)
  have w : (Txt.join (Str.ofString "") (ah b x.2)).length + x.1.length ≤ PySem.sizeLine := Z1 (by omega)
  have zz : zs.length < PySem.sizeLine := Zbj (by omega)
  unfold tl
  generalize hJ : Txt.join (Str.ofString "") (ah b x.2) = J at *
  generalize (ah b x.2).map D.str = AS at *
  generalize x.2.map D.str = GS at *
  generalize x.1 = F at *
  generalize (b : Int) = B' at *
  unfold Gen.Zbh
  simp [-Zz, c, sm, jo, hJ, w, zz]
theorem Zhx (A B : Option SV) (b : Nat) (hb : b ≤ 2) : ∀ (xs : List HX) (ts : List Str) (x4 x5 x6 : Option SV), (∀ x ∈ xs, x ∈ H39) → ts.length + xs.length ≤ 100 → ∃ y4 y5 y6, forD (Zf5 2 (Zcb (Zg 4) (Zcb (Zg 5) (Zgp)))) Gen.Zbh (xs.map lD) [A, B, some (.fz (.int (b : Int))), some (.ol (ts.map D.str)), x4, x5, x6] = some (.nx [A, B, some (.fz (.int (b : Int))), some (.ol ((ts ++ xs.map (tl b)).map D.str)), y4, y5, y6])
  | [], ts, x4, x5, x6, _, _ => ⟨x4, x5, x6, by simp⟩
  | x :: xs, ts, x4, x5, x6, h, hl => by
    rw [List.length_cons] at hl
    have e := Zno A B x6 b hb x (h x List.mem_cons_self) (ts.map D.str) (by rw [List.length_map]; omega)
    obtain ⟨y4, y5, y6, e2⟩ := Zhx A B b hb xs (ts ++ [tl b x]) (some (.fz (.str x.1))) (some (.fz (.lst (x.2.map D.str)))) (some (.fz (.str (Txt.join (Str.ofString "") (ah b x.2))))) (fun y hy => h y (List.mem_cons_of_mem _ hy)) (by rw [List.length_append, List.length_singleton]; omega)
    refine ⟨y4, y5, y6, ?_⟩
    rw [List.map_append] at e2
    rw [List.map_cons, List.map_cons, show ts ++ tl b x :: xs.map (tl b) = ts ++ [tl b x] ++ xs.map (tl b) by simp]
    exact (Zcq (d := lD x) (δ1 := [A, B, some (.fz (.int (b : Int))), some (.ol (ts.map D.str)), some (.fz (.str x.1)), some (.fz (.lst (x.2.map D.str))), x6]) (by unfold lD; simp) e).trans e2
theorem Zsg {xs : List HX} (h : Hs xs) (a b : Nat) (h1 : 1 ≤ a) (hb : b ≤ 2) : Gen.Za7 [.lst (xs.map lD), .int (a : Int), .int (b : Int)] = some (.fz (.str (Zlu a (xs.map (tl b))))) := by
  have T := Zv2 h b hb
  have h4 := h.four
  have ck := Ztn (xs.map lD) a
  rw [← List.map_take] at ck
  obtain ⟨y4, y5, y6, lp⟩ := Zhx (some (.fz (.lst (xs.map lD)))) (some (.fz (.int (a : Int)))) b hb (xs.take a) [] none none none (fun x hx => h.ok x (List.mem_of_mem_take hx)) (by rw [List.length_take]; simp; omega)
  rw [List.nil_append, List.map_take, List.map_take] at lp
  have lp : forD (Zf5 2 (Zcb (Zg 4) (Zcb (Zg 5) (Zgp)))) Gen.Zbh ((xs.map lD).take a) [some (.fz (.lst (xs.map lD))), some (.fz (.int (a : Int))), some (.fz (.int (b : Int))), some (.ol []), none, none, none] = _ := lp
  rw [List.map_take] at ck
  have hl2 : (xs.map lD).length = (xs.map (tl b)).length := by rw [List.length_map, List.length_map]
  have zl : (xs.map lD).length ≤ PySem.sizeLine := Z1 (by rw [List.length_map]; omega)
  generalize xs.map (tl b) = ts at *
  generalize (xs.map lD).take a = LT at *
  generalize xs.map lD = LS at *
  have hne := T.ne
  have k2 := Zmu (ts.map D.str) (by simpa using hne)
  have k3 := Zmv ts hne
  have s0 := Zas ts
  have s1 := Zas (ts.take a)
  have s2 := Zas ts.dropLast
  rw [List.map_dropLast] at s2
  obtain ⟨j1, l1⟩ := T.join1 a
  obtain ⟨j2, l2⟩ := T.join2
  have la := T.last
  have t4 := T.four
  have w1 : (Str.join CO (ts.take a)).length + AO.length ≤ PySem.sizeLine := Z1 (by rw [Zp8]; omega)
  have w2 : (Str.join CO ts.dropLast).length + AN.length ≤ PySem.sizeLine := Z1 (by rw [Zkn]; omega)
  have w3 : (Str.join CO ts.dropLast ++ AN).length + (ts.getLastD Str.empty).length ≤ PySem.sizeLine := Z1 (by rw [Zea, Zkn]; omega)
  have hlen : (ts.map D.str).length = ts.length := List.length_map _
  have tj1 := Zpl CO (ts.take a)
  have tj2 := Zpl CO ts.dropLast
  unfold Zlu
  by_cases g1 : a < ts.length
  · rw [if_pos g1]
    have g3 : (a : Int) < (LS.length : Int) := by omega
    generalize (ts.take a).map D.str = DS at *
    generalize Str.join CO (ts.take a) = J at *
    unfold Gen.Za7 Gen.Zci
    simp [-forD, ck, lp, zl, g3, s1, j1, tj1, w1]
  · rw [if_neg g1]
    have g3 : ¬ (a : Int) < (LS.length : Int) := by omega
    rw [List.take_of_length_le (by omega)] at lp
    have zt : (ts.map D.str).length ≤ PySem.sizeLine := Z1 (by rw [hlen]; omega)
    by_cases g2 : ts.length < 2
    · rw [if_pos g2]
      obtain ⟨t, rfl⟩ : ∃ t, ts = [t] := by
        match ts, hne, g2 with
        | [t], _, _ => exact ⟨t, rfl⟩
      show _ = some (SV.fz (.str t))
      have y1 : 1 ≤ PySem.sizeLine := Z1 (by decide)
      have lp : forD (Zf5 2 (Zcb (Zg 4) (Zcb (Zg 5) (Zgp)))) Gen.Zbh LT [some (.fz (.lst LS)), some (.fz (.int (a : Int))), some (.fz (.int (b : Int))), some (.ol []), none, none, none] = some (.nx [some (.fz (.lst LS)), some (.fz (.int (a : Int))), some (.fz (.int (b : Int))), some (.ol [.str t]), y4, y5, y6]) := lp
      have a0 : L2.atI [D.str t] 0 = some (.str t) := rfl
      unfold Gen.Za7 Gen.Zci
      simp [-forD, ck, lp, zl, g3, y1, a0]
    · rw [if_neg g2]
      have g2' : ¬ (((ts.map D.str).length : Nat) : Int) = 1 := by rw [hlen]; omega
      generalize ts.getLastD Str.empty = L at *
      generalize ts.map D.str = DS at *
      generalize Str.join CO ts.dropLast = J at *
      unfold Gen.Za7 Gen.Zci
      simp [-forD, ck, lp, zl, zt, g3, g2', k2, s2, j2, tj2, w2, w3, k3]
noncomputable def oD : Option Str → D
  | none => .non
  | some s => .str s
noncomputable def Zex (lk : Str → Option Str) : List Str → Option Str
  | [] => none
  | x :: xs => match lk x with
    | some t => some t
    | none => Zex lk xs
theorem Zhy (a0 : Option SV) (lk : Str → Option Str) (KS : List L2.Key) (VS : List D) : ∀ (ns : List Str) (x2 : Option SV), (∀ s ∈ ns, look KS VS (Sum.inr s) = (lk s).map D.str) →
    match Zex lk ns with
    | some t => forD (Zg 2) Gen.Za5 (ns.map D.str) [a0, some (.fz (.dK KS VS)), x2] = some (.rt (.fz (.str t)))
    | none => ∃ y2, forD (Zg 2) Gen.Za5 (ns.map D.str) [a0, some (.fz (.dK KS VS)), x2] = some (.nx [a0, some (.fz (.dK KS VS)), y2])
  | [], x2, _ => ⟨x2, rfl⟩
  | n :: ns, x2, h => by
    have l := h n List.mem_cons_self
    have ih := Zhy a0 lk KS VS ns (some (.fz (.str n))) fun s hs => h s (List.mem_cons_of_mem _ hs)
    unfold Zex
    rw [List.map_cons]
    cases hf : lk n with
    | some t =>
      rw [hf] at l
      dsimp only [Option.map_some] at l ⊢
      refine Zln (δ1 := [a0, some (.fz (.dK KS VS)), some (.fz (.str n))]) (by simp) ?_
      unfold Gen.Za5
      simp [-look, l]
    | none =>
      rw [hf] at l
      dsimp only [Option.map_none] at l ⊢
      have hb : Gen.Za5 [a0, some (.fz (.dK KS VS)), some (.fz (.str n))] = some (.nx [a0, some (.fz (.dK KS VS)), some (.fz (.str n))]) := by
        unfold Gen.Za5
        simp [-look, l]
      cases hp : Zex lk ns with
      | some p => rw [hp] at ih; exact (Zcq (by simp) hb).trans ih
      | none => rw [hp] at ih; obtain ⟨y2, e⟩ := ih; exact ⟨y2, (Zcq (by simp) hb).trans e⟩
theorem told_field (lk : Str → Option Str) (KS : List L2.Key) (VS : List D) (ns : List Str) (h : ∀ s ∈ ns, look KS VS (Sum.inr s) = (lk s).map D.str) : Gen.Zb2 [.tup (ns.map D.str), .dK KS VS] = some (.fz (oD (Zex lk ns))) := by
  have l := Zhy (some (.fz (.tup (ns.map D.str)))) lk KS VS ns none h
  generalize ns.map D.str = NS at *
  unfold Gen.Zb2 Gen.Zdb
  cases hp : Zex lk ns with
  | some p => rw [hp] at l; simp [-forD, l, oD]
  | none => rw [hp] at l; obtain ⟨y, e⟩ := l; simp [-forD, e, oD]
theorem Zqa (lk : Str → Option Str) : ∀ (ns : List Str) (t : Str), Zex lk ns = some t → ∃ s ∈ ns, lk s = some t
  | [], _, h => nomatch h
  | x :: xs, t, h => by
    unfold Zex at h
    cases hf : lk x with
    | some u => rw [hf] at h; cases h; exact ⟨x, List.mem_cons_self, hf⟩
    | none =>
      rw [hf] at h
      obtain ⟨s, h1, h2⟩ := Zqa lk xs t h
      exact ⟨s, List.mem_cons_of_mem _ h1, h2⟩
theorem Znp (KS : List L2.Key) (VS : List D) (nm : List Nat) (a b : Nat) (h : look KS VS (Sum.inr (S nm)) = none) : Gen.Z4 [hdD nm a b, .dK KS VS] = some (.fz .non) := by
  unfold hdD
  generalize S nm = N at *
  unfold Gen.Z4 Gen.Zb4
  simp [-look, Zlq, h]
noncomputable def txs : List (Option Str) → List Str
  | [] => []
  | none :: os => txs os
  | some s :: os => s :: txs os
theorem Zmx : ∀ os : List (Option Str), (os.any Option.isNone) = false → strs? (os.map oD) = some (txs os)
  | [], _ => rfl
  | none :: os, h => nomatch h
  | some s :: os, h => by
    rw [List.any_cons] at h
    have ih := Zmx os h
    show strs? (D.str s :: os.map oD) = some (s :: txs os)
    simp [ih]
theorem Zv3 (os : List (Option Str)) : (os.map oD).all D.isFlat = true := by
  rw [List.all_map, List.all_eq_true]
  intro o _
  show (oD o).isFlat = true
  cases o <;> rfl
theorem Z2b (os : List (Option Str)) : inFl .non (os.map oD) = os.any Option.isNone := by
  unfold inFl
  rw [List.any_map]
  congr 1
  funext o
  show eqFl (oD o) .non = _
  cases o <;> rfl
theorem Zcy : ∀ (os : List (Option Str)) (zs : List D), zs.length + os.length ≤ 1000 → Zz [.own, .acc] 1 (Zg 0) Gen.Zde Gen.Zdu (os.map oD) [none, some (.ol zs)] = some [none, some (.ol (zs ++ (txs os).map D.str))]
  | [], zs, _ => by simp [txs]
  | none :: os, zs, hz => by
    rw [List.length_cons] at hz
    have ih := Zcy os zs (by omega)
    have st : Zz [.own, .acc] 1 (Zg 0) Gen.Zde Gen.Zdu (D.non :: os.map oD) [none, some (.ol zs)] = Zz [.own, .acc] 1 (Zg 0) Gen.Zde Gen.Zdu (os.map oD) [none, some (.ol zs)] := by
      generalize os.map oD = OS
      rw [Zz]
      unfold Gen.Zde
      simp [-Zz]
    exact st.trans ih
  | some s :: os, zs, hz => by
    rw [List.length_cons] at hz
    have ih := Zcy os (zs ++ [.str s]) (by rw [List.length_append, List.length_singleton]; omega)
    have z : zs.length < PySem.sizeLine := Zbj (by omega)
    have st : Zz [.own, .acc] 1 (Zg 0) Gen.Zde Gen.Zdu (D.str s :: os.map oD) [none, some (.ol zs)] = Zz [.own, .acc] 1 (Zg 0) Gen.Zde Gen.Zdu (os.map oD) [none, some (.ol (zs ++ [.str s]))] := by
      generalize os.map oD = OS
      rw [Zz]
      unfold Gen.Zde Gen.Zdu
      simp [-Zz, z]
    refine st.trans (ih.trans ?_)
    rw [List.append_assoc]; rfl
end My
set_option maxHeartbeats 1000000
namespace My
open DL PySem
theorem hd_g : ¬ HDS = GRP := by decide +kernel
noncomputable abbrev NH : Exn := ⟨"NoHands", [], []⟩
noncomputable def NINE : List Str := ["Lee, Ann & ", "2001", "A b's (x)", "Lee,Ann", "Roe & Sons Ltd.", "The House, 12", "Abcdefghijklmnop", "Lee, A B C D E", "A & B & C & D & E & F & G"]
theorem Zsh : NINE.map (fun t => Gen.Zaj [.str t]) = NINE.map fun _ => some (.x NH) := by kernel_rfl
theorem Zmy : ∀ t ∈ NINE, t.length ≤ 100 := by decide +kernel
noncomputable def Ent (o1 o2 : Option D) : Prop := (o1 = none ∧ o2 = none) ∨ (∃ t ∈ NINE, o1 = some (.str t) ∧ o2 = none) ∨ ∃ xs, Hs xs ∧ o1 = some (.str (HTx xs)) ∧ o2 = some (.lst (xs.map lD))
noncomputable def lkO (KS : List L2.Key) (VS : List D) (s : Str) : Option Str := match look KS VS (Sum.inr s) with
  | some (.str t) => some t
  | _ => none
section
variable {KS : List L2.Key} {VS : List D} {HS : List L2.Key} {WS : List D}
variable (E : ∀ s : Str, Ent (look KS VS (Sum.inr s)) (look HS WS (Sum.inr s)))
include E
theorem Zv4 (s : Str) : look KS VS (Sum.inr s) = (lkO KS VS s).map D.str ∧ ∀ t, lkO KS VS s = some t → t.length ≤ 100 := by
  unfold lkO
  rcases E s with ⟨h, _⟩ | ⟨t, ht, h, _⟩ | ⟨xs, hx, h, _⟩
  · rw [h]; exact ⟨rfl, fun t z => nomatch z⟩
  · rw [h]; exact ⟨rfl, fun u z => by cases z; exact Zmy t ht⟩
  · rw [h]; exact ⟨rfl, fun u z => by cases z; have := Zp5 hx; omega⟩
end
theorem Zkp (r : List D → Option SV) (A x2 x4 x5 : Option SV) (KS : List L2.Key) (VS : List D) : ∀ (ns : List Str) (x3 : Option SV), (∀ s ∈ ns, look KS VS (Sum.inr s) = (lkO KS VS s).map D.str) →
    match Zex (lkO KS VS) ns with
    | some t => forD (Zg 3) (Gen.Zb6 r) (ns.map D.str) [A, some (.fz (.dK KS VS)), x2, x3, x4, x5] = some (.rt (.fz (.str t)))
    | none => ∃ y3, forD (Zg 3) (Gen.Zb6 r) (ns.map D.str) [A, some (.fz (.dK KS VS)), x2, x3, x4, x5] = some (.nx [A, some (.fz (.dK KS VS)), x2, y3, x4, x5])
  | [], x3, _ => ⟨x3, rfl⟩
  | n :: ns, x3, h => by
    have l := h n List.mem_cons_self
    have ih := Zkp r A x2 x4 x5 KS VS ns (some (.fz (.str n))) fun s hs => h s (List.mem_cons_of_mem _ hs)
    unfold Zex
    rw [List.map_cons]
    cases hf : lkO KS VS n with
    | some t =>
      rw [hf] at l
      dsimp only [Option.map_some] at l ⊢
      refine Zln (δ1 := [A, some (.fz (.dK KS VS)), x2, some (.fz (.str n)), x4, x5]) (by simp) ?_
      unfold Gen.Zb6
      simp [-look, l]
    | none =>
      rw [hf] at l
      dsimp only [Option.map_none] at l ⊢
      have hb : Gen.Zb6 r [A, some (.fz (.dK KS VS)), x2, some (.fz (.str n)), x4, x5] = some (.nx [A, some (.fz (.dK KS VS)), x2, some (.fz (.str n)), x4, x5]) := by
        unfold Gen.Zb6
        simp [-look, l]
      cases hp : Zex (lkO KS VS) ns with
      | some p => rw [hp] at ih; exact (Zcq (by simp) hb).trans ih
      | none => rw [hp] at ih; obtain ⟨y2, e⟩ := ih; exact ⟨y2, (Zcq (by simp) hb).trans e⟩
structure Tl (KS : List L2.Key) (VS : List D) (HS : List L2.Key) (WS : List D) (n : Nat) (d : D) (c : Nat) (o : Option Str) : Prop where
  len : ∀ s, o = some s → s.length ≤ 200 * c
  prog : ∀ m, n ≤ m → Gen.Zq m [d, .dK KS VS] = some (.fz (oD o))
  law : ∀ m, n ≤ m → Gen.Zn m [d, .dK KS VS, .dK HS WS] = some (.fz (oD o))
  head : ∃ k r, d = .tup (.str k :: r) ∧ (o = none → ¬ k = GRP)
section
variable {KS : List L2.Key} {VS : List D} {HS : List L2.Key} {WS : List D}
theorem Zsi (n : Nat) (l : List Nat) (ok : (Tk.sg l).ok) : Tl KS VS HS WS (n + 1) (sgD l) 1 (some (S l)) := by
  refine ⟨fun s hs => ?_, fun m hm => ?_, fun m hm => ?_, ⟨_, _, rfl, fun z => nomatch z⟩⟩
  · cases hs
    rw [Zyz]
    have := ok.2.1
    omega
  · obtain ⟨k, rfl⟩ : ∃ k, m = k + 1 := ⟨m - 1, by omega⟩
    unfold Gen.Zq Gen.Zap oD sgD
    generalize Gen.Zq k = r
    simp [two0, two1, Ze3]
  · obtain ⟨k, rfl⟩ : ∃ k, m = k + 1 := ⟨m - 1, by omega⟩
    unfold Gen.Zn Gen.Za6 oD sgD
    generalize Gen.Zn k = r
    simp [two0, two1, Ze3]
theorem Zsj (E : ∀ s : Str, Ent (look KS VS (Sum.inr s)) (look HS WS (Sum.inr s))) (n : Nat) (ns : List Str) : Tl KS VS HS WS (n + 1) (fdD ns) 1 (Zex (lkO KS VS) ns) := by
  refine ⟨fun s hs => ?_, fun m hm => ?_, fun m hm => ?_, ⟨_, _, rfl, fun _ => fl_g⟩⟩
  · obtain ⟨x, _, hk⟩ := Zqa _ _ s hs
    have := (Zv4 E x).2 s hk
    omega
  · obtain ⟨k, rfl⟩ : ∃ k, m = k + 1 := ⟨m - 1, by omega⟩
    have tf := told_field (lkO KS VS) KS VS ns fun s _ => (Zv4 E s).1
    unfold fdD
    generalize Zex (lkO KS VS) ns = o at *
    generalize ns.map D.str = NS at *
    unfold Gen.Zq Gen.Zap
    generalize Gen.Zq k = r
    cases o <;> dsimp only [oD] at tf ⊢ <;> simp [two0, two1, Ze3, Zg5, fl_s, tf]
  · obtain ⟨k, rfl⟩ : ∃ k, m = k + 1 := ⟨m - 1, by omega⟩
    have lf := Zkp (Gen.Zn k) (some (.fz (fdD ns))) (some (.fz (.dK HS WS))) none none KS VS ns none fun s _ => (Zv4 E s).1
    unfold fdD at *
    generalize Zex (lkO KS VS) ns = o at *
    generalize ns.map D.str = NS at *
    unfold Gen.Zn Gen.Za6
    generalize Gen.Zn k = r at *
    cases o with
    | none =>
      obtain ⟨y3, lf⟩ := lf
      unfold oD
      simp [-forD, two0, two1, Ze3, Zg5, fl_s, lf]
    | some t =>
      unfold oD
      simp [-forD, two0, two1, Ze3, Zg5, fl_s, lf]
theorem Zqb (t : Str) (hr : Gen.Zaj [.str t] = some (.x NH)) (nm : List Nat) (a b : Nat) (h : look KS VS (Sum.inr (S nm)) = some (.str t)) : Gen.Z4 [hdD nm a b, .dK KS VS] = some (.fz (.str t)) := by
  unfold hdD
  generalize S nm = N at *
  unfold Gen.Z4 Gen.Zb4 Gen.Zdj
  simp [-look, Zlq, h, hr]
theorem Zqc (t : Str) (hl : List D) (r : Str) (a b : Nat) (hr : Gen.Zaj [.str t] = some (.v (.ol hl))) (ht : Gen.Zao [.lst hl, .int (a : Int), .int (b : Int)] = some (.fz (.str r))) (nm : List Nat) (h : look KS VS (Sum.inr (S nm)) = some (.str t)) : Gen.Z4 [hdD nm a b, .dK KS VS] = some (.fz (.str r)) := by
  unfold hdD
  generalize S nm = N at *
  unfold Gen.Z4 Gen.Zb4 Gen.Zdj
  simp [-look, Zlq, Zza, Zzb, h, hr, ht]
theorem Zi4 (n : Nat) (nm : List Nat) (a b : Nat) (o : Option Str) (hl : ∀ s, o = some s → s.length ≤ 200) (hp : Gen.Z4 [hdD nm a b, .dK KS VS] = some (.fz (oD o)))
    (hL : ∀ k, Gen.Zn (k + 1) [hdD nm a b, .dK KS VS, .dK HS WS] = some (.fz (oD o))) : Tl KS VS HS WS (n + 1) (hdD nm a b) 1 o := by
  refine ⟨fun s hs => by have := hl s hs; omega, fun m hm => ?_, fun m hm => ?_, ⟨_, _, rfl, fun _ => hd_g⟩⟩
  · obtain ⟨k, rfl⟩ : ∃ k, m = k + 1 := ⟨m - 1, by omega⟩
    unfold hdD at *
    generalize S nm = N at *
    unfold Gen.Zq Gen.Zap
    generalize Gen.Zq k = r
    cases o <;> dsimp only [oD] at hp ⊢ <;> simp [Zsc, Zlq, Ze3, Zg5, Zkj, hd_s, hd_f, hp]
  · obtain ⟨k, rfl⟩ : ∃ k, m = k + 1 := ⟨m - 1, by omega⟩
    exact hL k
theorem Zlv (E : ∀ s : Str, Ent (look KS VS (Sum.inr s)) (look HS WS (Sum.inr s))) (n : Nat) (nm : List Nat) (a b : Nat) (h1 : 1 ≤ a) (hb : b ≤ 2) : ∃ o, Tl KS VS HS WS (n + 1) (hdD nm a b) 1 o := by
  rcases E (S nm) with ⟨l1, l2⟩ | ⟨t, ht, l1, l2⟩ | ⟨xs, hx, l1, l2⟩
  · refine ⟨none, Zi4 n nm a b none (fun s hs => nomatch hs) (Znp KS VS nm a b l1) fun k => ?_⟩
    unfold hdD oD
    generalize S nm = N at *
    unfold Gen.Zn Gen.Za6
    generalize Gen.Zn k = r
    simp [-look, Zsc, Zlq, Ze3, Zg5, Zkj, hd_s, hd_f, l1, l2]
  · have rf : Gen.Zaj [.str t] = some (.x NH) := List.map_inj_left.mp Zsh t ht
    have tlen := Zmy t ht
    refine ⟨some t, Zi4 n nm a b (some t) (fun s hs => by cases hs; omega) (Zqb t rf nm a b l1) fun k => ?_⟩
    unfold hdD oD
    generalize S nm = N at *
    unfold Gen.Zn Gen.Za6
    generalize Gen.Zn k = r
    simp [-look, Zsc, Zlq, Ze3, Zg5, Zkj, hd_s, hd_f, l1, l2]
  · have rd := Zp7 hx
    have th := Zp9 hx a b h1 hb
    have sh := Zsg hx a b h1 hb
    have tlen := (Zv2 hx b hb).told_len a
    generalize Zlu a (xs.map (tl b)) = R at *
    refine ⟨some R, Zi4 n nm a b (some R) (fun s hs => by cases hs; exact tlen) (Zqc _ _ R a b rd th nm l1) fun k => ?_⟩
    unfold hdD oD
    generalize xs.map lD = LS at *
    generalize S nm = N at *
    unfold Gen.Zn Gen.Za6
    generalize Gen.Zn k = r
    simp [-look, Zsc, Zlq, Zza, Zzb, Ze3, Zg5, Zkj, hd_s, hd_f, l2, sh]
inductive Tls (KS : List L2.Key) (VS : List D) (HS : List L2.Key) (WS : List D) (n : Nat) : List (D × List Tk) → List (Option Str) → Prop where
  | nil : Tls KS VS HS WS n [] []
  | cons {q : D × List Tk} {qs : List (D × List Tk)} {o : Option Str} {os : List (Option Str)} (h : Tl KS VS HS WS n q.1 (nc q.2) o) (t : Tls KS VS HS WS n qs os) : Tls KS VS HS WS n (q :: qs) (o :: os)
theorem Zqd {n : Nat} : ∀ qs : List (D × List Tk), (∀ q ∈ qs, ∃ o, Tl KS VS HS WS n q.1 (nc q.2) o) → ∃ os, Tls KS VS HS WS n qs os
  | [], _ => ⟨[], .nil⟩
  | q :: qs, h => by
    obtain ⟨o, ho⟩ := h q List.mem_cons_self
    obtain ⟨os, t⟩ := Zqd qs fun p hp => h p (List.mem_cons_of_mem _ hp)
    exact ⟨o :: os, .cons ho t⟩
theorem Tls.length {n : Nat} {qs : List (D × List Tk)} {os : List (Option Str)} (h : Tls KS VS HS WS n qs os) : os.length = qs.length := by
  induction h with
  | nil => rfl
  | cons _ _ ih => rw [List.length_cons, List.length_cons, ih]
theorem Tls.comp {n : Nat} {src : List L2.BSrc} {k : Nat} {te : FE} {st : List D → DSt} {qs : List (D × List Tk)} {os : List (Option Str)} (h : Tls KS VS HS WS n qs os)
    (hs : ∀ (d : D) (c : Nat) (o : Option Str) (zs ds : List D), Tl KS VS HS WS n d c o → zs.length < PySem.sizeLine → Zz src k (Zg 0) Za9 te (d :: ds) (st zs) = Zz src k (Zg 0) Za9 te ds (st (zs ++ [oD o]))) : ∀ zs : List D, zs.length + qs.length ≤ 1000 → Zz src k (Zg 0) Za9 te (qs.map (·.1)) (st zs) = some (st (zs ++ os.map oD)) := by
  induction h with
  | nil => intro zs _; simp
  | @cons q qs o os h t ih =>
    intro zs hz
    rw [List.length_cons] at hz
    rw [List.map_cons, List.map_cons]
    refine (hs q.1 _ o zs _ h (Zbj (by omega))).trans ((ih (zs ++ [oD o]) (by rw [List.length_append, List.length_singleton]; omega)).trans ?_)
    rw [List.append_assoc]; rfl
theorem Tls.len {n : Nat} {qs : List (D × List Tk)} {os : List (Option Str)} (h : Tls KS VS HS WS n qs os) : (cat (txs os)).length ≤ 200 * nc (tks qs) ∧ (txs os).length ≤ qs.length ∧ ∀ s ∈ txs os, s.length ≤ 200 * nc (tks qs) := by
  induction h with
  | nil => exact ⟨Nat.zero_le _, Nat.le_refl _, (fun _ h => nomatch h)⟩
  | @cons q qs o os h t ih =>
    obtain ⟨i1, i2, i3⟩ := ih
    have e : tks (q :: qs) = q.2 ++ tks qs := rfl
    rw [e, Zg6]
    cases o with
    | none => exact ⟨by show (cat (txs os)).length ≤ _; omega, by show (txs os).length ≤ _; rw [List.length_cons]; omega, fun s hs => by have := i3 s hs; omega⟩
    | some s =>
      have hs := h.len s rfl
      refine ⟨?_, ?_, fun u hu => ?_⟩
      · show (s ++ cat (txs os)).length ≤ _
        rw [Zea]; omega
      · show (s :: txs os).length ≤ _
        rw [List.length_cons, List.length_cons]; omega
      · rcases List.mem_cons.mp hu with z | z
        · rw [z]; omega
        · have := i3 u z; omega
theorem Tls.at {n : Nat} {qs : List (D × List Tk)} {os : List (Option Str)} (h : Tls KS VS HS WS n qs os) : ∀ (i : Nat) (o : Option Str), os[i]? = some o → ∃ (k : Str) (r : List D), (qs.map (·.1))[i]? = some (D.tup (.str k :: r)) ∧ (o = none → ¬ k = GRP) := by
  induction h with
  | nil => intro i o z; simp at z
  | @cons q qs o' os h t ih =>
    intro i o z
    cases i with
    | zero =>
      simp at z; subst z
      obtain ⟨k, r, e, hk⟩ := h.head
      exact ⟨k, r, by simp [e], hk⟩
    | succ j =>
      obtain ⟨k, r, e, hk⟩ := ih j o (by simpa using z)
      exact ⟨k, r, by simpa using e, hk⟩
end
end My
set_option maxHeartbeats 1000000
namespace My
open DL PySem
section
variable {KS : List L2.Key} {VS : List D} {HS : List L2.Key} {WS : List D}
noncomputable def gT (os : List (Option Str)) : Str := if os.any Option.isNone = true then Str.ofString "" else cat (txs os)
theorem Tls.jo {n : Nat} {qs : List (D × List Tk)} {os : List (Option Str)} (h : Tls KS VS HS WS n qs os) (hq : qs.length ≤ 100) (hn : nc (tks qs) ≤ 100) : JoinOk (Str.ofString "") (txs os) = true := by
  obtain ⟨c1, c2, c3⟩ := h.len
  refine Zj7 (B := 200 * nc (tks qs)) c3 ?_
  have z : (Str.ofString "").length = 0 := by decide +kernel
  rw [z]
  have : (txs os).length * (200 * nc (tks qs)) ≤ 100 * (200 * 100) := Nat.mul_le_mul (by omega) (by omega)
  omega
theorem told_group {n m : Nat} (hm : n ≤ m) {qs : List (D × List Tk)} {os : List (Option Str)} (h : Tls KS VS HS WS n qs os) (hq : qs.length ≤ 100) (hn : nc (tks qs) ≤ 100) :
    Gen.Zb5 (Gen.Zq m) [.tup (qs.map (·.1)), .dK KS VS] = some (.fz (.str (gT os))) := by
  have tc := h.comp (src := [.own, .cap 1, .acc]) (k := 2) (te := Gen.Zdk (Gen.Zq m)) (st := fun zs => [none, some (.fz (.dK KS VS)), some (.ol zs)]) (fun d c o zs ds ht hz => by
    have he := ht.prog m hm
    generalize Gen.Zq m = r at *
    rw [Zz]
    unfold Gen.Zdk
    cases o <;> dsimp only [oD] at he ⊢ <;> simp [-Zz, he, hz]) [] (by simp; omega)
  rw [List.nil_append] at tc
  have fo := Zv3 os
  have io := Z2b os
  have so := Zmx os
  have jo := h.jo hq hn
  have tj := Zhu (txs os)
  unfold gT
  generalize os.any Option.isNone = b at *
  generalize os.map oD = OS at *
  generalize txs os = GS at *
  generalize Gen.Zq m = r at *
  generalize qs.map (·.1) = DS at *
  unfold Gen.Zb5 Gen.Zdd
  cases b with
  | true => simp [-Zz, -List.all_eq_true, tc, fo, io]
  | false => simp [-Zz, -List.all_eq_true, tc, fo, io, so rfl, jo, tj]
theorem Zsk (r : List D → Option SV) (F H x3 : Option SV) (DS : List D) (OS : List D) (i : Nat) (k : Str) (rr : List D) (o : Option Str) (h1 : OS[i]? = some (oD o)) (h2 : DS[i]? = some (D.tup (.str k :: rr))) (hk : o = none → ¬ k = GRP) :
    Gen.Za8 r [some (.fz (grD DS)), F, H, x3, some (.ol OS), some (.fz (.int (i : Int)))] = some (if o.isNone = true then .rt (.fz (.str (Str.ofString ""))) else .nx [some (.fz (grD DS)), F, H, x3, some (.ol OS), some (.fz (.int (i : Int)))]) := by
  have a1 : L2.atI OS (i : Int) = some (oD o) := Zeb _ _ _ h1
  have a2 : L2.atI DS (i : Int) = some (D.tup (.str k :: rr)) := Zeb _ _ _ h2
  have a3 := tup0 k rr
  unfold grD
  generalize (i : Int) = I at *
  unfold Gen.Za8
  cases o with
  | none =>
    have := hk rfl
    dsimp only [oD] at a1
    simp [two1, a1, a2, a3, Zy7, this]
  | some s =>
    dsimp only [oD] at a1
    simp [a1]
theorem Zmz (r : List D → Option SV) (F H x3 : Option SV) {n : Nat} {qs : List (D × List Tk)} {os : List (Option Str)} (h : Tls KS VS HS WS n qs os) : ∀ (m i : Nat) (x5 : Option SV), i + m = os.length →
    if (os.drop i).any Option.isNone = true then forD (Zg 5) (Gen.Za8 r) (nats i m) [some (.fz (grD (qs.map (·.1)))), F, H, x3, some (.ol (os.map oD)), x5] = some (.rt (.fz (.str (Str.ofString ""))))
    else ∃ y5, forD (Zg 5) (Gen.Za8 r) (nats i m) [some (.fz (grD (qs.map (·.1)))), F, H, x3, some (.ol (os.map oD)), x5] = some (.nx [some (.fz (grD (qs.map (·.1)))), F, H, x3, some (.ol (os.map oD)), y5])
  | 0, i, x5, e => by
    rw [List.drop_of_length_le (by omega)]
    exact ⟨x5, rfl⟩
  | m + 1, i, x5, e => by
    have hi : i < os.length := by omega
    obtain ⟨k, rr, h2, hk⟩ := h.at i os[i] (List.getElem?_eq_getElem hi)
    have t := Zsk r F H x3 (qs.map (·.1)) (os.map oD) i k rr os[i] (by rw [List.getElem?_map, List.getElem?_eq_getElem hi]; rfl) h2 hk
    have ih := Zmz r F H x3 h m (i + 1) (some (.fz (.int (i : Int)))) (by omega)
    rw [List.drop_eq_getElem_cons hi, List.any_cons]
    clear h2 hk
    generalize grD (qs.map (·.1)) = GD at t ih ⊢
    generalize os.map oD = OS at t ih ⊢
    cases ho : os[i] with
    | none =>
      rw [ho, if_pos (show Option.isNone (none : Option Str) = true from rfl)] at t
      rw [show (Option.isNone (none : Option Str) || (os.drop (i + 1)).any Option.isNone) = true from rfl, if_pos rfl]
      exact Zln (ds := nats (i + 1) m) (δ1 := [some (.fz GD), F, H, x3, some (.ol OS), some (.fz (.int (i : Int)))]) (by simp) t
    | some s =>
      rw [ho, if_neg (show ¬ Option.isNone (some s) = true by simp)] at t
      rw [show (Option.isNone (some s) || (os.drop (i + 1)).any Option.isNone) = (os.drop (i + 1)).any Option.isNone from rfl]
      have st : forD (Zg 5) (Gen.Za8 r) (nats i (m + 1)) [some (.fz GD), F, H, x3, some (.ol OS), x5] = forD (Zg 5) (Gen.Za8 r) (nats (i + 1) m) [some (.fz GD), F, H, x3, some (.ol OS), some (.fz (.int (i : Int)))] := Zcq (d := .int (i : Int)) (ds := nats (i + 1) m) (δ1 := [some (.fz GD), F, H, x3, some (.ol OS), some (.fz (.int (i : Int)))]) (by simp) t
      split
      · rename_i hz; rw [if_pos hz] at ih; exact st.trans ih
      · rename_i hz; rw [if_neg hz] at ih; obtain ⟨y5, ih⟩ := ih; exact ⟨y5, st.trans ih⟩
theorem Znq (r : List D → Option SV) : ∀ (os : List (Option Str)) (zs : List D), zs.length + os.length ≤ 1000 → Zz [.own, .acc] 1 (Zg 0) (Gen.Zfy r) (Gen.Zfz r) (os.map oD) [none, some (.ol zs)] = some [none, some (.ol (zs ++ (txs os).map D.str))] := Zcy
theorem Zqe {n m : Nat} (hm : n ≤ m) {qs : List (D × List Tk)} {os : List (Option Str)} (h : Tls KS VS HS WS n qs os) (hq : qs.length ≤ 100) (hn : nc (tks qs) ≤ 100) :
    Gen.Zn (m + 1) [grD (qs.map (·.1)), .dK KS VS, .dK HS WS] = some (.fz (.str (gT os))) := by
  have ol := h.length
  have tc := h.comp (src := [.own, .cap 1, .cap 2, .acc]) (k := 3) (te := Gen.Zee (Gen.Zn m)) (st := fun zs => [none, some (.fz (.dK KS VS)), some (.fz (.dK HS WS)), some (.ol zs)]) (fun d c o zs ds ht hz => by
    have he := ht.law m hm
    generalize Gen.Zn m = r at *
    rw [Zz]
    unfold Gen.Zee
    cases o <;> dsimp only [oD] at he ⊢ <;> simp [-Zz, he, hz]) [] (by simp; omega)
  rw [List.nil_append] at tc
  have lp := Zmz (Gen.Zn m) (some (.fz (.dK KS VS))) (some (.fz (.dK HS WS))) none h os.length 0 none (by omega)
  rw [List.drop_zero] at lp
  have fc := Znq (Gen.Zn m) os [] (by simp; omega)
  rw [List.nil_append] at fc
  have sm := Zas (txs os)
  have jo := h.jo hq hn
  have tj := Zhu (txs os)
  have zo : (os.map oD).length ≤ PySem.sizeLine := Z1 (by rw [List.length_map]; omega)
  have g1 : rngP ((os.map oD).length : Int) := Ze6 (by rw [List.length_map]; omega)
  have et : (((os.map oD).length : Nat) : Int).toNat = os.length := by rw [List.length_map]; omega
  unfold gT
  unfold grD at *
  generalize os.any Option.isNone = b at *
  generalize os.map oD = OS at *
  generalize (txs os).map D.str = TS at *
  generalize txs os = GS at *
  generalize qs.map (·.1) = DS at *
  unfold Gen.Zn Gen.Za6
  generalize Gen.Zn m = r at *
  cases b with
  | true =>
    rw [if_pos rfl] at lp
    rw [if_pos rfl]
    simp [-Zz, -forD, two0, two1, Ze3, Zg5, Zkj, gr_s, gr_f, gr_h, tc, zo, g1, et, Zcl, lp]
  | false =>
    rw [if_neg (by decide)] at lp
    obtain ⟨y5, lp⟩ := lp
    rw [if_neg (by decide)]
    simp [-Zz, -forD, two0, two1, Ze3, Zg5, Zkj, gr_s, gr_f, gr_h, tc, zo, g1, et, Zcl, lp, fc, sm, jo, tj]
theorem Zqf {q : D × List Tk} : ∀ qs : List (D × List Tk), q ∈ qs → nc q.2 ≤ nc (tks qs)
  | p :: qs, h => by
    have e : tks (p :: qs) = p.2 ++ tks qs := rfl
    rw [e, Zg6]
    rcases List.mem_cons.mp h with z | z
    · rw [z]; omega
    · have := Zqf qs z; omega
theorem Zqg (E : ∀ s : Str, Ent (look KS VS (Sum.inr s)) (look HS WS (Sum.inr s))) : ∀ (n : Nat) (d : D) (ts : List Tk), Pie n d ts → nc ts ≤ 100 → ∃ o, Tl KS VS HS WS n d (nc ts) o
  | 0, _, _, h, _ => h.elim
  | n + 1, d, ts, h, hn => by
    rcases h with ⟨l, h1, rfl, rfl⟩ | ⟨ns, h0, h1, h2, rfl, rfl⟩ | ⟨nm, a, b, h1, h2, h3, h4, rfl, rfl⟩ | ⟨qs, h0, h1, h2, rfl, rfl⟩
    · exact ⟨_, Zsi n l h1⟩
    · exact ⟨_, Zsj E n (ns.map S)⟩
    · exact Zlv E n nm a b h2 h4
    · have eg : nc (.op :: (qs.flatMap (·.2) ++ [.cl])) = nc (tks qs) + 1 := Zpw (tks qs)
      rw [eg] at hn ⊢
      obtain ⟨os, ht⟩ := Zqd (KS := KS) (VS := VS) (HS := HS) (WS := WS) (n := n) qs fun q hq => Zqg E n q.1 q.2 (h2 q hq) (by have := Zqf qs hq; omega)
      refine ⟨some (gT os), fun s hs => ?_, fun m hm => ?_, fun m hm => ?_, ⟨_, _, rfl, fun z => nomatch z⟩⟩
      · cases hs
        have := ht.len.1
        have z : (Str.ofString "").length = 0 := by decide +kernel
        unfold gT
        split
        · omega
        · omega
      · obtain ⟨k, rfl⟩ : ∃ k, m = k + 1 := ⟨m - 1, by omega⟩
        have tg := told_group (m := k) (by omega) ht h1 (by omega)
        unfold grD
        generalize gT os = G at *
        generalize qs.map (·.1) = DS at *
        unfold Gen.Zq Gen.Zap oD
        generalize Gen.Zq k = r at *
        simp [two0, two1, Ze3, Zg5, Zkj, gr_s, gr_f, gr_h, tg]
      · obtain ⟨k, rfl⟩ : ∃ k, m = k + 1 := ⟨m - 1, by omega⟩
        exact Zqe (by omega) ht h1 (by omega)
end
end My
set_option maxHeartbeats 1000000
namespace My
open DL PySem
theorem Zqh (ns : List Int) (k : Nat) : ∃ c : Int, Gen.Zaw [.lst (ns.map D.int), .int (k : Int)] = some (.fz (.int c)) := by
  by_cases h : k < ns.length
  · have a : L2.atI (ns.map D.int) (k : Int) = some (.int ns[k]) := Zeb _ _ _ (by rw [List.getElem?_map, List.getElem?_eq_getElem h]; rfl)
    refine ⟨ns[k], ?_⟩
    have h' : (k : Int) < (ns.length : Int) := by omega
    unfold Gen.Zaw Gen.Zcf
    simp [h', h, a]
  · refine ⟨0, ?_⟩
    have h' : ¬ (k : Int) < (ns.length : Int) := by omega
    unfold Gen.Zaw Gen.Zcf
    simp [h', h]
structure Rl (xs : List Str) (vs : List D) (ys : List Str) (us : List D) (k : Nat) : Prop where
  dx : Dic xs vs
  dy : Dic ys us
  ent : ∀ s, Ent (look xs vs s) (look ys us s)
  str : ∀ v ∈ vs, ∃ t, v = .str t
  len : vs.length ≤ 2 * k ∧ us.length ≤ k
theorem Zz0 {xs : List Str} {vs : List D} {ys : List Str} {us : List D} {k : Nat} (h : Rl xs vs ys us k) (w t : Str) (ht : t ∈ NINE) (hw : look ys us w = none) : Rl (putA xs vs w (.str t)).1 (putA xs vs w (.str t)).2 ys us (k + 1) := by
  refine ⟨h.dx.put w _, h.dy, fun s => ?_, fun v hv => ?_, ?_⟩
  · rw [Zel w s _ xs vs h.dx.len]
    split
    · rename_i z; subst z; exact .inr (.inl ⟨t, ht, rfl, hw⟩)
    · exact h.ent s
  · rcases Zg3 w _ xs vs v hv with z | z
    · exact ⟨t, z⟩
    · exact h.str v z
  · have := (Zfn w (.str t) xs vs h.dx.len).2
    have := h.len
    omega
theorem Zz1 {xs : List Str} {vs : List D} {ys : List Str} {us : List D} {k : Nat} (h : Rl xs vs ys us k) (w t : Str) (hs : List HX) (hh : Hs hs) :
    Rl (putA (putA xs vs w (.str t)).1 (putA xs vs w (.str t)).2 w (.str (HTx hs))).1 (putA (putA xs vs w (.str t)).1 (putA xs vs w (.str t)).2 w (.str (HTx hs))).2 (putA ys us w (.lst (hs.map lD))).1 (putA ys us w (.lst (hs.map lD))).2 (k + 1) := by
  have d1 := h.dx.put w (.str t)
  refine ⟨d1.put w _, h.dy.put w _, fun s => ?_, fun v hv => ?_, ?_⟩
  · rw [Zel w s _ _ _ d1.len, Zel w s _ ys us h.dy.len, Zel w s _ xs vs h.dx.len]
    split
    · exact .inr (.inr ⟨hs, hh, rfl, rfl⟩)
    · exact h.ent s
  · rcases Zg3 w _ _ _ v hv with z | z
    · exact ⟨_, z⟩
    · rcases Zg3 w _ xs vs v z with z | z
      · exact ⟨t, z⟩
      · exact h.str v z
  · have := (Zfn w (.str t) xs vs h.dx.len).2
    have := (Zfn w (.str (HTx hs)) _ _ d1.len).2
    have := (Zfn w (.lst (hs.map lD)) ys us h.dy.len).2
    have := h.len
    omega
theorem Zv5 (x : Int) : ∃ t ∈ NINE, L2.atI [D.str "Lee, Ann & ", .str "2001", .str "A b's (x)", .str "Lee,Ann", .str "Roe & Sons Ltd.", .str "The House, 12", .str "Abcdefghijklmnop", .str "Lee, A B C D E", .str "A & B & C & D & E & F & G"] (x % 9) = some (.str t) := Zp2 NINE x 9 rfl (by decide)
theorem Zv6 (B x6 : Option SV) (WD MS : List D) (w : Str) (k v u : Int) (hw : L2.atI WD k = some (.str w)) (hv : L2.atI MS k = some (.int v)) (hu : L2.atI MS (6 + k) = some (.int u)) {xs : List Str} {vs : List D} {ys : List Str} {us : List D} {n : Nat} (h : Rl xs vs ys us n) (hn : n ≤ 100) (h0 : look ys us w = none) :
    ∃ xs' vs' ys' us' y6, Rl xs' vs' ys' us' (n + 1) ∧ (∀ s, ¬ s = w → look ys us s = none → look ys' us' s = none) ∧ Gen.Zal [some (.fz (.lst WD)), B, some (.oK (inrs xs) vs), some (.oK (inrs ys) us), some (.ol MS), some (.fz (.int k)), x6] = some (.nx [some (.fz (.lst WD)), B, some (.oK (inrs xs') vs'), some (.oK (inrs ys') us'), some (.ol MS), some (.fz (.int k)), y6]) := by
  have m0 : 0 ≤ v % 4 := Int.emod_nonneg _ (by decide)
  have hl := h.len
  have zv : vs.length < PySem.sizeLine := Zbj (by omega)
  have zu : us.length < PySem.sizeLine := Zbj (by omega)
  have y6 : 6 ≤ PySem.sizeLine := Z1 (by decide)
  have y3 : 3 ≤ PySem.sizeLine := Z1 (by decide)
  have y9 : 9 ≤ PySem.sizeLine := Z1 (by decide)
  by_cases c0 : 0 < v % 4
  · obtain ⟨t, ht, at'⟩ := Zv5 u
    have pi := Zil w (.str t) xs vs
    by_cases c1 : 1 < v % 4
    · obtain ⟨hs, hh, eh⟩ := Zv1 u
      have et := Zp6 hh
      have r2 := Zz1 h w t hs hh
      have pl := Zfn w (.str t) xs vs h.dx.len
      have lk := Zel w w (.lst (hs.map lD)) ys us h.dy.len
      rw [if_pos rfl] at lk
      have lk2 := Zge w (putA ys us w (.lst (hs.map lD))).1 (putA ys us w (.lst (hs.map lD))).2
      rw [lk] at lk2
      have pj := Zil w (.lst (hs.map lD)) ys us
      have lo : ∀ s, ¬ s = w → look ys us s = none → look (putA ys us w (.lst (hs.map lD))).1 (putA ys us w (.lst (hs.map lD))).2 s = none := fun s hs hn => by
        rw [Zel w s _ ys us h.dy.len, if_neg (fun z => hs z.symm)]; exact hn
      generalize (putA xs vs w (.str t)).1 = xs1 at *
      generalize (putA xs vs w (.str t)).2 = vs1 at *
      generalize (putA ys us w (.lst (hs.map lD))).1 = ys1 at *
      generalize (putA ys us w (.lst (hs.map lD))).2 = us1 at *
      have zv1 : vs1.length < PySem.sizeLine := Zbj (by omega)
      have pk := Zil w (.str (HTx hs)) xs1 vs1
      refine ⟨_, _, _, _, some (.ol [D.str "Lee, Ann & ", .str "2001", .str "A b's (x)", .str "Lee,Ann", .str "Roe & Sons Ltd.", .str "The House, 12", .str "Abcdefghijklmnop", .str "Lee, A B C D E", .str "A & B & C & D & E & F & G"]), r2, lo, ?_⟩
      generalize (putA xs1 vs1 w (.str (HTx hs))).2 = vs2 at *
      generalize inrs (putA xs1 vs1 w (.str (HTx hs))).1 = KS2 at *
      generalize inrs xs1 = KS1 at *
      generalize inrs ys1 = YS1 at *
      generalize inrs xs = KS at *
      generalize inrs ys = YS at *
      generalize HTx hs = HT at *
      generalize hs.map lD = LS at *
      unfold Gen.Zal
      simp [-putA, -look, hw, hv, hu, c0, c1, at', y6, y3, y9, zv, zu, zv1, pi, pj, pk, eh, et, lk2]
    · refine ⟨_, _, ys, us, some (.ol [D.str "Lee, Ann & ", .str "2001", .str "A b's (x)", .str "Lee,Ann", .str "Roe & Sons Ltd.", .str "The House, 12", .str "Abcdefghijklmnop", .str "Lee, A B C D E", .str "A & B & C & D & E & F & G"]), Zz0 h w t ht h0, fun _ _ z => z, ?_⟩
      generalize (putA xs vs w (.str t)).2 = vs1 at *
      generalize inrs (putA xs vs w (.str t)).1 = KS1 at *
      generalize inrs xs = KS at *
      generalize inrs ys = YS at *
      unfold Gen.Zal
      simp [-putA, -look, hw, hv, hu, c0, c1, at', y6, y3, y9, zv, pi]
  · have c1 : ¬ 1 < v % 4 := by omega
    refine ⟨xs, vs, ys, us, x6, ⟨h.dx, h.dy, h.ent, h.str, by omega⟩, fun _ _ z => z, ?_⟩
    unfold Gen.Zal
    simp [hv, c0, c1]
theorem Zqi (B : Option SV) (WD MS : List D) (W : Nat → Str) (hinj : ∀ i j, i < 6 → j < 6 → W i = W j → i = j) (hW : ∀ k : Nat, k < 6 → L2.atI WD (k : Int) = some (.str (W k))) (hM : ∀ k : Nat, k < 12 → ∃ v, L2.atI MS (k : Int) = some (.int v)) : ∀ (m i : Nat) (xs : List Str) (vs : List D) (ys : List Str) (us : List D) (x5 x6 : Option SV), i + m ≤ 6 → Rl xs vs ys us i → (∀ j, i ≤ j → j < 6 → look ys us (W j) = none) →
    ∃ xs' vs' ys' us' y5 y6, Rl xs' vs' ys' us' (i + m) ∧ forD (Zg 5) Gen.Zal (nats i m) [some (.fz (.lst WD)), B, some (.oK (inrs xs) vs), some (.oK (inrs ys) us), some (.ol MS), x5, x6] = some (.nx [some (.fz (.lst WD)), B, some (.oK (inrs xs') vs'), some (.oK (inrs ys') us'), some (.ol MS), y5, y6])
  | 0, i, xs, vs, ys, us, x5, x6, _, h, _ => ⟨xs, vs, ys, us, x5, x6, h, rfl⟩
  | m + 1, i, xs, vs, ys, us, x5, x6, hi, h, hj => by
    obtain ⟨v, hv⟩ := hM i (by omega)
    obtain ⟨u, hu⟩ := hM (6 + i) (by omega)
    have hu : L2.atI MS (6 + (i : Int)) = some (.int u) := by rw [← hu]; congr 1
    obtain ⟨xs1, vs1, ys1, us1, y6, h1, h2, e1⟩ := Zv6 B x6 WD MS (W i) (i : Int) v u (hW i (by omega)) hv hu h (by omega) (hj i (Nat.le_refl _) (by omega))
    obtain ⟨xs2, vs2, ys2, us2, z5, z6, h3, e2⟩ := Zqi B WD MS W hinj hW hM m (i + 1) xs1 vs1 ys1 us1 (some (.fz (.int (i : Int)))) y6 (by omega) h1 (fun j hj1 hj2 => h2 _ (fun z => by have := hinj j i hj2 (by omega) z; omega) (hj j (by omega) hj2))
    refine ⟨xs2, vs2, ys2, us2, z5, z6, by rw [show i + (m + 1) = i + 1 + m by omega]; exact h3, (Zcq (d := .int (i : Int)) (ds := nats (i + 1) m) (by simp) e1).trans e2⟩
theorem Zsl (ws : List (List Nat)) (wl : ws.length = 6) (wd : ws.Nodup) (c : Int) : ∃ xs vs ys us, Rl xs vs ys us 6 ∧ Gen.Zcm [.lst ((ws.map S).map D.str), .int c] = some (.fz (.tup [.dK (inrs xs) vs, .dK (inrs ys) us])) := by
  obtain ⟨ms, e1, _, l1⟩ := Zfr c 12 (by decide)
  have i12 : ((12 : Nat) : Int) = 12 := rfl
  rw [i12] at e1
  obtain ⟨xs, vs, ys, us, y5, y6, h, lp⟩ := Zqi (some (.fz (.int c))) ((ws.map S).map D.str) (ms.map D.int) (fun k => S (ws.getD k [])) (fun i j hi hj z => by
    have e := Z1s z
    rw [List.getD_eq_getElem?_getD, List.getD_eq_getElem?_getD, List.getElem?_eq_getElem (by omega), List.getElem?_eq_getElem (by omega)] at e
    have e : ws[i]'(by omega) = ws[j]'(by omega) := e
    rcases Nat.lt_trichotomy i j with z | z | z
    · exact absurd e (List.pairwise_iff_getElem.mp wd i j (by omega) (by omega) z)
    · exact z
    · exact absurd e.symm (List.pairwise_iff_getElem.mp wd j i (by omega) (by omega) z))
    (fun k hk => Zeb _ _ _ (by rw [List.getElem?_map, List.getElem?_map, List.getD_eq_getElem?_getD, List.getElem?_eq_getElem (by omega)]; rfl))
    (fun k hk => ⟨ms[k]'(by omega), Zeb _ _ _ (by rw [List.getElem?_map, List.getElem?_eq_getElem (by omega)]; rfl)⟩) 6 0 [] [] [] [] none none (by decide) ⟨Dic.nil, Dic.nil, fun s => .inl ⟨rfl, rfl⟩, (fun _ h => nomatch h), by decide⟩ (fun _ _ _ => rfl)
  refine ⟨xs, vs, ys, us, by simpa using h, ?_⟩
  have lp : forD (Zg 5) Gen.Zal (nats 0 6) [some (.fz (.lst ((ws.map S).map D.str))), some (.fz (.int c)), some (.oK [] []), some (.oK [] []), some (.ol (ms.map D.int)), none, none] = _ := lp
  have g1 : rngP (6 : Int) := Zk3 (by decide) (by decide)
  have et : ((6 : Int)).toNat = 6 := rfl
  generalize inrs xs = KS at *
  generalize inrs ys = YS at *
  generalize (ws.map S).map D.str = WD at *
  generalize ms.map D.int = MS at *
  unfold Gen.Zcm Gen.Zda
  simp [-forD, e1, g1, et, Zcl, lp, z2]
section
variable {KS : List L2.Key} {VS : List D} {HS : List L2.Key} {WS : List D}
theorem Tmp.tells {qs : List (D × List Tk)} (h : Tmp qs) (E : ∀ s : Str, Ent (look KS VS (Sum.inr s)) (look HS WS (Sum.inr s))) : ∃ os, Tls KS VS HS WS 4 qs os := by
  have few := h.few
  exact Zqd qs fun q hq => Zqg E 4 q.1 q.2 (h.lev.pie q hq) (by have := Zqf qs hq; omega)
theorem Tmp.fill {qs : List (D × List Tk)} (h : Tmp qs) {os : List (Option Str)} (ht : Tls KS VS HS WS 4 qs os) : Gen.Zhv [.tup (dsq qs), .dK KS VS] = some (.fz (.str (cat (txs os)))) := by
  have few := h.few
  have most := h.most
  have ol := ht.length
  have tc := ht.comp (src := [.own, .cap 1, .acc]) (k := 2) (te := Gen.Zgf) (st := fun zs => [none, some (.fz (.dK KS VS)), some (.ol zs)]) (fun d c o zs ds ht hz => by
    have he : Gen.Zcn [d, .dK KS VS] = some (.fz (oD o)) := ht.prog 12 (by decide)
    rw [Zz]
    unfold Gen.Zgf
    cases o <;> dsimp only [oD] at he ⊢ <;> simp [-Zz, he, hz]) [] (by simp; omega)
  rw [List.nil_append] at tc
  have tc : Zz [.own, .cap 1, .acc] 2 (Zg 0) Za9 Gen.Zgf (dsq qs) [none, some (.fz (.dK KS VS)), some (.ol [])] = _ := tc
  have fc := Zcy os [] (by simp; omega)
  rw [List.nil_append] at fc
  have jo := ht.jo (by omega) (by omega)
  have tj := Zhu (txs os)
  have sm := Zas (txs os)
  generalize dsq qs = DS at *
  generalize (txs os).map D.str = TS at *
  generalize txs os = GS at *
  generalize os.map oD = OS at *
  unfold Gen.Zhv Gen.Zmr
  simp [-Zz, tc, fc, sm, jo, tj]
end
theorem law_true (ns : List Int) (h : ns.length ≤ 63) : Gen.Zis [.lst (ns.map D.int)] = some (.fz (.bl true)) := by
  obtain ⟨c0, e0⟩ := Zqh ns 0
  obtain ⟨c1, e1⟩ := Zqh ns 1
  have i0 : ((0 : Nat) : Int) = 0 := rfl
  have i1 : ((1 : Nat) : Int) = 1 := rfl
  rw [i0] at e0
  rw [i1] at e1
  obtain ⟨ws, en, wl, wd, wN⟩ := Zse c0
  obtain ⟨ms, em, hm⟩ : ∃ ms : List Int, cutD (ns.map D.int) (some 2) (some 32) = ms.map D.int ∧ ms.length ≤ 30 := by
    obtain ⟨ms, e, l⟩ := Zvp ns (some 2) (some 32)
    refine ⟨ms, e, ?_⟩
    have : (cutD (ns.map D.int) (some 2) (some 32)).length ≤ 30 := by
      unfold cutD HT.sIx
      simp
      omega
    rw [e, List.length_map] at this
    exact this
  obtain ⟨qs, t, own, et⟩ := Znn ws (by omega) wN ms hm
  obtain ⟨xs, vs, ys, us, rl, ef⟩ := Zsl ws wl wd c1
  have E : ∀ s : Str, Ent (look (inrs xs) vs (Sum.inr s)) (look (inrs ys) us (Sum.inr s)) := fun s => by rw [Zge, Zge]; exact rl.ent s
  have E0 : ∀ s : Str, Ent (look ([] : List L2.Key) [] (Sum.inr s)) (look ([] : List L2.Key) [] (Sum.inr s)) := fun s => .inl ⟨rfl, rfl⟩
  obtain ⟨os, ht⟩ := t.tells E
  obtain ⟨os0, ht0⟩ := t.tells E0
  have few := t.few
  have most := t.most
  have ol := ht.length
  have ol0 := ht0.length
  have f1 := t.fill ht
  have f0 := t.fill ht0
  have tc := ht.comp (src := [.own, .cap 3, .cap 4, .acc]) (k := 3) (te := Gen.Ziq) (st := fun zs => [none, some (.fz (.dK (inrs xs) vs)), some (.fz (.dK (inrs ys) us)), some (.ol zs)]) (fun d c o zs ds ht hz => by
    have he : Gen.Zcx [d, .dK (inrs xs) vs, .dK (inrs ys) us] = some (.fz (oD o)) := ht.law 12 (by decide)
    generalize inrs xs = KS at *
    generalize inrs ys = YS at *
    rw [Zz]
    unfold Gen.Ziq
    cases o <;> dsimp only [oD] at he ⊢ <;> simp [-Zz, he, hz]) [] (by simp; omega)
  rw [List.nil_append] at tc
  have tc : Zz [.own, .cap 3, .cap 4, .acc] 3 (Zg 0) Za9 Gen.Ziq (dsq qs) [none, some (.fz (.dK (inrs xs) vs)), some (.fz (.dK (inrs ys) us)), some (.ol [])] = _ := tc
  have tc0 := ht0.comp (src := [.own, .acc]) (k := 1) (te := Gen.Zir) (st := fun zs => [none, some (.ol zs)]) (fun d c o zs ds ht hz => by
    have he : Gen.Zcx [d, .dK [] [], .dK [] []] = some (.fz (oD o)) := ht.law 12 (by decide)
    rw [Zz]
    unfold Gen.Zir
    cases o <;> dsimp only [oD] at he ⊢ <;> simp [-Zz, he, hz]) [] (by simp; omega)
  rw [List.nil_append] at tc0
  have tc0 : Zz [.own, .acc] 1 (Zg 0) Za9 Gen.Zir (dsq qs) [none, some (.ol [])] = _ := tc0
  have fc : Zz [.own, .acc] 1 (Zg 0) Gen.Zpp Gen.Zpq (os.map oD) [none, some (.ol [])] = some [none, some (.ol ([] ++ (txs os).map D.str))] := Zcy os [] (by simp; omega)
  have fc0 : Zz [.own, .acc] 1 (Zg 0) Gen.Zpr Gen.Zps (os0.map oD) [none, some (.ol [])] = some [none, some (.ol ([] ++ (txs os0).map D.str))] := Zcy os0 [] (by simp; omega)
  rw [List.nil_append] at fc fc0
  have jo := ht.jo (by omega) (by omega)
  have jo0 := ht0.jo (by omega) (by omega)
  have tj := Zhu (txs os)
  have tj0 := Zhu (txs os0)
  have sm := Zas (txs os)
  have sm0 := Zas (txs os0)
  have eq : eqM 48 (.dK (inrs xs) vs) (.dK (inrs xs) vs) = some true := Zy3 47 rl.dx fun v hv => by
    obtain ⟨t, rfl⟩ := rl.str v hv
    exact Zvr 46 t
  generalize inrs xs = KS at *
  generalize inrs ys = YS at *
  generalize cat (txs os) = T at *
  generalize cat (txs os0) = T0 at *
  generalize (txs os).map D.str = TS at *
  generalize (txs os0).map D.str = TS0 at *
  generalize txs os = GS at *
  generalize txs os0 = GS0 at *
  generalize os.map oD = OS at *
  generalize os0.map oD = OS0 at *
  generalize dsq qs = DS at *
  generalize (ws.map S).map D.str = WD at *
  generalize ms.map D.int = MS at *
  generalize ns.map D.int = NS at *
  unfold Gen.Zis Gen.Zsb
  simp [-Zz, -eqM, e0, e1, en, em, et, ef, tc, fc, sm, jo, tj, f1, eq, tc0, fc0, sm0, jo0, tj0, f0]
end My
def PySem.W.Fast.tw8748638346040012440:=()
def PySem.W.Fast.tw1501257149451720026:=()
def PySem.W.Fast.tw14561045162750495836:=()
def PySem.W.Fast.tw1786004351675186304:=()
def PySem.W.Fast.tw6813001009687262241:=()
def PySem.W.Fast.tw12945370255229128963:=()
def PySem.W.Fast.tw16900591131741279231:=()
def PySem.W.Fast.tw10478010801558655422:=()
def PySem.W.Fast.tw8440698975846337606:=()
def PySem.W.Fast.tw5500967171080247666:=()
def PySem.W.Fast.tw2223712442344547887:=()
def PySem.W.Fast.tw8778500993178183754:=()
open PySem PySem.W PyProof.Rows
set_option maxRecDepth 100000 in
set_option maxHeartbeats 0 in
theorem PySem.Challenge.cw_citeward_k16_templates_filled_holds : PySem.Challenge.rw_citeward_k16_templates_filled.Holds := by
  w_on; o_law; k_head; (case hw => w_witness2)
  k_fill
  refine Gen.walk (l := PySem.Challenge.rw_citeward_k16_templates_filled) rfl rfl (fun w h Y => PySem.W.kIn_of Y) ?F My.law_true
  case F =>
    intro w mg fa h KX G hmg
    refine' Gen.Zy5 KX G hmg ?alaw_numbers ?llaw_numbers ?claw_numbers ?klaw_numbers ?alaw_names ?llaw_names ?claw_names ?klaw_names ?alaw_template ?llaw_template ?claw_template ?klaw_template ?alaw_hands ?llaw_hands ?claw_hands ?klaw_hands ?alaw_hands_text ?llaw_hands_text ?claw_hands_text ?klaw_hands_text ?alaw_fields ?llaw_fields ?claw_fields ?klaw_fields ?atold_field ?ltold_field ?ctold_field ?ktold_field ?atold_hand ?ltold_hand ?ctold_hand ?ktold_hand ?atold_hands ?ltold_hands ?ctold_hands ?ktold_hands ?ais_all_of ?lis_all_of ?cis_all_of ?kis_all_of ?ais_text_of ?lis_text_of ?cis_text_of ?kis_text_of ?aread_hand ?lread_hand ?cread_hand ?kread_hand ?aread_hands ?lread_hands ?cread_hands ?kread_hands ?atold_names ?ltold_names ?ctold_names ?ktold_names ?atold_group ?ltold_group ?ctold_group ?ktold_group ?atold_piece ?ltold_piece ?ctold_piece ?ktold_piece ?afill ?lfill ?cfill ?kfill ?alaw_cell_at ?llaw_cell_at ?claw_cell_at ?klaw_cell_at ?alaw_short ?llaw_short ?claw_short ?klaw_short ?alaw_told ?llaw_told ?claw_told ?klaw_told ?alaw ?llaw ?claw ?klaw ?zall ?zdict ?zint ?zisinstance ?zlen ?zrange ?zstr ?ztuple ?zLETTERS ?zMOST_GIVENS ?zMOST_HANDS ?zWORD_LENGTH ?zc_NoHands ?ty_NoHands ?ic_NoHands ?be_NoHands ?h_NoHands_NoHands ?ow_NoHands
    (case alaw_numbers => k_is)
    (case llaw_numbers => k_is)
    (case claw_numbers => k_is)
    (case klaw_numbers => k_is)
    (case alaw_names => k_is)
    (case llaw_names => k_is)
    (case claw_names => k_is)
    (case klaw_names => k_is)
    (case alaw_template => k_is)
    (case llaw_template => k_is)
    (case claw_template => k_is)
    (case klaw_template => k_is)
    (case alaw_hands => k_is)
    (case llaw_hands => k_is)
    (case claw_hands => k_is)
    (case klaw_hands => k_is)
    (case alaw_hands_text => k_is)
    (case llaw_hands_text => k_is)
    (case claw_hands_text => k_is)
    (case klaw_hands_text => k_is)
    (case alaw_fields => k_is)
    (case llaw_fields => k_is)
    (case claw_fields => k_is)
    (case klaw_fields => k_is)
    (case atold_field => k_is)
    (case ltold_field => k_is)
    (case ctold_field => k_is)
    (case ktold_field => k_is)
    (case atold_hand => k_is)
    (case ltold_hand => k_is)
    (case ctold_hand => k_is)
    (case ktold_hand => k_is)
    (case atold_hands => k_is)
    (case ltold_hands => k_is)
    (case ctold_hands => k_is)
    (case ktold_hands => k_is)
    (case ais_all_of => k_is)
    (case lis_all_of => k_is)
    (case cis_all_of => k_is)
    (case kis_all_of => k_is)
    (case ais_text_of => k_is)
    (case lis_text_of => k_is)
    (case cis_text_of => k_is)
    (case kis_text_of => k_is)
    (case aread_hand => k_is)
    (case lread_hand => k_is)
    (case cread_hand => k_is)
    (case kread_hand => k_is)
    (case aread_hands => k_is)
    (case lread_hands => k_is)
    (case cread_hands => k_is)
    (case kread_hands => k_is)
    (case atold_names => k_is)
    (case ltold_names => k_is)
    (case ctold_names => k_is)
    (case ktold_names => k_is)
    (case atold_group => k_is)
    (case ltold_group => k_is)
    (case ctold_group => k_is)
    (case ktold_group => k_is)
    (case atold_piece => k_is)
    (case ltold_piece => k_is)
    (case ctold_piece => k_is)
    (case ktold_piece => k_is)
    (case afill => k_is)
    (case lfill => k_is)
    (case cfill => k_is)
    (case kfill => k_is)
    (case alaw_cell_at => k_is)
    (case llaw_cell_at => k_is)
    (case claw_cell_at => k_is)
    (case klaw_cell_at => k_is)
    (case alaw_short => k_is)
    (case llaw_short => k_is)
    (case claw_short => k_is)
    (case klaw_short => k_is)
    (case alaw_told => k_is)
    (case llaw_told => k_is)
    (case claw_told => k_is)
    (case klaw_told => k_is)
    (case alaw => k_is)
    (case llaw => k_is)
    (case claw => k_is)
    (case klaw => k_is)
    (case zall => k_is)
    (case zdict => k_is)
    (case zint => k_is)
    (case zisinstance => k_is)
    (case zlen => k_is)
    (case zrange => k_is)
    (case zstr => k_is)
    (case ztuple => k_is)
    (case zLETTERS => k_is)
    (case zMOST_GIVENS => k_is)
    (case zMOST_HANDS => k_is)
    (case zWORD_LENGTH => k_is)
    (case zc_NoHands => k_is)
    (case ty_NoHands => k_is)
    (case ic_NoHands => k_is)
    (case be_NoHands => k_is)
    (case h_NoHands_NoHands => k_is)
    (case ow_NoHands => k_exc)
