import PyProof.Rows.All
import Wide.All
import OpenK.AllK
import Wide.FinOn
import Lean
import PyProof.EqAt
import PyProof.EqKinds
import PyProof.TupleCall
import PyProof.NeKinds
import PyProof.EnumMake
import PyProof.ConsumeWalk
import PyProof.StrWalks
import PyProof.WalksMore
import PyProof.StrLawsNeg
import KE.KDictList
import KE.KLam
import KE.KMinKey
import KE.KSortTup
import KE.KUnpack
import PySem.Challenge.RW_citeward_k55_works_at_the_desk
set_option Elab.async false
set_option linter.all false
set_option genSizeOf false
set_option genSizeOfSpec false
set_option maxRecDepth 100000
set_option maxHeartbeats 4000000
namespace L2
theorem bnd1.{u,v} {α:Type u} {β:Type v} {o:Option α} {f:α->Option β} {r:β} {G:Prop} (e:o.bind f=some r) (k:∀a,o=some a->f a=some r->G):G:=let⟨a,b,c⟩:=Option.bind_eq_some_iff.mp e;k a b c
theorem bnd2.{u,v,w} {α:Type u} {γ:Type w} {β:Type v} {o:Option (α×γ)} {f:α×γ->Option β} {r:β} {G:Prop} (e:o.bind f=some r) (k:∀a b,o=some (a,b)->f (a,b)=some r->G):G:=let⟨(a,b),c,d⟩:=Option.bind_eq_some_iff.mp e;k a b c d
end L2
namespace L2
open PySem PySem.Spec PyProof.Rows
noncomputable abbrev Key:=Sum Int Str
noncomputable def Bb:Key->Value->Bool
 | .inl k,v=>Value.isInt k v
 | .inr x,v=>Value.isStrOf x v
noncomputable def Zps(w:World):Key->Int
 | .inl k=>hashInt k
 | .inr x=>hashStr w x
theorem Z2:∀{k:Key} {v:Value},Bb k v=true->(∃i t,k=Sum.inl i/\v=Value.int i t)\/(∃x t,k=Sum.inr x/\v=Value.str x t)
 | .inl i,v,h=>by
  obtain⟨t,e⟩:=Value.isInt_shape (k:=i) (v:=v) h
  exact .inl ⟨i,t,rfl,e⟩
 | .inr x,v,h=>by
  obtain⟨t,e⟩:=Value.isStrOf_shape (x:=x) (v:=v) h
  exact .inr ⟨x,t,rfl,e⟩
theorem S2(i:Int)(t:Tok):Bb (.inl i) (.int i t)=true:=by simp[Bb,Value.isInt]
theorem Ct(x:Str)(t:Tok):Bb (.inr x) (.str x t)=true:=by simp[Bb,Value.isStrOf]
theorem Zhm(a b:Int):decide ((Sum.inl a:Key)=Sum.inl b)=(a==b):=by
 by_cases e:a=b
 ·subst e;simp
 ·have h:¬(Sum.inl a:Key)=Sum.inl b:=fun q=>e (Sum.inl.inj q)
  rw[decide_eq_false h]
  exact(beq_eq_false_iff_ne.mpr e).symm
theorem Zhn(a b:Str):decide ((Sum.inr a:Key)=Sum.inr b)=decide (a=b):=by
 by_cases e:a=b
 ·subst e;simp
 ·have h:¬(Sum.inr a:Key)=Sum.inr b:=fun q=>e (Sum.inr.inj q)
  rw[decide_eq_false h,decide_eq_false e]
theorem Zho(a:Int)(b:Str):decide ((Sum.inl a:Key)=Sum.inr b)=false:=decide_eq_false (fun q=>nomatch q)
theorem Zhp(a:Str)(b:Int):decide ((Sum.inr a:Key)=Sum.inl b)=false:=decide_eq_false (fun q=>nomatch q)
noncomputable def Zo(prog:Program)(w:World):PySem.KeyKind prog w Key where
 is:=Bb
 hash:=Zps w
 inj:=fun v a b ha hb=>by
  rcases Z2 ha with⟨i,t,rfl,rfl⟩|⟨x,t,rfl,rfl⟩
  ·rcases Z2 hb with⟨j,u,rfl,e⟩|⟨y,u,rfl,e⟩
   ·injection e with e1 _;rw[e1]
   ·exact nomatch e
  ·rcases Z2 hb with⟨j,u,rfl,e⟩|⟨y,u,rfl,e⟩
   ·exact nomatch e
   ·injection e with e1 _;rw[e1]
 byValue:=fun k v h=>by
  rcases Z2 h with⟨i,t,rfl,rfl⟩|⟨x,t,rfl,rfl⟩<;> rfl
 pyHash:=fun hv h=>by
  rcases Z2 hv with⟨i,t,rfl,rfl⟩|⟨x,t,rfl,rfl⟩
  ·exact wpAny_pyHash_int h
  ·exact wpAny_pyHash_str h
 eqBool:=fun hu hv h=>by
  rcases Z2 hu with⟨i,t,rfl,rfl⟩|⟨x,t,rfl,rfl⟩
  ·rcases Z2 hv with⟨j,u,rfl,rfl⟩|⟨y,u,rfl,rfl⟩
   ·rw[Zhm]at h;exact wpAny_eqBool_int h
   ·rw[Zho]at h;exact SeqAt.EqAt.int_str i t y u _ _ _ _ h
  ·rcases Z2 hv with⟨j,u,rfl,rfl⟩|⟨y,u,rfl,rfl⟩
   ·rw[Zhp]at h;exact SeqAt.EqAt.str_int x t j u _ _ _ _ h
   ·rw[Zhn]at h;exact wpAny_eqBool_str h
 «strs»:=fun k x t v h=>by
  rcases Z2 h with⟨i,u,rfl,e⟩|⟨y,u,rfl,e⟩
  ·exact nomatch e
  ·injection e with e1 _
   subst e1
   cases v<;> rfl
theorem Zhq(prog:Program)(w:World)(k:Key)(v:Value):(Zo prog w).is k v=Bb k v:=rfl
theorem Ez(prog:Program)(w:World)(i:Int)(t:Tok):(Zo prog w).is (.inl i) (.int i t)=true:=S2 i t
theorem E1(prog:Program)(w:World)(x:Str)(t:Tok):(Zo prog w).is (.inr x) (.str x t)=true:=Ct x t
noncomputable abbrev Wn:=Sum (List Str) (Int×List Str)
noncomputable def Mt(l:List Str):List Key:=l.map Sum.inr
theorem Ah{a b:List Str}(h:Mt a=Mt b):a=b:=by
 induction a generalizing b with
 |nil=>cases b with
  |nil=>rfl
  |cons y b=>simp[Mt]at h
 |cons x a ih=>cases b with
  |nil=>simp[Mt]at h
  |cons y b=>
   simp only[Mt,List.map_cons,List.cons.injEq]at h
   rw[Sum.inr.inj h.1,ih h.2]
theorem Nf(a b:List Str):decide (Mt a=Mt b)=decide (a=b):=by
 by_cases e:a=b
 ·rw[e];simp
 ·rw[decide_eq_false e,decide_eq_false fun z=>e (Ah z)]
noncomputable def E2(prog:Program)(w:World)(h:Heap):Wn->Addr->Prop
 | .inl l,a=>IsTupleKey (Zo prog w) h (Mt l) a
 | .inr (n,l),a=>∃o items m t b,h.get? a=some o/\o.cls= .type "tuple"/\o.data= .seq items m/\items.toList=[.int n t,.ref b]/\IsTupleKey (Zo prog w) h (Mt l) b
noncomputable def Xz(prog:Program)(w:World):Wn->Int
 | .inl l=>tupleKeyHash (Zo prog w) (Mt l)
 | .inr (n,l)=>reduceHash (Builtin.Tuple.tupleHashOf [hashInt n,tupleKeyHash (Zo prog w) (Mt l)])
noncomputable def Ai:Wn->Nat
 | .inl l=>(Mt l).length+1
 | .inr (_,l)=>1+((Mt l).length+1)+1
section
variable{prog:Program}{w:World}{A:Around}{E:Value->Shared->Prop}{s:Shared}
theorem E2.typeIs{k:Wn}{a:Addr}(x:E2 prog w s.heap k a):s.TypeIs (.ref a) "tuple":=by
 cases k with
 |inl l=>exact IsTupleKey.typeIs (show IsTupleKey (Zo prog w) s.heap (Mt l) a from x)
 |inr p=>obtain⟨o,_,_,_,_,ho,hc,_⟩:=x;exact⟨o,ho,hc⟩
theorem Rj{l:List Str}{n:Int}{t:Tok}{vs:List Value}(h:ItemsAre (Zo prog w) (Mt l) (.int n t::vs)):False:=by
 cases l with
 |nil=>cases h
 |cons x l=>
  cases h with
  |cons h1 _=>
   rcases Z2 (k:=.inr x) (v:=.int n t) h1 with⟨_,_,e,_⟩|⟨_,_,_,e⟩
   ·cases e
   ·cases e
theorem E2.inj{h:Heap}{a:Addr}{x y:Wn}(hx:E2 prog w h x a)(hy:E2 prog w h y a):x=y:=by
 have mix:∀{l:List Str} {n:Int} {l2:List Str},E2 prog w h (.inl l) a->E2 prog w h (.inr (n,l2)) a->False:=fun{l n l2} h1 h2=>by
  obtain⟨o,items,m,ho,_,hd,hi⟩:=h1
  obtain⟨o',items',m',t,b,ho',_,hd',e,_⟩:=h2
  obtain rfl:o=o':=Option.some.inj (ho.symm.trans ho')
  rw[hd]at hd'
  injection hd' with z _
  subst z
  rw[e]at hi
  exact Rj hi
 cases x with
 |inl l=>cases y with
  |inl l2=>rw[Ah (IsTupleKey.inj (show IsTupleKey (Zo prog w) h (Mt l) a from hx) hy)]
  |inr p=>exact(mix hx hy).elim
 |inr p=>cases y with
  |inl l2=>exact(mix hy hx).elim
  |inr q=>
   obtain⟨n,l⟩:=p
   obtain⟨n2,l2⟩:=q
   obtain⟨o,items,m,t,b,ho,_,hd,e,hb⟩:=hx
   obtain⟨o',items',m',t',b',ho',_,hd',e',hb'⟩:=hy
   obtain rfl:o=o':=Option.some.inj (ho.symm.trans ho')
   rw[hd]at hd'
   injection hd' with z _
   subst z
   rw[e]at e'
   injection e' with e1 e2
   injection e1 with e1 _
   injection e2 with e2 _
   injection e2 with e2
   subst e1 e2
   rw[Ah (hb.inj hb')]
theorem E2.keeps{h h':Heap}{k:Wn}{a d:Addr}{o:Obj}{es ep} (x:E2 prog w h k a) (ho:h.get? d=some o) (hd:o.data= .dict es ep) (hs:Heap.SameBut d h h'):E2 prog w h' k a:=by
 cases k with
 |inl l=>exact IsTupleKey.keeps (show IsTupleKey (Zo prog w) h (Mt l) a from x) ho hd hs
 |inr p=>
  obtain⟨o',items,m,t,b,ho',hc,hd',e,hb⟩:=x
  have hne:a≠d:=by
   rintro rfl
   obtain rfl:o'=o:=Option.some.inj (ho'.symm.trans ho)
   rw[hd]at hd';exact nomatch hd'
  exact⟨o',items,m,t,b,(hs.2 a hne).trans ho',hc,hd',e,hb.keeps ho hd hs⟩
theorem Zhr{k:Wn}{a:Addr}{Q:Int->Shared->Prop}(hu:A.units+1<cLine)(hk:E2 prog w s.heap k a)(h:Q (Xz prog w k) {s with toks:=s.toks+Ai k}):wpAny (model prog w) A (pyHash (.ref a)) Q E s:=by
 cases k with
 |inl l=>exact wpAny_pyHash_tuple (knd:=Zo prog w) (by omega) hk h
 |inr p=>
  have hT:=hk.typeIs
  obtain⟨n,l⟩:=p
  obtain⟨o,items,m,t,b,ho,_,hd,hi,hb⟩:=hk
  unfold pyHash
  first|unfold pyHashByItsType|skip
  first|refine wpAny_bind (wpAny_cRoomFor_or (.inr (by omega)) ?_)|skip
  refine wpAny_bind (wpAny_specialOf hT F.slot_tuple_hash.lookup ?_)
  show wpAny _ _ (if(some (Value.builtin "tuple.__hash__")==some Value.none)=true then _ else _) Q E s
  rw[if_neg (by rw[beq_builtin_none];exact Bool.false_ne_true)]
  refine wpAny_bind (wpAny_specialOf hT F.slot_tuple_hash.lookup ?_)
  show wpAny _ _ (callSpecialIfBoundUnlessNone? (.ref a) "__hash__" _ >>=_) Q E s
  refine wpAny_bind (wpAny_callSpecialIfBoundUnlessNone?_slot hT F.slot_tuple_hash (wpAny_call_entry F.slot_tuple_hash hT F.entry_tuple_hash ?_ (F.args_tuple_hash_1 _)))
  show wpAny _ _ (Builtin.Tuple.tupleItemsOf (.ref a) >>=_) _ _ s
  refine wpAny_bind (wpAny_tupleItemsOf ho hd ?_)
  refine wpAny_bind ?_
  rw[<-Array.forIn_toList,hi]
  simp only[List.forIn_cons,List.forIn_nil]
  have hu1:A.in1.units<cLine:=hu
  refine wpAny_bind (wpAny_bind (wpAny_pyHash_int ?_))
  refine wpAny_pure ?_
  dsimp only
  refine wpAny_bind (wpAny_bind (wpAny_pyHash_tuple (knd:=Zo prog w) (s:={s with toks:=s.toks+1}) hu1 hb ?_))
  refine wpAny_pure ?_
  refine wpAny_pure ?_
  generalize hg:tupleKeyHash (Zo prog w) (Mt l)=g at h⊢
  show wpAny _ _ (retInt (Builtin.Tuple.tupleHashOf [hashInt n,g])) _ _ _
  refine wpAny_ret_mkInt ?_
  unfold Xz at h
  dsimp only at h
  rw[hg]at h
  generalize Builtin.Tuple.tupleHashOf [hashInt n,g]=z at h⊢
  show wpAny _ _ (if(decide (-(2:Int)^63<=z)&&decide (z<2^63))=true then _ else _) Q E _
  unfold reduceHash at h
  by_cases hr:(decide (-(2:Int)^63<=z)&&decide (z<2^63))=true
  ·rw[if_pos hr]
   rw[if_pos hr]at h
   exact wpAny_pure (by simpa[Ai,Nat.add_assoc]using h)
  ·rw[if_neg hr]
   rw[if_neg hr]at h
   exact wpAny_bind (wpAny_rule (wpAny_pure (by simpa[Ai,Nat.add_assoc]using h)))
theorem S3{x y:Wn}{a b:Addr}{P:Fin->Shared->Prop}(hu:A.units<cLine)(hx:E2 prog w s.heap x a)(hy:E2 prog w s.heap y b)(h:P (.done (.ret (.bool (decide (x=y))))) s):
  wpAny (model prog w) A (Builtin.«tuple.__eq__» ⟨[.ref a,.ref b],[]⟩) P E s:=by
 have mixS:∀(x:Str) (tx:Tok) (n:Int) (tn:Tok) {Q:Bool->Shared->Prop},Q false s->wpAny (model prog w) A (eqBool (.str x tx) (.int n tn)) Q E s:=fun x tx n tn Q q=>SeqAt.EqAt.str_int x tx n tn _ _ _ _ q
 have mixI:∀(x:Str) (tx:Tok) (n:Int) (tn:Tok) {Q:Bool->Shared->Prop},Q false s->wpAny (model prog w) A (eqBool (.int n tn) (.str x tx)) Q E s:=fun x tx n tn Q q=>SeqAt.EqAt.int_str n tn x tx _ _ _ _ q
 have hTb:=hy.typeIs
 cases x with
 |inl l=>cases y with
  |inl l2=>
   refine tuple_eq_tree (knd:=Zo prog w) (x:=Mt l) (y:=Mt l2) hx hy ?_
   rw[Nf]
   have:decide ((Sum.inl l:Wn)=Sum.inl l2)=decide (l=l2):=by
    by_cases e:l=l2
    ·rw[e];simp
    ·rw[decide_eq_false e,decide_eq_false fun z=>e (Sum.inl.inj z)]
   rw[this]at h
   exact h
  |inr p=>
   obtain⟨n,l2⟩:=p
   obtain⟨oa,xs,na,hoa,_,hda,hia⟩:=hx
   obtain⟨ob,ys,nb,t,c,hob,_,hdb,e,hc⟩:=hy
   have hf:decide ((Sum.inl l:Wn)=Sum.inr (n,l2))=false:=decide_eq_false fun z=>nomatch z
   rw[hf]at h
   show wpAny _ _ (isInstance (.ref b) (.type "tuple") >>=_) _ _ s
   refine wpAny_bind (wpAny_isInstance hTb isSubtype_tuple_tuple ?_)
   simp only[Bool.not_true,Bool.false_eq_true,if_false]
   refine wpAny_bind (wpAny_tupleItemsOf hoa hda ?_)
   refine wpAny_bind (wpAny_tupleItemsOf hob hdb ?_)
   rw[e]
   have sy:ys.size=2:=by rw[<-Array.length_toList,e];rfl
   cases l with
   |nil=>
    generalize hxs:xs.toList=vs at hia
    cases hia
    have sx:xs.size=0:=by rw[<-Array.length_toList,hxs];rfl
    simp only[List.zip_nil_left,List.forIn_nil]
    refine wpAny_bind (wpAny_pure ?_)
    refine wpAny_pure ?_
    show P (.done (.ret (.bool (xs.size==ys.size)))) s
    rw[sx,sy];exact h
   |cons x l=>
    generalize hxs:xs.toList=vs at hia
    cases hia with
    | @cons _ v _ vs h1 _=>
     rcases Z2 (k:=.inr x) (v:=v) h1 with⟨_,_,z,_⟩|⟨_,tx,z,rfl⟩
     ·cases z
     ·simp only[List.zip_cons_cons,List.forIn_cons]
      refine wpAny_bind (wpAny_bind (wpAny_bind (mixS _ _ _ _ ?_)))
      simp only[Bool.not_false,if_true]
      exact wpAny_bind (wpAny_pure (wpAny_pure (wpAny_pure (wpAny_pure h))))
 |inr p=>cases y with
  |inl l=>
   obtain⟨n,l2⟩:=p
   obtain⟨ob,ys,nb,t,c,hob,_,hdb,e,hc⟩:=hx
   obtain⟨oa,xs,na,hoa,_,hda,hia⟩:=hy
   have hf:decide ((Sum.inr (n,l2):Wn)=Sum.inl l)=false:=decide_eq_false fun z=>nomatch z
   rw[hf]at h
   show wpAny _ _ (isInstance (.ref b) (.type "tuple") >>=_) _ _ s
   refine wpAny_bind (wpAny_isInstance hTb isSubtype_tuple_tuple ?_)
   simp only[Bool.not_true,Bool.false_eq_true,if_false]
   refine wpAny_bind (wpAny_tupleItemsOf hob hdb ?_)
   refine wpAny_bind (wpAny_tupleItemsOf hoa hda ?_)
   rw[e]
   have sy:ys.size=2:=by rw[<-Array.length_toList,e];rfl
   cases l with
   |nil=>
    generalize hxs:xs.toList=vs at hia
    cases hia
    have sx:xs.size=0:=by rw[<-Array.length_toList,hxs];rfl
    simp only[List.zip_nil_right,List.forIn_nil]
    refine wpAny_bind (wpAny_pure ?_)
    refine wpAny_pure ?_
    show P (.done (.ret (.bool (ys.size==xs.size)))) s
    rw[sx,sy];exact h
   |cons x l=>
    generalize hxs:xs.toList=vs at hia
    cases hia with
    | @cons _ v _ vs h1 _=>
     rcases Z2 (k:=.inr x) (v:=v) h1 with⟨_,_,z,_⟩|⟨_,tx,z,rfl⟩
     ·cases z
     ·simp only[List.zip_cons_cons,List.forIn_cons]
      refine wpAny_bind (wpAny_bind (wpAny_bind (mixI _ _ _ _ ?_)))
      simp only[Bool.not_false,if_true]
      exact wpAny_bind (wpAny_pure (wpAny_pure (wpAny_pure (wpAny_pure h))))
  |inr q=>
   obtain⟨n,l⟩:=p
   obtain⟨n2,l2⟩:=q
   obtain⟨oa,xs,na,ta,ca,hoa,_,hda,ea,hca⟩:=hx
   obtain⟨ob,ys,nb,tb,cb,hob,_,hdb,eb,hcb⟩:=hy
   show wpAny _ _ (isInstance (.ref b) (.type "tuple") >>=_) _ _ s
   refine wpAny_bind (wpAny_isInstance hTb isSubtype_tuple_tuple ?_)
   simp only[Bool.not_true,Bool.false_eq_true,if_false]
   refine wpAny_bind (wpAny_tupleItemsOf hoa hda ?_)
   refine wpAny_bind (wpAny_tupleItemsOf hob hdb ?_)
   rw[ea,eb]
   have sx:xs.size=2:=by rw[<-Array.length_toList,ea];rfl
   have sy:ys.size=2:=by rw[<-Array.length_toList,eb];rfl
   simp only[List.zip_cons_cons,List.zip_nil_left,List.forIn_cons,List.forIn_nil]
   refine wpAny_bind (wpAny_bind (wpAny_bind (wpAny_eqBool_int ?_)))
   by_cases hn:n=n2
   ·subst hn
    simp only[beq_self_eq_true,Bool.not_true,Bool.false_eq_true,if_false]
    refine wpAny_pure ?_
    dsimp only
    refine wpAny_bind (wpAny_bind (wpAny_eqBool_tuple (knd:=Zo prog w) hu hca hcb ?_))
    rw[Nf]
    by_cases hl:l=l2
    ·subst hl
     simp only[decide_true,Bool.not_true,Bool.false_eq_true,if_false]
     refine wpAny_pure (wpAny_pure (wpAny_pure ?_))
     show P (.done (.ret (.bool (xs.size==ys.size)))) s
     rw[sx,sy]
     simpa using h
    ·simp only[decide_eq_false hl,Bool.not_false,if_true]
     have hf:decide ((Sum.inr (n,l):Wn)=Sum.inr (n,l2))=false:=decide_eq_false fun z=>hl (by injection z with z;injection z)
     rw[hf]at h
     exact wpAny_bind (wpAny_pure (wpAny_pure (wpAny_pure (wpAny_pure h))))
   ·have hb:(n==n2)=false:=beq_eq_false_iff_ne.mpr hn
    simp only[hb,Bool.not_false,if_true]
    have hf:decide ((Sum.inr (n,l):Wn)=Sum.inr (n2,l2))=false:=decide_eq_false fun z=>hn (by injection z with z;injection z)
    rw[hf]at h
    exact wpAny_bind (wpAny_pure (wpAny_pure (wpAny_pure (wpAny_pure h))))
theorem Zcx{x y:Wn}{a b:Addr}{Q:Bool->Shared->Prop}(hu:A.units+1<cLine)(hx:E2 prog w s.heap x a)(hy:E2 prog w s.heap y b)(h:Q (decide (x=y)) s):wpAny (model prog w) A (eqBool (.ref a) (.ref b)) Q E s:=by
 unfold eqBool
 try with_reducible refine wpAny_holding ?_
 show wpAny _ _ (if(Value.ref a==Value.ref b)=true then _ else _) Q E s
 by_cases hab:(Value.ref a==Value.ref b)=true
 ·rw[if_pos hab]
  have e:a=b:=by have:=eq_of_beq hab;injection this
  subst e
  obtain rfl:=hx.inj hy
  exact wpAny_bind (wpAny_rule (wpAny_pure (by simpa using h)))
 ·rw[if_neg hab]
  exact wpAny_bind (wpAny_richCompare_same_room (op:=.Eq) hx.typeIs hy.typeIs F.slot_tuple_eq
   (wpAny_call_entry F.slot_tuple_eq hx.typeIs F.entry_tuple_eq (S3 (A:=A.in1) hu hx hy ⟨_,rfl,(fun e=>nomatch e),wpAny_truthy_bool h⟩) (F.args_tuple_eq_2 _ _)) (by omega))
theorem Ng{m:Nat}{ks:List Key}{a:Addr}{Q:Bool->Shared->Prop}(hk:IsTupleKey (Zo prog w) s.heap ks a)(h:Q true s):wpAny (model prog w) A (eqIsQuiet (m+1) (.ref a)) Q E s:=by
 have hT:=hk.typeIs
 obtain⟨o,items,n,ho,_,hd,hi⟩:=hk
 unfold eqIsQuiet
 refine wpAny_bind (wpAny_specialOf hT F.slot_tuple_eq.lookup ?_)
 show wpAny _ _ (isInstance (.ref a) (.type "tuple") >>=_) _ _ s
 refine wpAny_bind (wpAny_isInstance hT isSubtype_tuple_tuple ?_)
 simp only[Bool.not_true,Bool.false_eq_true,if_false]
 refine wpAny_bind (wpAny_seqItems ho hd ?_)
 refine wpAny_bind ?_
 show wpAny _ _ (forIn items _ _) _ _ s
 rw[<-Array.forIn_toList]
 refine wpAny_forIn_list _ (fun rest r s'=>r.1=none/\s'=s/\∀v∈rest,carriedByValue v=true) _ ?_ ?_ _ _ ⟨rfl,rfl,hi.byValue⟩
 ·rintro v rest r s' ⟨hr,rfl,hall⟩
  rw[eqIsQuiet_byValue _ (hall v List.mem_cons_self)]
  refine wpAny_bind (wpAny_pure ?_)
  simp only[Bool.not_true,Bool.false_eq_true,if_false]
  exact wpAny_pure ⟨rfl,rfl,fun u hu'=>hall u (List.mem_cons_of_mem _ hu')⟩
 ·rintro⟨r1,r2⟩ s' ⟨hr,rfl,_⟩
  simp only at hr
  subst hr
  exact wpAny_pure h
theorem Zcy{k:Wn}{a:Addr}{Q:Bool->Shared->Prop}(hk:E2 prog w s.heap k a)(h:Q true s):wpAny (model prog w) A (eqIsQuiet 8 (.ref a)) Q E s:=by
 cases k with
 |inl l=>exact Ng hk h
 |inr p=>
  have hT:=hk.typeIs
  obtain⟨n,l⟩:=p
  obtain⟨o,items,m,t,b,ho,_,hd,hi,hb⟩:=hk
  unfold eqIsQuiet
  refine wpAny_bind (wpAny_specialOf hT F.slot_tuple_eq.lookup ?_)
  show wpAny _ _ (isInstance (.ref a) (.type "tuple") >>=_) _ _ s
  refine wpAny_bind (wpAny_isInstance hT isSubtype_tuple_tuple ?_)
  simp only[Bool.not_true,Bool.false_eq_true,if_false]
  refine wpAny_bind (wpAny_seqItems ho hd ?_)
  refine wpAny_bind ?_
  show wpAny _ _ (forIn items _ _) _ _ s
  rw[<-Array.forIn_toList,hi]
  simp only[List.forIn_cons,List.forIn_nil]
  rw[eqIsQuiet_byValue _ (v:=Value.int n t) rfl]
  refine wpAny_bind (wpAny_bind (wpAny_pure ?_))
  simp only[Bool.not_true,Bool.false_eq_true,if_false]
  refine wpAny_pure ?_
  dsimp only
  refine wpAny_bind (wpAny_bind (Ng hb ?_))
  simp only[Bool.not_true,Bool.false_eq_true,if_false]
  exact wpAny_pure (wpAny_pure (wpAny_pure h))
end
noncomputable def Zli(prog:Program)(w:World):HeapKind prog w Wn where
 is:=E2 prog w
 hash:=Xz prog w
 draws:=Ai
 room:=fun A=>A.units+1<cLine
 inj:=fun hx hy=>hx.inj hy
 keeps:=fun x ho hd hs=>x.keeps ho hd hs
 pyHash:=fun hu hk h=>Zhr hu hk h
 eqBool:=fun hu hx hy h=>Zcx hu hx hy h
 quiet:=fun hk h=>Zcy hk h
inductive V where
 |non|bl (b:Bool)|int (i:Int)|str (x:Str)|byt (b:Array UInt8)|flt (b:UInt64)|ref (a:Addr)|ty (n:String)
 deriving DecidableEq
noncomputable def Zw:V->Value->Prop
 | .non,u=>u=Value.none
 | .bl b,u=>u=Value.bool b
 | .int i,u=>∃t,u=Value.int i t
 | .str x,u=>∃t,u=Value.str x t
 | .byt b,u=>∃t,u=Value.bytes b t
 | .flt b,u=>∃t,u=Value.float b t
 | .ref a,u=>u=Value.ref a
 | .ty n,u=>u=Value.type n
noncomputable abbrev Yb:List V->List Value->Prop:=Paired Zw
theorem Yb.length{xs:List V}{us:List Value}(r:Yb xs us):xs.length=us.length:=Paired.length r
theorem Yb.get:∀{xs:List V} {us:List Value} {i:Nat} {x:V},Yb xs us->xs[i]? =some x->∃u,us[i]? =some u/\Zw x u
 |_,_,_,_,.nil,e=>by simp at e
 |_,_,0,_,.cons r _,e=>by simp at e;subst e;exact⟨_,rfl,r⟩
 |_,_,i+1,x,.cons _ t,e=>by
  obtain⟨u,h1,h2⟩:=Yb.get (i:=i) (x:=x) t (by simpa using e)
  exact⟨u,by simpa using h1,h2⟩
theorem Yb.append:∀{xs ys:List V} {us ws:List Value},Yb xs us->Yb ys ws->Yb (xs++ys) (us++ws)
 |_,_,_,_,.nil,s=>s
 |_,_,_,_,.cons r t,s=>.cons r (Yb.append t s)
theorem Yb.take:∀{xs:List V} {us:List Value} (n:Nat),Yb xs us->Yb (xs.take n) (us.take n)
 |_,_,0,_=>.nil
 |_,_,_+1,.nil=>.nil
 |_,_,n+1,.cons r t=>.cons r (Yb.take n t)
theorem Yb.drop:∀{xs:List V} {us:List Value} (n:Nat),Yb xs us->Yb (xs.drop n) (us.drop n)
 |_,_,0,r=>r
 |_,_,_+1,.nil=>.nil
 |_,_,n+1,.cons _ t=>Yb.drop n t
noncomputable def Jf:Option V->Option Value->Prop
 |some v,some u=>Zw v u
 |none,none=>True
 |_,_=>False
noncomputable def KV{κ:Type}:List (κ×V)->List (κ×Value)->Prop:=Paired fun(p:κ×V) (q:κ×Value)=>p.1=q.1/\Zw p.2 q.2
noncomputable def kV:Key->V
 | .inl i=>.int i
 | .inr x=>.str x
inductive HO where
 |lst (xs:List V)
 |tup (xs:List V)
 |dK (kvs:List (Key×V)) (ep:Nat)|dT (kvs:List (List Key×V)) (ep:Nat) (bs:List Addr)|dN (kvs:List (Wn×V)) (ep:Nat) (bs:List Addr)
 |set (S:Int->Bool) (n:Nat)
 |ins (C dx:Addr) (fs:List (Str×V))
 |own (x:Addr)
 |xd (fs:List (Str×V))
 |met (f x:Addr)
 |rng (lo hi:Int)
 |frz (o:Obj) (u:HO)
 |tbl (ps:Array Value)
 |tab (q:Str)
 |ext (φ:Heap->Prop)
noncomputable abbrev Hp:=Addr->Option HO
noncomputable def Ys(H:Hp)(a:Addr)(o:HO):Hp:=fun b=>if b=a then some o else H b
theorem Zu{H:Hp}{a:Addr}{o:HO}:Ys H a o a=some o:=by unfold Ys;rw[if_pos rfl]
theorem Zl{H:Hp}{a b:Addr}{o:HO}(h:b≠a):Ys H a o b=H b:=by unfold Ys;rw[if_neg h]
theorem Zlj{H:Hp}{a b:Addr}{o u:HO}(h:H a=some o)(h':H b=some u)(d:o≠u):a≠b:=by
 intro e;subst e;rw[h]at h';exact d (Option.some.inj h')
theorem Yt{H:Hp}{a b:Addr}{o:HO}(h:H a=some o)(h':H b=none):a≠b:=by
 intro e;subst e;rw[h]at h';cases h'
noncomputable def X2(H:Hp):Wn->Addr->Prop
 | .inl l,b=>H b=some (.tup ((Mt l).map kV))
 | .inr (n,l),b=>∃c,H b=some (.tup [.int n,.ref c])/\H c=some (.tup ((Mt l).map kV))
theorem X2.mono{H H':Hp}{k:Wn}{b:Addr}(h:X2 H k b)(ht:∀b xs,H b=some (.tup xs)->H' b=some (.tup xs)):X2 H' k b:=by
 cases k with
 |inl l=>exact ht _ _ h
 |inr p=>obtain⟨c,h1,h2⟩:=h;exact⟨c,ht _ _ h1,ht _ _ h2⟩
section
variable(P:Program)(w:World)
noncomputable def Y4(H:Hp)(h:Heap)(a:Addr):HO->Prop
 | .lst xs=>xs.length<=sizeLine/\∃(its:List Value) (n:Nat),Yb xs its/\h.get? a=some {cls:=.type "list",data:=.seq its.toArray n}
 | .tup xs=>xs.length<=sizeLine/\∃its:List Value,Yb xs its/\IsTup h a its.toArray
 | .dK kvs ep=>kvs.length<=sizeLine/\(a==sysModules)=false/\∃vs,KV kvs vs/\h.DictAt (Zo P w) a vs ep
 | .dT kvs ep bs=>kvs.length<=sizeLine/\(a==sysModules)=false/\∃xs:List (List Key×Addr×Value),
   Paired (fun(p:List Key×V) (q:List Key×Addr×Value)=>p.1=q.1/\H q.2.1=some (.tup (p.1.map kV))/\Zw p.2 q.2.2) kvs xs/\
   ∃o es,h.get? a=some o/\o.ExactDict/\o.data= .dict es ep/\es.toList=xs.map (entryOfKey (tupleKind (Zo P w)))/\(xs.map (·.1)).Nodup/\(xs.map fun x=>x.2.1)=bs
 | .dN kvs ep bs=>kvs.length<=sizeLine/\(a==sysModules)=false/\∃xs:List (Wn×Addr×Value),
   Paired (fun(p:Wn×V) (q:Wn×Addr×Value)=>p.1=q.1/\X2 H p.1 q.2.1/\Zw p.2 q.2.2) kvs xs/\
   ∃o es,h.get? a=some o/\o.ExactDict/\o.data= .dict es ep/\es.toList=xs.map (entryOfKey (Zli P w))/\(xs.map (·.1)).Nodup/\(xs.map fun x=>x.2.1)=bs
 | .set S n=>h.SetOf (intKind P w) a S n
 | .ins C dx fs=>H dx=some (.own a)/\fs.length<=1000/\dx≠a/\h.get? a=some (PySem.W.instObj C dx)/\
   ∃mA,h.Ns1 dx mA/\(∀f,Jf (fs.lookup f) (mA f))/\PySem.Within mA (fs.map (·.1))
 | .own _=>∃o,h.get? a=some o
 | .xd fs=>∃mA,h.Ns1 a mA/\∀f,Jf (fs.lookup f) (mA f)
 | .rng lo hi=>∃t u v,h.get? a=some {cls:=.type "range",data:=.fields #[.int lo t,.int hi u,.int 1 v]}
 | .frz o u=>h.get? a=some o/\Y4 H h a u
 | .tbl ps=>h.get? a=some {cls:=.none,data:=.fields ps}
 | .met f x=>h.get? a=some (PySem.W.methodObj (.ref f) (.ref x))
 | .tab q=>∃ps:Array Value,h.get? a=some {cls:=.none,data:=.fields ps}/\TriplesOk ps.toList/\∀pos cv,codeAmong pos ps.toList=some cv->∃c o vs t,cv= .ref c/\H c=some (.frz o (.own a))/\o.data= .fields vs/\vs[1]? =some (.str q t)
 | .ext φ=>φ h/\(∃o,h.get? a=some o)/\∀h1 h2:Heap,φ h1->(∀o,h1.get? a=some o->h2.get? a=some o)->φ h2
noncomputable def Oe(H:Hp)(h:Heap):Prop:=∀a o,H a=some o->Y4 P w H h a o
end
section
variable{P:Program}{w:World}{H H':Hp}{h h':Heap}{a:Addr}{o:HO}
theorem Y4.lt(x:Y4 P w H h a o):a<h.objs.size:=by
 cases o with
 |lst xs=>obtain⟨_,_,_,_,e⟩:=x;exact Heap.lt_size e
 |tup xs=>obtain⟨_,_,_,p⟩:=x;exact p.lt
 |dK kvs ep=>obtain⟨_,_,_,_,o,_,e,_⟩:=x;exact Heap.lt_size e
 |dT kvs ep bs=>obtain⟨_,_,_,_,o,_,e,_⟩:=x;exact Heap.lt_size e
 |dN kvs ep bs=>obtain⟨_,_,_,_,o,_,e,_⟩:=x;exact Heap.lt_size e
 |set S n=>obtain⟨o,_,_,_,e,_⟩:=x;exact Heap.lt_size e
 |ins C dx fs=>obtain⟨_,_,_,e,_⟩:=x;exact Heap.lt_size e
 |own y=>obtain⟨_,e⟩:=x;exact Heap.lt_size e
 |xd fs=>obtain⟨_,⟨_,_,_,e,_⟩,_⟩:=x;exact Heap.lt_size e
 |rng lo hi=>obtain⟨_,_,_,e⟩:=x;exact Heap.lt_size e
 |frz ob u=>obtain⟨e,_⟩:=x;exact Heap.lt_size e
 |tbl ps=>exact Heap.lt_size (show h.get? a=some _ from x)
 |met f y=>exact Heap.lt_size (show h.get? a=some _ from x)
 |tab q=>obtain⟨_,e,_⟩:=x;exact Heap.lt_size e
 |ext φ=>obtain⟨_,⟨_,e⟩,_⟩:=x;exact Heap.lt_size e
theorem Paired.mapP{α β:Type}{F G:α->β->Prop}{l₁:List α}{l₂:List β}(h:Paired F l₁ l₂)(f:∀a b,F a b->G a b):Paired G l₁ l₂:=by
 induction h with
 |nil=>exact .nil
 |cons r _ ih=>exact .cons (f _ _ r) ih
theorem Y4.stay(x:Y4 P w H h a o)(k:∀b u,(b=a\/H b=some (.own a))->h.get? b=some u->h'.get? b=some u)
  (ho:∀b,H b=some (.own a)->H' b=some (.own a)) (ht:∀b xs,H b=some (.tup xs)->H' b=some (.tup xs))
  (hz:∀b o,H b=some (.frz o (.own a))->H' b=some (.frz o (.own a)):=by first|exact fun _ _ q=>q| (intro b o q;rw[Zl (Yt q (by assumption))];exact q)):Y4 P w H' h' a o:=by
 induction o with
 |lst xs=>obtain⟨z,its,n,r,e⟩:=x;exact⟨z,its,n,r,k _ _ (.inl rfl) e⟩
 |tup xs=>obtain⟨z,its,r,ob,e,c⟩:=x;exact⟨z,its,r,ob,k _ _ (.inl rfl) e,c⟩
 |dK kvs ep=>obtain⟨z,y,vs,r,ob,es,e,c⟩:=x;exact⟨z,y,vs,r,ob,es,k _ _ (.inl rfl) e,c⟩
 |dT kvs ep bs=>
  obtain⟨z,y,xs,r,ob,es,e,c⟩:=x
  exact⟨z,y,xs,Paired.mapP r fun p q z=>⟨z.1,ht _ _ z.2.1,z.2.2⟩,ob,es,k _ _ (.inl rfl) e,c⟩
 |dN kvs ep bs=>
  obtain⟨z,y,xs,r,ob,es,e,c⟩:=x
  exact⟨z,y,xs,Paired.mapP r fun p q z=>⟨z.1,z.2.1.mono ht,z.2.2⟩,ob,es,k _ _ (.inl rfl) e,c⟩
 |set S n=>obtain⟨ob,es,ep,t,e,c⟩:=x;exact⟨ob,es,ep,t,k _ _ (.inl rfl) e,c⟩
 |ins C dx fs=>
  obtain⟨d,z,ne,e,mA,⟨od,es,ep,e2,c⟩,r⟩:=x
  exact⟨ho _ d,z,ne,k _ _ (.inl rfl) e,mA,⟨od,es,ep,k _ _ (.inr d) e2,c⟩,r⟩
 |own y=>obtain⟨ob,e⟩:=x;exact⟨ob,k _ _ (.inl rfl) e⟩
 |xd fs=>obtain⟨mA,⟨od,es,ep,e,c⟩,r⟩:=x;exact⟨mA,⟨od,es,ep,k _ _ (.inl rfl) e,c⟩,r⟩
 |rng lo hi=>obtain⟨t,u,v,e⟩:=x;exact⟨t,u,v,k _ _ (.inl rfl) e⟩
 |frz ob u ih=>obtain⟨e,q⟩:=x;exact⟨k _ _ (.inl rfl) e,ih q⟩
 |tbl ps=>
  have e:h.get? a=some {cls:=.none,data:=.fields ps}:=x
  show h'.get? a=some {cls:=.none,data:=.fields ps}
  exact k a _ (.inl rfl) e
 |met f y=>
  have e:h.get? a=some (PySem.W.methodObj (.ref f) (.ref y)):=x
  show h'.get? a=some (PySem.W.methodObj (.ref f) (.ref y))
  exact k a _ (.inl rfl) e
 |tab q=>
  obtain⟨ps,e,t,c⟩:=x
  refine⟨ps,k _ _ (.inl rfl) e,t,fun pos cv z=>?_⟩
  obtain⟨c1,o1,vs,tt,e1,e2,r⟩:=c pos cv z
  exact⟨c1,o1,vs,tt,e1,hz _ _ e2,r⟩
 |ext φ=>obtain⟨p,⟨o,e⟩,st⟩:=x;exact⟨st _ _ p fun o q=>k _ _ (.inl rfl) q,⟨o,k _ _ (.inl rfl) e⟩,st⟩
theorem Oe.lt(x:Oe P w H h)(e:H a=some o):a<h.objs.size:=(x a o e).lt
theorem Oe.fresh(x:Oe P w H h)(e:h.objs.size<=a):H a=none:=by
 cases q:H a with
 |none=>rfl
 |some u=>exact absurd (Nat.lt_of_lt_of_le (x.lt q) e) (Nat.lt_irrefl _)
theorem Oe.kept(x:Oe P w H h)(k:∀b u,h.get? b=some u->h'.get? b=some u):Oe P w H h':=fun a o e=>
 (x a o e).stay (fun b u _ q=>k b u q) (fun _ q=>q) fun _ _ q=>q
theorem Oe.laid(x:Oe P w H h)(k:∀b u,h.get? b=some u->h'.get? b=some u)(hp:h.objs.size<=a)(new:Y4 P w (Ys H a o) h' a o):Oe P w (Ys H a o) h':=fun b u e=>by
 have hn:=x.fresh hp
 by_cases hb:b=a
 ·subst hb;rw[Zu]at e;cases e;exact new
 ·rw[Zl hb]at e
  exact(x b u e).stay (fun c v _ q=>k c v q) (fun c q=>by rw[Zl (Yt q hn)];exact q) fun c xs q=>by rw[Zl (Yt q hn)];exact q
end
noncomputable def Rd(H:Hp)(a:Addr)(u:HO):Prop:=H a=some u\/∃o,H a=some (.frz o u)
theorem Rd.ok{P:Program}{w:World}{H:Hp}{h:Heap}{a:Addr}{u:HO}(r:Rd H a u)(x:Oe P w H h):Y4 P w H h a u:=by
 rcases r with r|⟨o,r⟩
 ·exact x a u r
 ·obtain⟨_,q⟩:=x a _ r
  exact q
noncomputable def HK(H:Hp)(a:Addr)(kvs:List (Key×V)):Prop:=∃ep,H a=some (.dK kvs ep)
noncomputable def HTt(H:Hp)(a:Addr)(kvs:List (List Key×V)):Prop:=∃ep bs,H a=some (.dT kvs ep bs)
noncomputable def RdK(H:Hp)(a:Addr)(kvs:List (Key×V)):Prop:=∃ep,Rd H a (.dK kvs ep)
noncomputable def RdT(H:Hp)(a:Addr)(kvs:List (List Key×V)):Prop:=∃ep bs,Rd H a (.dT kvs ep bs)
theorem HK.rd{H:Hp}{a:Addr}{kvs:List (Key×V)}(h:HK H a kvs):RdK H a kvs:=let⟨ep,h⟩:=h;⟨ep,.inl h⟩
noncomputable def E3(kvs:List (List Key×V))(bs:List Addr)(k:List Key)(b:Addr):List Addr:=if(kvs.any fun kv=>decide (kv.1=k))=true then bs else bs++[b]
theorem HTt.rd{H:Hp}{a:Addr}{kvs:List (List Key×V)}(h:HTt H a kvs):RdT H a kvs:=let⟨ep,bs,h⟩:=h;⟨ep,bs,.inl h⟩
noncomputable def Mut:Option HO->Prop
 |some (.lst _)=>True
 |some (.dK _ _)=>True
 |some (.dT _ _ _)=>True
 |some (.dN _ _ _)=>True
 |some (.set _ _)=>True
 |some (.ins _ _ _)=>True
 |some (.ext _)=>True
 |_=>False
section
variable{P:Program}{w:World}{H:Hp}{h h':Heap}{x e:Addr}{o':HO}
theorem Oe.write(ok:Oe P w H h)(mu:Mut (H x))(he:e=x\/H e=some (.own x))(k:∀b u,b≠e->h.get? b=some u->h'.get? b=some u)(heo:∃u,h'.get? e=some u)
  (new:Y4 P w (Ys H x o') h' x o'):Oe P w (Ys H x o') h':=fun b u q=>by
 have nown:∀c y,H c=some (.own y)->c≠x:=fun c y r z=>by subst z;rw[r]at mu;exact mu
 have ntup:∀c xs,H c=some (.tup xs)->c≠x:=fun c xs r z=>by subst z;rw[r]at mu;exact mu
 by_cases hb:b=x
 ·subst hb;rw[Zu]at q;cases q;exact new
 ·rw[Zl hb]at q
  by_cases hbe:b=e
  ·have q':H b=some (.own x):=by
    rcases he with z|z
    ·exact absurd (hbe.trans z) hb
    ·rw[hbe];exact z
   rw[q]at q';cases q'
   obtain⟨v,hv⟩:=heo
   exact⟨v,by rw[hbe];exact hv⟩
  ·refine(ok b u q).stay (fun c v hc r=>k c v ?_ r) (fun c r=>by rw[Zl (nown c b r)];exact r) (fun c xs r=>by rw[Zl (ntup c xs r)];exact r) fun c o r=>by rw[Zl (fun z=>by subst z;rw[r]at mu;exact mu)];exact r
   rcases hc with rfl|hc
   ·exact hbe
   ·rintro rfl
    rcases he with z|z
    ·exact nown c b hc z
    ·rw[hc]at z;cases z;exact hb rfl
end
structure Un(fs ex:List Addr)(H H':Hp)(h h':Heap):Prop where
 keep:∀b o,h.get? b=some o->H b=none->b∉fs->b∉ex->h'.get? b=some o
 slot:∀b o,h.get? b=some o->H b=none->b∈fs->b∉ex->∃sl,h'.get? b=some {o with slots:=sl}
 free:∀b o,h.get? b=some o->H b=none->b∉ex->H' b=none
 there:∀b o,h.get? b=some o->b∉ex->∃o',h'.get? b=some o'
 tups:∀b xs,H b=some (.tup xs)->H' b=some (.tup xs)
 frzs:∀b o u,H b=some (.frz o u)->H' b=some (.frz o u)
 tbls:∀b ps,H b=some (.tbl ps)->∃more,H' b=some (.tbl (ps++more))
section
variable{fs fs' ex ex':List Addr}{H H1 H2:Hp}{h h1 h2 h':Heap}{a x e:Addr}{o:HO}
theorem Un.any(u:Un fs ex H H1 h h1){b:Addr}{ob:Obj}(q:h.get? b=some ob)(n:H b=none)(hx:b∉ex):∃sl,h1.get? b=some {ob with slots:=sl}:=by
 by_cases hb:b∈fs
 ·exact u.slot b ob q n hb hx
 ·exact⟨ob.slots,u.keep b ob q n hb hx⟩
theorem Un.kept(k:∀b u,h.get? b=some u->h'.get? b=some u):Un fs ex H H h h':=
 ⟨fun b ob q _ _ _=>k b ob q,fun b ob q _ _ _=>⟨ob.slots,k b ob q⟩,fun _ _ _ n _=>n,fun b ob q _=>⟨ob,k b ob q⟩,fun _ _ q=>q,fun _ _ _ q=>q,fun _ ps q=>⟨#[],by rw[q];simp⟩⟩
theorem Un.refl:Un fs ex H H h h:=Un.kept fun _ _ q=>q
theorem Un.laid(k:∀b u,h.get? b=some u->h'.get? b=some u)(hp:h.objs.size<=a)(hn:H a=none):Un fs ex H (Ys H a o) h h' where
 keep:=fun b u q _ _ _=>k b u q
 slot:=fun b u q _ _ _=>⟨u.slots,k b u q⟩
 free:=fun b u q n _=>by rw[Zl (Nat.ne_of_lt (Nat.lt_of_lt_of_le (Heap.lt_size q) hp))];exact n
 there:=fun b u q _=>⟨u,k b u q⟩
 tups:=fun b xs q=>by rw[Zl (Yt q hn)];exact q
 frzs:=fun b u xs q=>by rw[Zl (Yt q hn)];exact q
 tbls:=fun b ps q=>⟨#[],by rw[Zl (Yt q hn),q];simp⟩
theorem Un.write(mu:Mut (H x))(he:e=x\/H e=some (.own x))(k:∀b u,b≠e->h.get? b=some u->h'.get? b=some u)(heo:∃u,h'.get? e=some u):Un fs ex H (Ys H x o) h h':=by
 have hx:∀b,H b=none->b≠x:=fun b n z=>by subst z;rw[n]at mu;exact mu
 have hb:∀b,H b=none->b≠e:=fun b n z=>by
  subst z
  rcases he with r|r
  ·exact hx b n r
  ·rw[n]at r;cases r
 have hm:∀b u,H b=some u->¬Mut (some u)->b≠x:=fun b u q nm z=>by subst z;rw[q]at mu;exact nm mu
 refine⟨fun b u q n _ _=>k b u (hb b n) q,fun b u q n _ _=>⟨u.slots,k b u (hb b n) q⟩,fun b u q n _=>by rw[Zl (hx b n)];exact n,fun b u q _=>?_,
  fun b xs q=>by rw[Zl (hm b _ q fun z=>z)];exact q,fun b u xs q=>by rw[Zl (hm b _ q fun z=>z)];exact q,fun b ps q=>⟨#[],by rw[Zl (hm b _ q fun z=>z),q];simp⟩⟩
 by_cases hbe:b=e
 ·subst hbe;exact heo
 ·exact⟨u,k b u hbe q⟩
end
noncomputable def trk(h:Heap)(H:Hp):List Addr:=(List.range h.objs.size).filter fun a=>(H a).isSome
noncomputable def Aj(h:Heap)(H:Hp):Heap:=PySem.W.hideAll h (trk h H)
theorem S4(h:Heap)(H:Hp):(Aj h H).objs.size=h.objs.size:=PySem.W.hideAll_size _ _
theorem X3{h:Heap}{H:Hp}{b:Addr}{o:Obj}(e:h.get? b=some o)(n:H b=none):(Aj h H).get? b=some o:=
 PySem.W.hideAll_get _ e fun hm=>by
  have q:(H b).isSome=true:=(List.mem_filter.mp hm).2
  rw[n]at q;simp at q
theorem Zcz{h:Heap}{H:Hp}{b:Addr}{o:Obj}(e:(Aj h H).get? b=some o):h.get? b=some o/\H b=none:=by
 have e':h.get? b=some o:=PySem.W.of_hideAll (trk h H) e
 refine⟨e',?_⟩
 cases q:H b with
 |none=>rfl
 |some x=>
  have hm:b∈trk h H:=List.mem_filter.mpr ⟨List.mem_range.mpr (Heap.lt_size e'),by simp[q]⟩
  have z:(Aj h H).get? b=none:=PySem.W.hideAll_none (trk h H) hm
  rw[z]at e;cases e
noncomputable def Zc0(g h:Heap)(L:Addr):List (Addr×Obj):=(List.range h.objs.size).filterMap fun a=>if a=L\/(g.get? a).isSome=true then none else(h.get? a).map fun o=>(a,o)
noncomputable def rest(g h:Heap)(L d:Addr):List (Addr×Obj):=(Zc0 g h L).filter fun p=>decide (p.1≠d)
structure Mod(K:PySem.W.Frag)(mg:Str->Option Value)(base:Heap):Prop where
 kin:K.In base
 glob:base.Ns mainGlobals mg
 blt:∃mb,base.Ns builtinsNs mb/\∀x:Str,x≠"__name__"->mb x=bootBuiltins x
 nolimit:base.NoLimit
set_option genInjectivity false in
structure Cx where
 prog:Program
 w:World
 K:PySem.W.Frag
 mg:Str->Option Value
 base:Heap
 A:Around
 N:List Str
 s₀:Shared
 H₀:Hp
 env:Env
 outer:List Env
 stack:List Env
 ex:List Addr
 fn:Str->Bool
 calm:Bool
 pn:List (Addr×Obj)
 xe:Value->Shared->Prop
noncomputable def Ox(l:List Env):List Addr:=l.filterMap (·.frame)
noncomputable abbrev Cx.fs(X:Cx):List Addr:=Ox X.outer
noncomputable def Km(sc:Scope)(x:Str):Prop:=sc.names.lookup x=some .local\/sc.names.lookup x=some .cell\/sc.names.lookup x=some .free
noncomputable def Loc(sc:Scope)(x:Str):Prop:=sc.names.lookup x=some .local\/sc.names.lookup x=some .cell
noncomputable def Zlm(env:Env)(h:Heap)(m:Str->Option Value)(x:Str)(u:Value):Prop:=
 (env.kindOf x=some .local/\m x=some u)\/((env.kindOf x=some .cell\/env.kindOf x=some .free)/\∃c,env.cells.lookup x=some c/\h.IsCell c (some u))
set_option genInjectivity false in
structure Cx.Ok(X:Cx):Prop where
 mod:Mod X.K X.mg X.base
 kind:X.env.scope.kind= .function
 glob:X.env.globals=mainGlobals
 blt:X.env.builtins=builtinsNs
 above:X.s₀.heap.objs.size<=X.env.locals
 inj:∀x y c,X.env.cells.lookup x=some c->X.env.cells.lookup y=some c->x=y
 has:∀x,(X.env.kindOf x=some .cell\/X.env.kindOf x=some .free)->∃c,X.env.cells.lookup x=some c
 cab:∀x c,X.fn x=true->X.env.cells.lookup x=some c->X.s₀.heap.objs.size<=c
 hd:X.calm=true->X.A.handled=none
 frames:X.A.frames=some X.stack
 stk:X.stack=X.outer\/(X.stack=X.env::X.outer/\X.env.frame=some X.env.locals)
 exf:∀b∈X.ex,b≠X.env.locals/\∀x c,X.env.cells.lookup x=some c->c≠b
 bs:∀b o,X.base.get? b=some o->X.s₀.heap.get? b=some o/\X.H₀ b=none
 bsz:X.base.objs.size<=X.s₀.heap.objs.size
 noex:∀b o,X.base.get? b=some o->b∉X.ex
 exfs:∀b∈X.ex,b∉X.fs
 funs:X.s₀.heap.FunFrames X.base X.outer
 frf:∀b∈X.fs,X.H₀ b=none
structure Inv(X:Cx)(pins:List (Addr×Obj))(σ:List (Option V))(H:Hp)(s:Shared):Prop where
 ok:X.Ok
 os:s.os=X.s₀.os
 bare:AllBare s.gens
 base:Un X.fs X.ex X.H₀ H X.s₀.heap s.heap
 loc:∃m,s.heap.Ns X.env.locals m/\∀(i:Nat) (x:Str) (v:V),X.N[i]? =some x->σ[i]? =some (some v)->Km X.env.scope x->∃u,Zw v u/\Zlm X.env s.heap m x u
 cell:∀x c,X.env.cells.lookup x=some c->∃v,s.heap.IsCell c v
 free:H X.env.locals=none
 freeC:∀x c,X.env.cells.lookup x=some c->H c=none
 pin:∀p∈X.pn++pins,s.heap.get? p.1=some p.2/\H p.1=none/\p.1≠X.env.locals/\p.1∉X.fs/\∀v,p.2.data≠.cell v
 hok:Oe X.prog X.w H s.heap
 len:σ.length=X.N.length
section
variable{X:Cx}{pins:List (Addr×Obj)}{σ:List (Option V)}{H H':Hp}{s:Shared}{h':Heap}
theorem Cx.Ok.nofr(ok:X.Ok){b:Addr}{o:Obj}(e:X.base.get? b=some o):b∉X.fs:=fun hb=>by
 have:=(ok.funs.mem hb).1
 rw[e]at this;cases this
theorem Inv.bs(I:Inv X pins σ H s):∀b o,X.base.get? b=some o->s.heap.get? b=some o/\H b=none:=fun b o e=>
 ⟨I.base.keep b o (I.ok.bs b o e).1 (I.ok.bs b o e).2 (I.ok.nofr e) (I.ok.noex b o e),I.base.free b o (I.ok.bs b o e).1 (I.ok.bs b o e).2 (I.ok.noex b o e)⟩
theorem Inv.bk(I:Inv X pins σ H s):∀b o,X.base.get? b=some o->s.heap.get? b=some o:=fun b o e=>(I.bs b o e).1
theorem Inv.mod(I:Inv X pins σ H s):Mod X.K X.mg X.base:=I.ok.mod
theorem Inv.kIn(I:Inv X pins σ H s):X.K.In s.heap:=I.ok.mod.kin.keeps I.bk
theorem Inv.lt(I:Inv X pins σ H s):X.env.locals<s.heap.objs.size:=let⟨_,hn,_⟩:=I.loc;hn.lt
theorem Inv.sz(I:Inv X pins σ H s):X.s₀.heap.objs.size<=s.heap.objs.size:=Nat.le_trans I.ok.above (Nat.le_of_lt I.lt)
theorem Inv.nofs(I:Inv X pins σ H s){a:Addr}(h:s.heap.objs.size<=a):a∉X.fs:=fun hb=>by
 obtain⟨_,o,ho,_⟩:=I.ok.funs.mem hb
 exact absurd (Nat.lt_of_lt_of_le (Heap.lt_size ho) (Nat.le_trans I.sz h)) (Nat.lt_irrefl _)
theorem Inv.cne(I:Inv X pins σ H s):∀x c,X.env.cells.lookup x=some c->c≠X.env.locals:=fun x c e z=>by
 obtain⟨v,o,ho,hd⟩:=I.cell x c e
 obtain⟨m,⟨o',es,ep,ho',hd',_⟩,_⟩:=I.loc
 rw[z,ho']at ho;cases ho;rw[hd']at hd;cases hd
theorem Inv.funs(I:Inv X pins σ H s):s.heap.FunFrames X.base X.outer:=by
 have all:∀(l:List Env),(∀b∈Ox l,b∈X.fs)->X.s₀.heap.FunFrames X.base l->s.heap.FunFrames X.base l:=by
  intro l
  induction l with
  |nil=>intro _ _;trivial
  |cons env r ih=>
   intro hs hl
   obtain⟨hk,⟨L,o,hf,hn,ho,hd⟩,hr⟩:=hl
   have hL:L∈X.fs:=hs L (by unfold Ox;rw[List.filterMap_cons,hf];exact List.mem_cons_self)
   obtain⟨sl,e⟩:=I.base.slot L o ho (I.ok.frf L hL) hL fun z=>I.ok.exfs L z hL
   exact⟨hk,⟨L,_,hf,hn,e,hd⟩,ih (fun b hb=>hs b (by unfold Ox;rw[List.filterMap_cons,hf];exact List.mem_cons_of_mem _ hb)) hr⟩
 exact all X.outer (fun _ hb=>hb) I.ok.funs
theorem Inv.stack(I:Inv X pins σ H s):s.heap.FunFrames X.base X.stack:=by
 rcases I.ok.stk with e|⟨e,hf⟩
 ·rw[e];exact I.funs
 ·rw[e]
  obtain⟨m,hn,_⟩:=I.loc
  refine .cons (by rw[I.ok.kind];decide) hf hn ?_ I.funs
  exact Heap.get?_none_of_le (Nat.le_trans I.ok.bsz I.ok.above)
theorem Inv.stkSub(I:Inv X pins σ H s):∀b∈Ox X.stack,b∈X.env.locals::X.fs:=fun b hb=>by
 rcases I.ok.stk with e|⟨e,hf⟩
 ·rw[e]at hb;exact List.mem_cons_of_mem _ hb
 ·rw[e]at hb
  unfold Ox at hb
  rw[List.filterMap_cons,hf]at hb
  exact hb
theorem Inv.stkFree(I:Inv X pins σ H s):∀b∈Ox X.stack,H b=none:=fun b hb=>by
 rcases List.mem_cons.mp (I.stkSub b hb)with e|hb
 ·rw[e];exact I.free
 ·obtain⟨_,o,ho,_⟩:=I.ok.funs.mem hb
  exact I.base.free b o ho (I.ok.frf b hb) fun z=>I.ok.exfs b z hb
theorem Inv.step{g':Array GenState}{t':Nat}{d':Drawn}{ch:List Addr}(I:Inv X pins σ H s)
  (hch:∀b∈ch,(b∈X.ex\/X.s₀.heap.objs.size<=b)/\b≠X.env.locals/\(∀x c,X.env.cells.lookup x=some c->c≠b)/\∀p∈X.pn++pins,p.1≠b)
  (keep:∀b o,b≠X.env.locals->b∉X.fs->b∉ch->s.heap.get? b=some o->H b=none->h'.get? b=some o)
  (slot:∀b o,b≠X.env.locals->b∈X.fs->b∉ch->s.heap.get? b=some o->H b=none->∃sl,h'.get? b=some {o with slots:=sl}) (free:∀b o,b∉ch->s.heap.get? b=some o->H b=none->H' b=none)
  (there:∀b o,b∉ch->s.heap.get? b=some o->∃o',h'.get? b=some o')
  (tups:∀b xs,H b=some (.tup xs)->H' b=some (.tup xs)) (frzs:∀b o u,H b=some (.frz o u)->H' b=some (.frz o u)) (tbls:∀b ps,H b=some (.tbl ps)->∃more,H' b=some (.tbl (ps++more)))
  (ns:∀m,s.heap.Ns X.env.locals m->h'.Ns X.env.locals m) (hok:Oe X.prog X.w H' h') (hg:AllBare g'):
  Inv X pins σ H' {s with heap:=h',gens:=g',drawn:=d',toks:=t'}:=by
 have neL:∀b o,X.s₀.heap.get? b=some o->b≠X.env.locals:=fun b o e=>Nat.ne_of_lt (Nat.lt_of_lt_of_le (Heap.lt_size e) I.ok.above)
 have neC:∀b o,X.s₀.heap.get? b=some o->b∉X.ex->b∉ch:=fun b o e hx hb=>by
  rcases(hch b hb).1 with z|z
  ·exact hx z
  ·exact absurd (Nat.lt_of_lt_of_le (Heap.lt_size e) z) (Nat.lt_irrefl _)
 have cellK:∀x c,X.env.cells.lookup x=some c->∀v,s.heap.IsCell c v->h'.IsCell c v:=fun x c e v ⟨o,ho,hd⟩=>by
  have nch:c∉ch:=fun z=>(hch c z).2.2.1 x c e rfl
  by_cases hc:c∈X.fs
  ·obtain⟨sl,q⟩:=slot c o (I.cne x c e) hc nch ho (I.freeC x c e)
   exact⟨_,q,hd⟩
  ·exact⟨o,keep c o (I.cne x c e) hc nch ho (I.freeC x c e),hd⟩
 refine⟨I.ok,I.os,hg,⟨fun b o e n hb hx=>?_,fun b o e n hb hx=>?_,fun b o e n hx=>?_,fun b o e hx=>?_,fun b xs e=>tups b xs (I.base.tups b xs e),fun b o xs e=>frzs b o xs (I.base.frzs b o xs e),fun b ps e=>?_⟩,?_,fun x c e=>?_,?_,fun x c e=>?_,fun p hp=>?_,hok,I.len⟩
 ·exact keep b o (neL b o e) hb (neC b o e hx) (I.base.keep b o e n hb hx) (I.base.free b o e n hx)
 ·obtain⟨sl,e1⟩:=I.base.slot b o e n hb hx
  obtain⟨sl',e2⟩:=slot b _ (neL b o e) hb (neC b o e hx) e1 (I.base.free b o e n hx)
  exact⟨sl',e2⟩
 ·obtain⟨o',e1⟩:=I.base.there b o e hx
  exact free b o' (neC b o e hx) e1 (I.base.free b o e n hx)
 ·obtain⟨o',e1⟩:=I.base.there b o e hx
  exact there b o' (neC b o e hx) e1
 ·obtain⟨m1,e1⟩:=I.base.tbls b ps e
  obtain⟨m2,e2⟩:=tbls b _ e1
  exact⟨m1++m2,by rw[e2,Array.append_assoc]⟩
 ·obtain⟨m,hn,hl⟩:=I.loc
  refine⟨m,ns m hn,fun i x v e1 e2 e3=>?_⟩
  obtain⟨u,r,l⟩:=hl i x v e1 e2 e3
  refine⟨u,r,?_⟩
  rcases l with l|⟨k,c,e,z⟩
  ·exact .inl l
  ·exact .inr ⟨k,c,e,cellK x c e _ z⟩
 ·obtain⟨v,z⟩:=I.cell x c e
  exact⟨v,cellK x c e v z⟩
 ·obtain⟨m,⟨o,_,_,ho,_⟩,_⟩:=I.loc
  exact free _ o (fun z=>(hch _ z).2.1 rfl) ho I.free
 ·obtain⟨v,o,ho,hd⟩:=I.cell x c e
  exact free c o (fun z=>(hch c z).2.2.1 x c e rfl) ho (I.freeC x c e)
 ·obtain⟨e,n,ne,nf,d⟩:=I.pin p hp
  have nch:p.1∉ch:=fun z=>(hch p.1 z).2.2.2 p hp rfl
  exact⟨keep p.1 p.2 ne nf nch e n,free p.1 p.2 nch e n,ne,nf,d⟩
theorem Inv.un{t':Nat}(I:Inv X pins σ H s)(u:Un X.fs [] H H' s.heap h')(hok:Oe X.prog X.w H' h'):Inv X pins σ H' {s with heap:=h',toks:=t'}:=by
 obtain⟨m,⟨o,es,ep,ho,r⟩,_⟩:=id I.loc
 obtain⟨sl,hL⟩:=u.any ho I.free (by simp)
 exact I.step (g':=s.gens) (d':=s.drawn) (ch:=[]) (fun _ z=>nomatch z) (fun b o _ hb _ e n=>u.keep b o e n hb (by simp)) (fun b o _ hb _ e n=>u.slot b o e n hb (by simp)) (fun b o _ e n=>u.free b o e n (by simp)) (fun b o _ e=>u.there b o e (by simp)) u.tups u.frzs u.tbls (fun m' hm=>by
  obtain⟨o',es',ep',ho',r'⟩:=hm
  rw[ho]at ho';cases ho'
  exact⟨_,es',ep',hL,r'⟩) hok I.bare
theorem Inv.call{g':Array GenState}{t':Nat}{d':Drawn}{ch:List Addr}(I:Inv X pins σ H s)(u:Un (Ox X.stack) ch H H' s.heap h')(hok:Oe X.prog X.w H' h')(hg:AllBare g')
  (hch:∀b∈ch,(b∈X.ex\/X.s₀.heap.objs.size<=b)/\b≠X.env.locals/\(∀x c,X.env.cells.lookup x=some c->c≠b)/\∀p∈X.pn++pins,p.1≠b):
  Inv X pins σ H' {s with heap:=h',gens:=g',drawn:=d',toks:=t'}:=by
 obtain⟨m,⟨o,es,ep,ho,r⟩,_⟩:=id I.loc
 obtain⟨sl,hL⟩:=u.any ho I.free fun z=>(hch _ z).2.1 rfl
 exact I.step (ch:=ch) hch (fun b o hL hb hc e n=>u.keep b o e n (fun z=>(List.mem_cons.mp (I.stkSub b z)).elim hL hb) hc) (fun b o _ _ hc e n=>u.any e n hc) (fun b o hc e n=>u.free b o e n hc) (fun b o hc e=>u.there b o e hc) u.tups u.frzs u.tbls (fun m' hm=>by
  obtain⟨o',es',ep',ho',r'⟩:=hm
  rw[ho]at ho';cases ho'
  exact⟨_,es',ep',hL,r'⟩) hok hg
theorem Inv.turned{t':Nat}{it:Addr}(I:Inv X pins σ H s)(k:∀b o,b≠it->s.heap.get? b=some o->h'.get? b=some o)(hn:H it=none)(hL:it≠X.env.locals)
  (h1:it∈X.ex\/X.s₀.heap.objs.size<=it) (h2:∀x c,X.env.cells.lookup x=some c->c≠it) (h3:∀p∈X.pn++pins,p.1≠it):Inv X pins σ H {s with heap:=h',toks:=t'}:=by
 have nit:∀b u,H b=some u->b≠it:=fun b u e z=>by rw[z,hn]at e;cases e
 refine I.step (g':=s.gens) (d':=s.drawn) (ch:=[it]) (fun b hb=>?_) (fun b o _ _ hc e _=>k b o (fun z=>hc (by simp[z])) e) (fun b o _ _ hc e _=>⟨o.slots,k b o (fun z=>hc (by simp[z])) e⟩) (fun _ _ _ _ n=>n)
  (fun b o hc e=>⟨o,k b o (fun z=>hc (by simp[z])) e⟩) (fun _ _ e=>e) (fun _ _ _ e=>e) (fun b ps e=>⟨#[],by rw[e];simp⟩) (fun m hm=>?_) (fun b u e=>?_) I.bare
 ·have e:b=it:=by simpa using hb
  subst e
  exact⟨h1,hL,h2,h3⟩
 ·obtain⟨o,es,ep,ho,r⟩:=hm
  exact⟨o,es,ep,k _ o (Ne.symm hL) ho,r⟩
 ·refine(I.hok b u e).stay (fun c v hc q=>k c v ?_ q) (fun _ q=>q) fun _ _ q=>q
  rcases hc with z|z
  ·rw[z];exact nit b u e
  ·exact nit c _ z
theorem Inv.tok(I:Inv X pins σ H s)(t:Nat):Inv X pins σ H {s with toks:=t}:=I.un (h':=s.heap) (t':=t) Un.refl I.hok
theorem Inv.kept{t':Nat}(I:Inv X pins σ H s)(k:∀b u,s.heap.get? b=some u->h'.get? b=some u):Inv X pins σ H {s with heap:=h',toks:=t'}:=I.un (Un.kept k) (I.hok.kept k)
theorem Inv.laid{a:Addr}{o:HO}{t':Nat}(I:Inv X pins σ H s)(k:∀b u,s.heap.get? b=some u->h'.get? b=some u)(hp:s.heap.objs.size<=a)(new:Y4 X.prog X.w (Ys H a o) h' a o):
  Inv X pins σ (Ys H a o) {s with heap:=h',toks:=t'}:=I.un (Un.laid k hp (I.hok.fresh hp)) (I.hok.laid k hp new)
theorem Inv.write{x e:Addr}{o:HO}{t':Nat}(I:Inv X pins σ H s)(mu:Mut (H x))(he:e=x\/H e=some (.own x))(k:∀b u,b≠e->s.heap.get? b=some u->h'.get? b=some u)(heo:∃u,h'.get? e=some u)
  (new:Y4 X.prog X.w (Ys H x o) h' x o):Inv X pins σ (Ys H x o) {s with heap:=h',toks:=t'}:=I.un (Un.write mu he k heo) (I.hok.write mu he k heo new)
theorem Inv.pins_of{pins':List (Addr×Obj)}(I:Inv X pins σ H s)(h:∀p∈pins',s.heap.get? p.1=some p.2/\H p.1=none/\p.1≠X.env.locals/\p.1∉X.fs/\∀v,p.2.data≠.cell v):Inv X pins' σ H s:=
 ⟨I.ok,I.os,I.bare,I.base,I.loc,I.cell,I.free,I.freeC,fun p hp=>(List.mem_append.mp hp).elim (fun z=>I.pin p (List.mem_append_left _ z)) (h p),I.hok,I.len⟩
theorem Rk{N:List Str}(hN:N.Nodup){i j:Nat}{x:Str}(a:N[i]? =some x)(b:N[j]? =some x):i=j:=by
 obtain⟨h1,e1⟩:=List.getElem?_eq_some_iff.mp a
 obtain⟨h2,e2⟩:=List.getElem?_eq_some_iff.mp b
 exact(List.getElem_inj hN).mp (e1.trans e2.symm)
theorem S5{M:Model}{A:Around}{E:Value->Shared->Prop}{i:Nat}{x:Str}{v:V}{u:Value}{Q:Unit->Shared->Prop}(I:Inv X pins σ H s)(hN:X.N.Nodup)(hi:X.N[i]? =some x)(hx:Loc X.env.scope x)(r:Zw v u)
  (h:∀s',Inv X pins (σ.set i (some v)) H s'->(∃a,Heap.SameBut a s.heap s'.heap/\(a=X.env.locals\/X.env.cells.lookup x=some a))->Q () s') (hf:X.fn x=true\/X.env.scope.names.lookup x=some .local:=by first|exact .inl rfl|exact .inr rfl|assumption):wpAny M A (storeName X.env x u) Q E s:=by
 obtain⟨m,hn,hl⟩:=id I.loc
 have hcls:(X.env.scope.kind== .class|| (X.env.scope.kind== .module&&X.env.locals !=X.env.globals))=false:=by rw[I.ok.kind];rfl
 have hiσ:i<σ.length:=by rw[I.len];exact(List.getElem?_eq_some_iff.mp hi).1
 have cne:=I.cne
 have tracked:∀{a:Addr} {h':Heap},(∃o,s.heap.get? a=some o/\H a=none)->Heap.SameBut a s.heap h'->Oe X.prog X.w H h':=fun{a h'} ha hs b ob e=>by
  obtain⟨_,_,hfree⟩:=ha
  refine(I.hok b ob e).stay (fun c w' hc q=>(hs.2 c ?_).trans q) (fun _ q=>q) fun _ _ q=>q
  rintro rfl
  rcases hc with rfl|hc
  ·rw[hfree]at e;cases e
  ·rw[hfree]at hc;cases hc
 rcases hx with hk|hk
 ·refine wpAny_storeName_local hk hn (fun h' hn' hs=>?_) hcls
  obtain⟨oL,_,_,hoL,_⟩:=id hn
  refine h _ ⟨I.ok,I.os,I.bare,⟨fun b o e n hb hx=>?_,fun b o e n hb hx=>?_,I.base.free,fun b o e hx=>?_,I.base.tups,I.base.frzs,I.base.tbls⟩,⟨_,hn',fun j y v' e1 e2 e3=>?_⟩,fun y c e=>?_,I.free,I.freeC,fun p hp=>?_,tracked ⟨oL,hoL,I.free⟩ hs,by simpa using I.len⟩ ⟨_,hs,.inl rfl⟩
  ·exact(hs.2 b (Nat.ne_of_lt (Nat.lt_of_lt_of_le (Heap.lt_size e) I.ok.above))).trans (I.base.keep b o e n hb hx)
  ·obtain⟨sl,e1⟩:=I.base.slot b o e n hb hx
   exact⟨sl,(hs.2 b (Nat.ne_of_lt (Nat.lt_of_lt_of_le (Heap.lt_size e) I.ok.above))).trans e1⟩
  ·obtain⟨o',e1⟩:=I.base.there b o e hx
   exact⟨o',(hs.2 b (Nat.ne_of_lt (Nat.lt_of_lt_of_le (Heap.lt_size e) I.ok.above))).trans e1⟩
  ·by_cases hj:j=i
   ·subst hj
    rw[hi]at e1;cases e1
    rw[List.getElem?_set_self hiσ]at e2
    cases e2
    exact⟨u,r,.inl ⟨hk,by simp⟩⟩
   ·rw[List.getElem?_set_ne (Ne.symm hj)]at e2
    obtain⟨u',r',q⟩:=hl j y v' e1 e2 e3
    refine⟨u',r',?_⟩
    rcases q with⟨k,e⟩|⟨k,c,e,z⟩
    ·refine .inl ⟨k,?_⟩
     have:y≠x:=fun e=>hj (Rk hN e1 (e▸hi))
     simp[this,e]
    ·exact .inr ⟨k,c,e,z.sameBut hs (cne y c e)⟩
  ·obtain⟨w',z⟩:=I.cell y c e
   exact⟨w',z.sameBut hs (cne y c e)⟩
  ·obtain⟨e,n,ne,nf,d⟩:=I.pin p hp
   exact⟨(hs.2 p.1 ne).trans e,n,ne,nf,d⟩
 ·have hfn:X.fn x=true:=by
   rcases hf with z|z
   ·exact z
   ·rw[z]at hk;cases hk
  obtain⟨c,hc⟩:=I.ok.has x (.inl hk)
  obtain⟨w',z⟩:=I.cell x c hc
  refine wpAny_storeName_cell I.ok.kind hk hc z (fun h' hc' hs=>?_)
  obtain⟨oc,hoc,hocd⟩:=id z
  refine h {s with heap:=h'} ⟨I.ok,I.os,I.bare,⟨fun b o e n hb hx=>?_,fun b o e n hb hx=>?_,I.base.free,fun b o e hx=>?_,I.base.tups,I.base.frzs,I.base.tbls⟩,⟨m,hn.sameBut hs (Ne.symm (cne x c hc)),fun j y v' e1 e2 e3=>?_⟩,fun y c' e=>?_,I.free,I.freeC,fun p hp=>?_,tracked ⟨oc,hoc,I.freeC x c hc⟩ hs,by simpa using I.len⟩ ⟨c,hs,.inr hc⟩
  ·exact(hs.2 b (Nat.ne_of_lt (Nat.lt_of_lt_of_le (Heap.lt_size e) (I.ok.cab x c hfn hc)))).trans (I.base.keep b o e n hb hx)
  ·obtain⟨sl,e1⟩:=I.base.slot b o e n hb hx
   exact⟨sl,(hs.2 b (Nat.ne_of_lt (Nat.lt_of_lt_of_le (Heap.lt_size e) (I.ok.cab x c hfn hc)))).trans e1⟩
  ·obtain⟨o',e1⟩:=I.base.there b o e hx
   exact⟨o',(hs.2 b (Nat.ne_of_lt (Nat.lt_of_lt_of_le (Heap.lt_size e) (I.ok.cab x c hfn hc)))).trans e1⟩
  ·by_cases hj:j=i
   ·subst hj
    rw[hi]at e1;cases e1
    rw[List.getElem?_set_self hiσ]at e2
    cases e2
    exact⟨u,r,.inr ⟨.inl hk,c,hc,hc'⟩⟩
   ·rw[List.getElem?_set_ne (Ne.symm hj)]at e2
    obtain⟨u',r',q⟩:=hl j y v' e1 e2 e3
    refine⟨u',r',?_⟩
    rcases q with q|⟨k,c',e,z'⟩
    ·exact .inl q
    ·refine .inr ⟨k,c',e,z'.sameBut hs ?_⟩
     rintro rfl
     exact hj (Rk hN e1 (I.ok.inj _ _ _ e hc▸hi))
  ·by_cases hcc:c'=c
   ·subst hcc;exact⟨_,hc'⟩
   ·obtain⟨w2,z2⟩:=I.cell y c' e
    exact⟨w2,z2.sameBut hs hcc⟩
  ·obtain⟨e,n,ne,nf,d⟩:=I.pin p hp
   refine⟨(hs.2 p.1 ?_).trans e,n,ne,nf,d⟩
   intro q
   rw[q,hoc]at e
   have q':oc=p.2:=Option.some.inj e
   exact d w' (by rw[<-q'];exact hocd)
theorem Rl{M:Model}{A:Around}{E:Value->Shared->Prop}{i:Nat}{x:Str}{v:V}{u:Value}{Q:Unit->Shared->Prop}(I:Inv X pins σ H s)(hN:X.N.Nodup)(hi:X.N[i]? =some x)(hx:Loc X.env.scope x)(r:Zw v u)
  (h:∀s',Inv X pins (σ.set i (some v)) H s'->Q () s') (hf:X.fn x=true\/X.env.scope.names.lookup x=some .local:=by first|exact .inl rfl|exact .inr rfl|assumption):wpAny M A (storeName X.env x u) Q E s:=
 S5 I hN hi hx r (fun s' I' _=>h s' I') hf
theorem Inv.call'{s':Shared}{ch:List Addr}(I:Inv X pins σ H s)(ho:s'.os=s.os)(u:Un (Ox X.stack) ch H H' s.heap s'.heap)(hok:Oe X.prog X.w H' s'.heap)(hg:AllBare s'.gens)
  (hch:∀b∈ch,(b∈X.ex\/X.s₀.heap.objs.size<=b)/\b≠X.env.locals/\(∀x c,X.env.cells.lookup x=some c->c≠b)/\∀p∈X.pn++pins,p.1≠b):Inv X pins σ H' s':=by
 obtain⟨h',g',d',t',o'⟩:=s'
 have e:o'=s.os:=ho
 subst e
 exact I.call (g':=g') (t':=t') (d':=d') u hok hg hch
end
noncomputable abbrev XK:=Value->Option Addr->Hp->Prop
noncomputable abbrev St:=List (Option V)
noncomputable abbrev VK:=V->Hp->Prop
noncomputable abbrev TE:=St->Hp->VK->Prop
noncomputable abbrev TT:=St->Hp->(Bool->Hp->Prop)->Prop
noncomputable abbrev TA:=St->Hp->(List V->Hp->Prop)->Prop
set_option genInjectivity false in
structure Ends where
 nx:St->Hp->Prop
 rt:VK
 bk:St->Hp->Prop:=fun _ _=>False
 ct:St->Hp->Prop:=fun _ _=>False
noncomputable abbrev TS:=Ends->St->Hp->Prop
noncomputable def EP(X:Cx)(pins:List (Addr×Obj))(σ:St)(Q:VK)(u:Value)(s':Shared):Prop:=∃v H',Inv X pins σ H' s'/\Zw v u/\Q v H'
noncomputable def TP(X:Cx)(pins:List (Addr×Obj))(σ:St)(Q:Bool->Hp->Prop)(b:Bool)(s':Shared):Prop:=∃H',Inv X pins σ H' s'/\Q b H'
noncomputable def AP(X:Cx)(pins:List (Addr×Obj))(σ:St)(Q:List V->Hp->Prop)(us:List Value)(s':Shared):Prop:=∃vs H',Inv X pins σ H' s'/\Yb vs us/\Q vs H'
noncomputable def SP(X:Cx)(pins:List (Addr×Obj))(D:Ends)(f:Flow)(s':Shared):Prop:=
 match f with
 | .next=>∃σ' H',Inv X pins σ' H' s'/\D.nx σ' H'
 | .brk=>∃σ' H',Inv X pins σ' H' s'/\D.bk σ' H'
 | .cont=>∃σ' H',Inv X pins σ' H' s'/\D.ct σ' H'
 | .ret u=>∃v σ' H',Inv X pins σ' H' s'/\Zw v u/\D.rt v H'
noncomputable def PE(X:Cx)(e:Expr)(t:TE):Prop:=
 ∀(pins:List (Addr×Obj)) (s:Shared) (σ:St) (H:Hp) (Q:VK),Inv X pins σ H s->t σ H Q->wpAny (model X.prog X.w) X.A (eval e X.env) (EP X pins σ Q) X.xe s
noncomputable def PT(X:Cx)(e:Expr)(t:TT):Prop:=
 ∀(pins:List (Addr×Obj)) (s:Shared) (σ:St) (H:Hp) (Q:Bool->Hp->Prop),Inv X pins σ H s->t σ H Q->wpAny (model X.prog X.w) X.A (isTrue e X.env (eval e X.env)) (TP X pins σ Q) X.xe s
noncomputable def PW(X:Cx)(e:Expr)(t:TT):Prop:=
 ∀(whole:Sem Value) (pins:List (Addr×Obj)) (s:Shared) (σ:St) (H:Hp) (Q:Bool->Hp->Prop),Inv X pins σ H s->t σ H Q->wpAny (model X.prog X.w) X.A (isTrue e X.env whole) (TP X pins σ Q) X.xe s
theorem PW.pt{X:Cx}{e:Expr}{t:TT}(h:PW X e t):PT X e t:=h _
noncomputable def PA(X:Cx)(es:List Expr)(t:TA):Prop:=
 ∀(pos:Pos) (pins:List (Addr×Obj)) (s:Shared) (σ:St) (H:Hp) (Q:List V->Hp->Prop),Inv X pins σ H s->t σ H Q->wpAny (model X.prog X.w) X.A (spliced (backTo pos (starEach es X.env))) (AP X pins σ Q) X.xe s
noncomputable def PS(X:Cx)(st:Stmt)(t:TS):Prop:=
 ∀(pins:List (Addr×Obj)) (s:Shared) (σ:St) (H:Hp) (D:Ends),Inv X pins σ H s->t D σ H->wpAny (model X.prog X.w) X.A (exec st X.env) (SP X pins D) X.xe s
noncomputable def Ob(X:Cx)(st:List Stmt)(t:TS):Prop:=
 ∀(pins:List (Addr×Obj)) (s:Shared) (σ:St) (H:Hp) (D:Ends),Inv X pins σ H s->t D σ H->wpAny (model X.prog X.w) X.A (execs st X.env) (SP X pins D) X.xe s
theorem Y3{α:Type}{t:Sem α}{Q Q':α->Shared->Prop}{M:Model}{A:Around}{E:Value->Shared->Prop}{s:Shared}(h:wpAny M A t Q E s)(hQ:∀a s,Q a s->Q' a s):wpAny M A t Q' E s:=wpAny_mono h hQ fun _ _ x=>x
section
variable{X:Cx}
noncomputable def Jg(i:Nat):TE:=fun σ H Q=>∃v,σ[i]? =some (some v)/\Q v H
noncomputable def tC(v:V):TE:=fun _ H Q=>Q v H
theorem Q4{i:Nat}{x:Str}{pos:Pos}(hN:X.N[i]? =some x)(hv:Km X.env.scope x)(hd:(x==("__debug__":Str))=false:=by decide)(hcd:(x==("__classdict__":Str))=false:=by decide):PE X (.Name x pos) (Jg i):=by
 intro pins s σ H Q I h
 obtain⟨v,e,h⟩:=h
 obtain⟨m,hn,hl⟩:=I.loc
 obtain⟨u,r,l⟩:=hl i x v hN e hv
 have fin:EP X pins σ Q u s:=⟨v,H,I,r,h⟩
 rcases l with⟨hk,hm⟩|⟨hk,c,hc,hcell⟩
 ·exact wpAny_Name (wpAny_loadName_local I.ok.kind hk hn hm fin) hd
 ·rcases hk with hk|hk
  ·exact wpAny_Name (wpAny_loadName_cell I.ok.kind hk hc hcell fin) hd
  ·exact wpAny_Name (wpAny_loadName_free I.ok.kind hk hc hcell fin hcd) hd
theorem Ko{i j pos}:PE X (.Constant (.int i) j pos) (tC (.int i)):=fun _ _ _ H _ I h=>wpAny_Constant_int ⟨.int i,H,I.tok _,⟨_,rfl⟩,h⟩
theorem Zln{b j pos}:PE X (.Constant (.bool b) j pos) (tC (.bl b)):=fun _ _ _ H _ I h=>Constant_bool ⟨.bl b,H,I,rfl,h⟩
theorem X4{j pos}:PE X (.Constant .none j pos) (tC .non):=fun _ _ _ H _ I h=>Constant_none ⟨.non,H,I,rfl,h⟩
theorem X5{x j pos}:PE X (.Constant (.str x) j pos) (tC (.str x)):=fun _ _ _ H _ I h=>Calls.Constant_str ⟨.str x,H,I.tok _,⟨_,rfl⟩,h⟩
noncomputable def Gl(X:Cx)(x:Str):Prop:=X.env.kindOf x=some .globalImplicit
theorem Jj{E:Value->Shared->Prop}{pins:List (Addr×Obj)}{s:Shared}{σ:St}{H:Hp}{x:Str}{u:Value}{pos:Pos}{Q:Value->Shared->Prop}(I:Inv X pins σ H s)(hg:Gl X x)(hm:X.mg x=some u)(h:Q u s)
  (hd:(x==("__debug__":Str))=false:=by decide):wpAny (model X.prog X.w) X.A (eval (.Name x pos) X.env) Q E s:=
 Calls.Name_function_global I.ok.kind hg (Calls.loadGlobal_global (by rw[I.ok.glob];exact I.mod.glob.keeps I.bk) hm h) hd
theorem Rm{E:Value->Shared->Prop}{pins:List (Addr×Obj)}{s:Shared}{σ:St}{H:Hp}{x:Str}{u:Value}{pos:Pos}{Q:Value->Shared->Prop}(I:Inv X pins σ H s)(hg:Gl X x)(hm:X.mg x=none)(hv:bootBuiltins x=some u)(h:Q u s)
  (hn:x≠"__name__":=by decide) (hd:(x==("__debug__":Str))=false:=by decide):wpAny (model X.prog X.w) X.A (eval (.Name x pos) X.env) Q E s:=by
 obtain⟨mb,h1,h2⟩:=I.mod.blt
 exact Calls.Name_function_global I.ok.kind hg (Calls.loadGlobal_builtin (by rw[I.ok.glob];exact I.mod.glob.keeps I.bk) hm (by rw[I.ok.blt];exact h1.keeps I.bk) ((h2 x hn).trans hv) h) hd
theorem Ak{x:Str}{v:V}{u:Value}{pos:Pos}(hg:Gl X x)(hm:X.mg x=some u)(r:Zw v u)(hd:(x==("__debug__":Str))=false:=by decide):PE X (.Name x pos) (tC v):=
 fun _ _ _ H _ I h=>Jj I hg hm ⟨v,H,I,r,h⟩ hd
theorem Nh{x:Str}{v:V}{u:Value}{pos:Pos}(hg:Gl X x)(hm:X.mg x=none)(hv:bootBuiltins x=some u)(r:Zw v u)(hn:x≠"__name__":=by decide)(hd:(x==("__debug__":Str))=false:=by decide):PE X (.Name x pos) (tC v):=
 fun _ _ _ H _ I h=>Rm I hg hm hv ⟨v,H,I,r,h⟩ hn hd
variable{a b:Expr}{ta tb:TE}{pos:Pos}
noncomputable def PC(X:Cx)(op:CmpOp)(a b:Expr)(t:TE):Prop:=
 ∀(pins:List (Addr×Obj)) (s:Shared) (σ:St) (H:Hp) (Q:VK),Inv X pins σ H s->t σ H Q->
  wpAny (model X.prog X.w) X.A (eval a X.env) (fun v s₁=>wpAny (model X.prog X.w) X.A (eval b X.env) (fun u s₂=>wpAny (model X.prog X.w) X.A (compareOp op v u) (EP X pins σ Q) X.xe s₂) X.xe s₁) X.xe s
noncomputable def tB(t:TE):TT:=fun σ H Q=>t σ H fun x H1=>∃c,x= .bl c/\Q c H1
theorem Zhs{op:CmpOp}{t:TE}(h:PC X op a b t)(h1:behindInMarks op b=false:=by first|exact nobehind _ (by decide) (by decide)|rfl):PT X (.Compare a [op] [b] pos) (tB t):=by
 intro pins s σ H Q I hw
 refine wpAny_isTrue_Compare1 (Y3 (h pins s σ H _ I hw) fun v s1 h1=>Y3 h1 fun u s2 h2=>Y3 h2 fun c s3 ⟨x,H1,I1,r1,q1⟩=>?_) h1
 obtain⟨d,rfl,q⟩:=q1
 cases r1
 exact wpAny_truthy_bool ⟨H1,I1,q⟩
theorem X6{e:Expr}{t:TE}(h:PE X e t)(he:∀whole,isTrue e X.env whole=(do let v<-whole;standAt e.pos;holding [v] (truthy v)):=by intro _;rfl):PT X e (tB t):=by
 intro pins s σ H Q I hw
 refine isTrue_plain (Y3 (h pins s σ H _ I hw) fun v s1 ⟨x,H1,I1,r1,q1⟩=>?_) (he _)
 obtain⟨d,rfl,q⟩:=q1
 cases r1
 exact wpAny_truthy_bool ⟨H1,I1,q⟩
variable{tA tB':TT}{rest:List Expr}
noncomputable def Zlo(t u:TT):TT:=fun σ H Q=>t σ H fun c H1=>if c=true then u σ H1 Q else Q false H1
noncomputable def tOr(t u:TT):TT:=fun σ H Q=>t σ H fun c H1=>if c=true then Q true H1 else u σ H1 Q
noncomputable def Zlp(t:TT):TT:=fun σ H Q=>t σ H fun c H1=>Q (!c) H1
theorem Zc1(ha:PT X a tA):PW X (.BoolOp .And [a] pos) tA:=by
 intro wh pins s σ H Q I h
 refine isTrue_and (Y3 (ha pins s σ H Q I h) fun c s1 e=>?_)
 cases c with
 |true=>exact isTrue_and_nil e
 |false=>exact e
theorem Zht(ha:PT X a tA):PW X (.BoolOp .Or [a] pos) tA:=by
 intro wh pins s σ H Q I h
 refine isTrue_or (Y3 (ha pins s σ H Q I h) fun c s1 e=>?_)
 cases c with
 |false=>exact isTrue_or_nil e
 |true=>exact e
theorem Zhu(ha:PT X a tA)(hb:PW X (.BoolOp .And (b::rest) pos) tB'):PW X (.BoolOp .And (a::b::rest) pos) (Zlo tA tB'):=by
 intro wh pins s σ H Q I h
 refine isTrue_and (Y3 (ha pins s σ H _ I h) fun c s1 zq9=>?_)
 obtain⟨H1,I1,q1⟩:=zq9
 cases c with
 |true=>exact hb wh pins s1 σ H1 Q I1 q1
 |false=>exact⟨H1,I1,q1⟩
theorem Zlq(ha:PT X a tA)(hb:PW X (.BoolOp .Or (b::rest) pos) tB'):PW X (.BoolOp .Or (a::b::rest) pos) (tOr tA tB'):=by
 intro wh pins s σ H Q I h
 refine isTrue_or (Y3 (ha pins s σ H _ I h) fun c s1 zq9=>?_)
 obtain⟨H1,I1,q1⟩:=zq9
 cases c with
 |true=>exact⟨H1,I1,q1⟩
 |false=>exact hb wh pins s1 σ H1 Q I1 q1
theorem X7(ha:PT X a tA):PT X (.UnaryOp .Not a pos) (Zlp tA):=by
 intro pins s σ H Q I h
 exact isTrue_not (ha pins s σ H (fun c H1=>Q (!c) H1) I h)
noncomputable def Zf7(ta tb:TE):TE:=fun σ H Q=>ta σ H fun x H1=>∃c,x= .bl c/\if c=true then tb σ H1 Q else Q (.bl false) H1
noncomputable def Zf8(ta:TE):TE:=fun σ H Q=>ta σ H fun x H1=>∃c,x= .bl c/\Q (.bl (!c)) H1
theorem Zhv{op} {t:TE} (h:PE X a t):PE X (.BoolOp op [a] pos) t:=fun pins s σ H Q I hw=>BoolOp_one (h pins s σ H Q I hw)
theorem Zhw(ha:PE X a ta)(hb:PE X (.BoolOp .And (b::rest) pos) tb):PE X (.BoolOp .And (a::b::rest) pos) (Zf7 ta tb):=by
 intro pins s σ H Q I h
 refine BoolOp_and (Y3 (ha pins s σ H _ I h) fun v s1 zq9=>?_)
 obtain⟨x,H1,I1,r1,q1⟩:=zq9
 obtain⟨c,rfl,q1⟩:=q1
 cases r1
 refine wpAny_truthy_bool ?_
 cases c with
 |true=>exact hb pins s1 σ H1 Q I1 q1
 |false=>exact⟨.bl false,H1,I1,rfl,q1⟩
theorem Zhx(ha:PE X a ta):PE X (.UnaryOp .Not a pos) (Zf8 ta):=by
 intro pins s σ H Q I h
 refine UnaryOp_ (Y3 (ha pins s σ H _ I h) fun v s1 zq9=>?_)
 obtain⟨x,H1,I1,r1,q1⟩:=zq9
 obtain⟨c,rfl,q1⟩:=q1
 cases r1
 exact not_of (wpAny_truthy_bool ⟨.bl (!c),H1,I1,rfl,q1⟩)
noncomputable def tIf(t:TT)(ta tb:TE):TE:=fun σ H Q=>t σ H fun c H1=>if c=true then ta σ H1 Q else tb σ H1 Q
theorem X8{c:Expr}(hc:PT X c tA)(ha:PE X a ta)(hb:PE X b tb):PE X (.IfExp c a b pos) (tIf tA ta tb):=by
 intro pins s σ H Q I h
 refine wpAny_IfExp (Y3 (hc pins s σ H _ I h) fun d s1 zq9=>?_)
 obtain⟨H1,I1,q1⟩:=zq9
 cases d with
 |true=>exact ha pins s1 σ H1 Q I1 q1
 |false=>exact hb pins s1 σ H1 Q I1 q1
end
noncomputable def Of(K:PySem.W.Frag)(H:Hp)(a:Addr)(xs:List V):Prop:=
 Rd H a (.lst xs)\/
  ∃(o:Obj) (its:Array Value) (n:Nat),K.lookup a=some o/\o.cls= .type "list"/\o.dict=none/\o.data= .seq its n/\its.size<=sizeLine/\Yb xs its.toList
noncomputable def Mu(K:PySem.W.Frag)(H:Hp)(a:Addr)(xs:List V):Prop:=
 Rd H a (.tup xs)\/
  ∃(o:Obj) (its:Array Value) (n:Nat),K.lookup a=some o/\o.cls= .type "tuple"/\o.data= .seq its n/\its.size<=sizeLine/\Yb xs its.toList
noncomputable def Zpt:Value->Option V
 | .none=>some .non
 | .bool b=>some (.bl b)
 | .int i _=>some (.int i)
 | .str x _=>some (.str x)
 | .bytes b _=>some (.byt b)
 | .float b _=>some (.flt b)
 | .ref a=>some (.ref a)
 | .type n=>some (.ty n)
 |_=>none
theorem Zw.abs{x:V}{u:Value}(r:Zw x u):Zpt u=some x:=by
 cases x with
 |non=>cases r;rfl
 |bl _=>cases r;rfl
 |int _=>obtain⟨t,rfl⟩:=r;rfl
 |str _=>obtain⟨t,rfl⟩:=r;rfl
 |byt _=>obtain⟨t,rfl⟩:=r;rfl
 |flt _=>obtain⟨t,rfl⟩:=r;rfl
 |ref _=>cases r;rfl
 |ty _=>cases r;rfl
theorem Zw.inj{x y:V}{u:Value}(r:Zw x u)(q:Zw y u):x=y:=Option.some.inj (r.abs.symm.trans q.abs)
theorem Yb.inj{xs:List V}:∀{ys:List V} {us:List Value},Yb xs us->Yb ys us->xs=ys:=by
 induction xs with
 |nil=>intro ys us h g;cases h;cases g;rfl
 |cons x xs ih=>
  intro ys us h g
  cases h with
  |cons r t=>
   cases g with
   |cons r' t'=>rw[r.inj r',ih t t']
section
variable{X:Cx}{pins:List (Addr×Obj)}{σ:St}{H:Hp}{s:Shared}{a:Addr}{xs ys:List V}
theorem Inv.list(I:Inv X pins σ H s)(h:Of X.K H a xs):∃its:List Value,Yb xs its/\PlainL s.heap a its.toArray/\xs.length<=sizeLine:=by
 rcases h with h|⟨o,its,n,hk,hc,hd,hs,hz,r⟩
 ·obtain⟨z,its,n,r,e⟩:=h.ok I.hok
  exact⟨its,r,⟨_,n,e,rfl,rfl,rfl⟩,z⟩
 ·refine⟨its.toList,r,⟨o,n,I.kIn a o hk,hc,hd,by simpa using hs⟩,?_⟩
  have e:=r.length
  simp only[Array.length_toList]at e
  omega
theorem Inv.tuple(I:Inv X pins σ H s)(h:Mu X.K H a xs):∃its:List Value,Yb xs its/\IsTup s.heap a its.toArray/\xs.length<=sizeLine:=by
 rcases h with h|⟨o,its,n,hk,hc,hs,hz,r⟩
 ·obtain⟨z,its,r,p⟩:=h.ok I.hok
  exact⟨its,r,p,z⟩
 ·refine⟨its.toList,r,⟨o,I.kIn a o hk,hc,n,by simpa using hs⟩,?_⟩
  have e:=r.length
  simp only[Array.length_toList]at e
  omega
theorem Inv.list_inj(I:Inv X pins σ H s)(h:Of X.K H a xs)(h':Of X.K H a ys):xs=ys:=by
 obtain⟨its,r,⟨o,n,e,_,_,d⟩,_⟩:=I.list h
 obtain⟨its',r',⟨o',n',e',_,_,d'⟩,_⟩:=I.list h'
 rw[e]at e';cases e'
 rw[d]at d'
 injection d' with d1 _
 have:its=its':=by simpa using congrArg Array.toList d1
 subst this
 exact r.inj r'
theorem Inv.tuple_inj(I:Inv X pins σ H s)(h:Mu X.K H a xs)(h':Mu X.K H a ys):xs=ys:=by
 obtain⟨its,r,⟨o,e,_,n,d⟩,_⟩:=I.tuple h
 obtain⟨its',r',⟨o',e',_,n',d'⟩,_⟩:=I.tuple h'
 rw[e]at e';cases e'
 rw[d]at d'
 injection d' with d1 _
 have:its=its':=by simpa using congrArg Array.toList d1
 subst this
 exact r.inj r'
end
noncomputable abbrev Cx.wish(X:Cx)(E:Value->Shared->Prop):Cx:={X with xe:=E}
noncomputable abbrev Cx.nox(X:Cx):Cx:=X.wish fun _ _=>False
theorem Cx.Ok.wish{X:Cx}(ok:X.Ok)(E:Value->Shared->Prop):(X.wish E).Ok:=
 ⟨ok.mod,ok.kind,ok.glob,ok.blt,ok.above,ok.inj,ok.has,ok.cab,ok.hd,ok.frames,ok.stk,ok.exf,ok.bs,ok.bsz,ok.noex,ok.exfs,ok.funs,ok.frf⟩
theorem Cx.Ok.unwish{X:Cx}{E:Value->Shared->Prop}(ok:(X.wish E).Ok):X.Ok:=
 ⟨ok.mod,ok.kind,ok.glob,ok.blt,ok.above,ok.inj,ok.has,ok.cab,ok.hd,ok.frames,ok.stk,ok.exf,ok.bs,ok.bsz,ok.noex,ok.exfs,ok.funs,ok.frf⟩
section
variable{X:Cx}{pins:List (Addr×Obj)}{σ:St}{H:Hp}{s:Shared}{E:Value->Shared->Prop}
theorem Inv.wish(I:Inv X pins σ H s)(E:Value->Shared->Prop):Inv (X.wish E) pins σ H s:=⟨I.ok.wish E,I.os,I.bare,I.base,I.loc,I.cell,I.free,I.freeC,I.pin,I.hok,I.len⟩
theorem Inv.unwish(I:Inv (X.wish E) pins σ H s):Inv X pins σ H s:=⟨I.ok.unwish,I.os,I.bare,I.base,I.loc,I.cell,I.free,I.freeC,I.pin,I.hok,I.len⟩
theorem SP.unwish{D:Ends}{f:Flow}{s':Shared}(h:SP (X.wish E) pins D f s'):SP X pins D f s':=by
 cases f with
 |next=>obtain⟨σ',H',I,q⟩:=h;exact⟨σ',H',I.unwish,q⟩
 |brk=>obtain⟨σ',H',I,q⟩:=h;exact⟨σ',H',I.unwish,q⟩
 |cont=>obtain⟨σ',H',I,q⟩:=h;exact⟨σ',H',I.unwish,q⟩
 |ret u=>obtain⟨v,σ',H',I,r,q⟩:=h;exact⟨v,σ',H',I.unwish,r,q⟩
theorem Ob.nox{st:List Stmt}{t:TS}(h:Ob X.nox st t):Ob X st t:=fun pins s σ H D I hw=>
 wpAny_mono (h pins s σ H D (I.wish _) hw) (fun _ _ q=>q.unwish) fun _ _ z=>False.elim z
end
section
variable{X:Cx}{st:Stmt}{rest:List Stmt}{t u:TS}{e:Expr}{te:TE}{pos:Pos}
noncomputable def Zf9:TS:=fun D σ H=>D.nx σ H
noncomputable def Zlr(t u:TS):TS:=fun D σ H=>t {D with nx:=u D} σ H
theorem Zc2:Ob X [] Zf9:=fun _ _ σ H _ I h=>wpAny_execs_nil ⟨σ,H,I,h⟩
theorem X9(h1:PS X st t)(h2:Ob X rest u):Ob X (st::rest) (Zlr t u):=by
 intro pins s σ H D I h
 refine wpAny_execs_cons (Y3 (h1 pins s σ H {D with nx:=u D} I h) fun f s1 q=>?_)
 cases f with
 |next=>
  obtain⟨σ',H',I',q⟩:=q
  exact h2 pins s1 σ' H' D I' q
 |ret v=>exact q
 |brk=>exact q
 |cont=>exact q
theorem Ni(h1:PS X st t):Ob X [st] t:=by
 intro pins s σ H D I h
 refine wpAny_execs_cons (Y3 (h1 pins s σ H D I h) fun f s1 q=>?_)
 cases f with
 |next=>exact wpAny_execs_nil q
 |ret v=>exact q
 |brk=>exact q
 |cont=>exact q
theorem Inv.quiet{pins:List (Addr×Obj)}{σ:St}{H:Hp}{s:Shared}(I:Inv X pins σ H s):interactive X.env=false:=by simp[interactive,I.ok.kind]
noncomputable def M5(te:TE):TS:=fun D σ H=>te σ H fun _ H1=>D.nx σ H1
theorem Al(he:PE X e te)(hs:swapsWith e none pos.line X.env=pure false:=by rfl):PS X (.Expr e pos) (M5 te):=by
 intro pins s σ H D I h
 exact wpAny_Expr_any (Y3 (he pins s σ H _ I h) fun v s1 ⟨x,H1,I1,r1,q1⟩=>⟨σ,H1,I1,q1⟩) I.quiet hs
noncomputable def Zc3(te:TE):TS:=fun D σ H=>te σ H D.rt
theorem Kp(he:PE X e te):PS X (.Return (some e) pos) (Zc3 te):=by
 intro pins s σ H D I h
 exact wpAny_Return_some (Y3 (he pins s σ H _ I h) fun v s1 ⟨x,H1,I1,r1,q1⟩=>⟨x,σ,H1,I1,r1,q1⟩)
noncomputable def Zhy(c:TT)(t u:TS):TS:=fun D σ H=>c σ H fun b H1=>if b=true then t D σ H1 else u D σ H1
theorem Ha{c:Expr}{a b:List Stmt}{tc:TT}(hc:PT X c tc)(ha:Ob X a t)(hb:Ob X b u):PS X (.If c a b pos) (Zhy tc t u):=by
 intro pins s σ H D I h
 refine wpAny_If (Y3 (hc pins s σ H _ I h) fun d s1 zq9=>?_)
 obtain⟨H1,I1,q1⟩:=zq9
 cases d with
 |true=>exact ha pins s1 σ H1 D I1 q1
 |false=>exact hb pins s1 σ H1 D I1 q1
noncomputable def Zhz:TS:=fun _ _ _=>False
theorem Hb:PS X st Zhz:=fun _ _ _ _ _ _ h=>h.elim
end
noncomputable abbrev TG:=V->St->Hp->(St->Hp->Prop)->Prop
noncomputable abbrev TGs:=List V->St->Hp->(St->Hp->Prop)->Prop
noncomputable def PG(X:Cx)(target:Expr)(t:TG):Prop:=
 ∀(pins:List (Addr×Obj)) (s:Shared) (σ:St) (H:Hp) (v:V) (u:Value) (Q:St->Hp->Prop),Inv X pins σ H s->Zw v u->t v σ H Q->
  wpAny (model X.prog X.w) X.A (assign target X.env u) (fun _ s'=>∃σ' H',Inv X pins σ' H' s'/\Q σ' H') X.xe s
noncomputable def Hc(X:Cx)(ts:List Expr)(t:TGs):Prop:=
 ∀(pins:List (Addr×Obj)) (s:Shared) (σ:St) (H:Hp) (vs:List V) (us:List Value) (Q:St->Hp->Prop),Inv X pins σ H s->Yb vs us->t vs σ H Q->
  wpAny (model X.prog X.w) X.A (assignInOrder ((assignEach ts X.env).map (·.2)) us) (fun _ s'=>∃σ' H',Inv X pins σ' H' s'/\Q σ' H') X.xe s
section
variable{X:Cx}{pos:Pos}
noncomputable def Rn(i:Nat):TG:=fun v σ H Q=>Q (σ.set i (some v)) H
theorem Zc5{i:Nat}{x:Str}(hN:X.N.Nodup)(hi:X.N[i]? =some x)(hx:Loc X.env.scope x)(hf:X.fn x=true\/X.env.scope.names.lookup x=some .local:=by first|exact .inl rfl|exact .inr rfl|assumption):PG X (.Name x pos) (Rn i):=by
 intro pins s σ H v u Q I r h
 exact wpAny_assign_Name (Rl I hN hi hx r (fun s' I'=>⟨_,H,I',h⟩) hf)
noncomputable def Zls:TGs:=fun vs σ H Q=>vs=[]/\Q σ H
noncomputable def Zga(t:TG)(u:TGs):TGs:=fun vs σ H Q=>∃v r,vs=v::r/\t v σ H fun σ' H'=>u r σ' H' Q
theorem Zc6:Hc X [] Zls:=by
 intro pins s σ H vs us Q I r h
 obtain⟨e,h⟩:=h
 subst e
 cases r
 exact assignInOrder_nil ⟨σ,H,I,h⟩
theorem He{e:Expr}{es:List Expr}{t:TG}{u:TGs}(h1:PG X e t)(h2:Hc X es u)
  (hs:(assignEach (e::es) X.env).map (·.2)=assign e X.env::(assignEach es X.env).map (·.2):=by rfl):Hc X (e::es) (Zga t u):=by
 intro pins s σ H vs us Q I r h
 obtain⟨v,vr,e1,h⟩:=h
 subst e1
 cases r with
 |cons r rr=>
  rw[hs]
  refine assignInOrder_cons (Y3 (h1 pins s σ H _ _ _ I r h) fun _ s1 zq9=>?_)
  obtain⟨σ1,H1,I1,q1⟩:=zq9
  exact h2 pins s1 σ1 H1 _ _ Q I1 rr q1
noncomputable def Zlt(K:PySem.W.Frag)(n:Nat)(t:TGs):TG:=fun v σ H Q=>∃a xs,v= .ref a/\Mu K H a xs/\xs.length=n/\t xs σ H Q
theorem Zh0{es:List Expr}{k:Nat}{t:TGs}{n:Nat}(hc:X.calm=true)(h:Hc X es t)
  (hn:(assignEach es X.env).length=n:=by rfl) (hst:(assignEach es X.env).findIdx? (·.1)=none:=by rfl):PG X (.Tuple es k pos) (Zlt X.K n t):=by
 intro pins s σ H v u Q I r hw
 obtain⟨a,xs,e1,hq,hl,hw⟩:=hw
 subst e1
 cases r
 obtain⟨its,rv,ht,hz⟩:=I.tuple hq
 refine assign_Tuple_tuple (I.ok.hd hc) ht (by simp[hn,<-hl,rv.length]) hst fun h' hx=>?_
 have I1:Inv X pins σ H {s with heap:=h'}:=I.kept (t':=s.toks) fun b o e=>hx b o (Nat.ne_of_lt (Heap.lt_size e)) e
 exact h pins _ σ H xs _ Q I1 (by simpa using rv) hw
noncomputable def S6(te:TE)(g:TG):TS:=fun D σ H=>te σ H fun x H1=>g x σ H1 D.nx
theorem Am{i:Nat}{x:Str}{e:Expr}{te:TE}{pos':Pos}(hN:X.N.Nodup)(hi:X.N[i]? =some x)(hx:Loc X.env.scope x)(he:PE X e te)(hs:swapsWith e (some (.Name x pos')) pos.line X.env=pure false:=by rfl)(hf:X.fn x=true\/X.env.scope.names.lookup x=some .local:=by first|exact .inl rfl|exact .inr rfl|assumption):
  PS X (.Assign [.Name x pos'] e pos) (S6 te (Rn i)):=by
 intro pins s σ H D I h
 refine wpAny_Assign_Name (Y3 (he pins s σ H _ I h) fun v s1 ⟨y,H1,I1,r1,q1⟩=>?_) hs
 exact Rl I1 hN hi hx r1 (fun s2 I2=>⟨_,H1,I2,q1⟩) hf
noncomputable def Hf(c:TT)(tb:TS):TS:=fun D σ H=>∃W:Nat->St->Hp->Prop,(∃m,W m σ H)/\∀m σ H,W m σ H->
 c σ H fun b H1=>if b=true then∃N:St->Hp->Prop,(∀σ' H',N σ' H'->∃m',m'<m/\W m' σ' H')/\tb {D with nx:=N,ct:=N,bk:=D.nx} σ H1 else D.nx σ H1
theorem Hg{c:Expr}{body:List Stmt}{tc:TT}{tb:TS}(hp:PassesOwn (model X.prog X.w) X.A X.env X.xe)(hc:PT X c tc)(hb:Ob X body tb):PS X (.While c body [] pos) (Hf tc tb):=by
 intro pins s σ H D I h
 obtain⟨W,⟨m0,w0⟩,turn⟩:=h
 refine wpAny_While (codeAny_whileLoop (fun n s'=>∃σ' H',Inv X pins σ' H' s'/\W n σ' H') ?_ m0 ⟨σ,H,I,w0⟩)
 rintro n s1 ⟨σ1,H1,I1,w1⟩
 refine wpAny_passesOwn hp (Y3 (hc pins s1 σ1 H1 _ I1 (turn n σ1 H1 w1)) fun b s2 zq9=>?_)
 obtain⟨H2,I2,q2⟩:=zq9
 cases b with
 |true=>
  obtain⟨N,hN,q2⟩:=q2
  rw[if_pos rfl]
  refine wpAny_passesOwn hp (Y3 (hb pins s2 σ1 H2 _ I2 q2) fun f s3 q3=>?_)
  cases f with
  |next=>
   obtain⟨σ3,H3,I3,n3⟩:=q3
   obtain⟨m',hm,w3⟩:=hN σ3 H3 n3
   exact⟨m',hm,σ3,H3,I3,w3⟩
  |cont=>
   obtain⟨σ3,H3,I3,n3⟩:=q3
   obtain⟨m',hm,w3⟩:=hN σ3 H3 n3
   exact⟨m',hm,σ3,H3,I3,w3⟩
  |brk=>exact q3
  |ret v=>exact q3
 |false=>
  rw[if_neg Bool.false_ne_true]
  exact wpAny_execs_nil ⟨σ1,H2,I2,q2⟩
end
set_option genInjectivity false in
structure It where
 go:Nat->Hp->Prop
 yld:Nat->Hp->V->Hp->Prop
 stop:Nat->Hp->Prop
noncomputable def Gv(X:Cx)(pins:List (Addr×Obj))(H:Hp)(b:Addr):Prop:=
 H b=none/\b≠X.env.locals/\b∉X.fs/\(b∈X.ex\/X.s₀.heap.objs.size<=b)/\(∀x c,X.env.cells.lookup x=some c->c≠b)/\∀p∈X.pn++pins,p.1≠b
theorem Inv.fpOk{X:Cx}{pins:List (Addr×Obj)}{σ:St}{H H':Hp}{s:Shared}{b:Addr}(I:Inv X pins σ H s)(hb:s.heap.objs.size<=b)(hn:H' b=none):Gv X pins H' b:=by
 refine⟨hn,Nat.ne_of_gt (Nat.lt_of_lt_of_le I.lt hb),I.nofs hb,.inr (Nat.le_trans I.sz hb),fun x c e z=>?_,fun p hp z=>?_⟩
 ·obtain⟨v,q⟩:=I.cell x c e
  exact absurd (Nat.lt_of_lt_of_le q.lt (by rw[z];exact hb)) (Nat.lt_irrefl _)
 ·exact absurd (Nat.lt_of_lt_of_le (Heap.lt_size (I.pin p hp).1) (by rw[z];exact hb)) (Nat.lt_irrefl _)
structure Turn(P:Program)(w:World)(K:PySem.W.Frag)(tg:Expr)(J:It)(fp:List Addr)(it:Addr)(tn:Nat->Heap->Prop):Prop where
 mem:it∈fp
 obj:∀i h,tn i h->∀b∈fp,∃o,h.get? b=some o/\∀v,o.data≠.cell v
 keep:∀i h h',tn i h->(∀b∈fp,∀o,h.get? b=some o->h'.get? b=some o)->tn i h'
 item:∀(X:Cx),X.prog=P->X.w=w->X.K=K->X.calm=true->∀(i:Nat) (pins:List (Addr×Obj)) (s:Shared) (σ:St) (H:Hp) (E:Value->Shared->Prop),Inv X pins σ H s->(∀b∈fp,Gv X pins H b)->tn i s.heap->J.go i H->
  wpAny (model P w) X.A (pyNext (.ref it)) (fun r s1=>∃u,r=some u/\
   wpAny (model P w) X.A (letOwnedTupleGo tg (.ref it) u) (fun _ s2=>∃x H',Inv X pins σ H' s2/\Zw x u/\J.yld i H x H'/\tn (i+1) s2.heap/\∀b∈fp,H' b=none) E s1) E s
 done:∀(X:Cx),X.prog=P->X.w=w->X.K=K->X.calm=true->∀(i:Nat) (pins:List (Addr×Obj)) (s:Shared) (σ:St) (H:Hp) (E:Value->Shared->Prop),Inv X pins σ H s->(∀b∈fp,Gv X pins H b)->tn i s.heap->J.stop i H->
  wpAny (model P w) X.A (pyNext (.ref it)) (fun r s1=>r=none/\Inv X pins σ H s1) E s
 self:∀(A:Around) (i:Nat) (s:Shared) (Q:Value->Shared->Prop) (E:Value->Shared->Prop),tn i s.heap->Q (.ref it) s->wpAny (model P w) A (pyIter (.ref it)) Q E s
noncomputable abbrev TI:=St->Hp->(It->Hp->Prop)->Prop
noncomputable def PIE(X:Cx)(pins:List (Addr×Obj))(σ:St)(tg:Expr)(R:It->Hp->Prop)(itv:Value)(s2:Shared):Prop:=
 ∃(it:Addr) (fp:List Addr) (tn:Nat->Heap->Prop) (J:It) (H':Hp),itv= .ref it/\Inv X pins σ H' s2/\Turn X.prog X.w X.K tg J fp it tn/\tn 0 s2.heap/\(∀b∈fp,Gv X pins H' b)/\R J H'
noncomputable def PI(X:Cx)(tg iter:Expr)(wi:TI):Prop:=
 ∀(pins:List (Addr×Obj)) (s:Shared) (σ:St) (H:Hp) (R:It->Hp->Prop),Inv X pins σ H s->wi σ H R->
  wpAny (model X.prog X.w) X.A (eval iter X.env) (fun v s1=>wpAny (model X.prog X.w) X.A (pyIter v) (PIE X pins σ tg R) X.xe s1) X.xe s
theorem Nj{M:Model}{A:Around}{E:Value->Shared->Prop}{s:Shared}{tg:Expr}{it:Addr}{u:Value}{o:Obj}{n:String}{vs:Array Value}{Q:Unit->Shared->Prop}(ho:s.heap.get? it=some o)(hc:o.cls= .type n)(hd:o.data= .fields vs)
    (hn:["enumerate","zip","dict_itemiterator","dict_reverseitemiterator","odict_iterator","itertools.zip_longest","itertools.pairwise"].contains n=false) (hQ:Q () s):wpAny M A (letOwnedTupleGo tg (.ref it) u) Q E s:=by
  unfold letOwnedTupleGo
  cases tg<;> first
    |exact wpAny_pure hQ
    | (cases u<;> first
        |exact wpAny_pure hQ
        | (refine wpAny_bind (wpAny_load ho ?_)
           rw[hc,hd]
           show wpAny M A (if(["enumerate","zip","dict_itemiterator","dict_reverseitemiterator","odict_iterator","itertools.zip_longest","itertools.pairwise"].contains n&&vs[0]? ==some (rawInt _))=true then _ else _) Q E s
           rw[if_neg (by intro h;rw[hn,Bool.false_and]at h;cases h)]
           exact wpAny_pure hQ))
noncomputable def Itl(K:PySem.W.Frag)(a:Addr):It:=
 ⟨fun i H=>∃xs x,Of K H a xs/\xs[i]? =some x,fun i H x H'=>H'=H/\∀xs,Of K H a xs->xs[i]? =some x,fun i H=>∃xs,Of K H a xs/\xs.length<=i⟩
noncomputable def Itt(K:PySem.W.Frag)(a:Addr):It:=
 ⟨fun i H=>∃xs x,Mu K H a xs/\xs[i]? =some x,fun i H x H'=>H'=H/\∀xs,Mu K H a xs->xs[i]? =some x,fun i H=>∃xs,Mu K H a xs/\xs.length<=i⟩
noncomputable def Itr(lo:Int)(n:Nat):It:=⟨fun i _=>i<n,fun i H x H'=>H'=H/\x= .int (lo+i),fun i _=>n<=i⟩
theorem S7{P:Program}{w:World}{K:PySem.W.Frag}{tg:Expr}(a it:Addr):Turn P w K tg (Itl K a) [it] it (fun i h=>h.IsListIter it a i)where
 mem:=by simp
 obj:=fun i h st b hb=>by
  have e:b=it:=by simpa using hb
  subst e
  obtain⟨o,e,c,d⟩:=st
  exact⟨o,e,fun v z=>by rw[d]at z;cases z⟩
 keep:=fun i h h' st k=>st.at fun o e=>k it (by simp) o e
 item:=by
  intro X hP hw hK hc i pins s σ H E I hf st hg
  subst hP hw hK
  obtain⟨xs,x,hq,hx⟩:=hg
  obtain⟨its,rv,p,hz⟩:=I.list hq
  obtain⟨u,hu,ru⟩:=rv.get hx
  obtain⟨f0,f1,f2,f3,f4,f5⟩:=hf it (by simp)
  refine wpAny_pyNext_list_item st p.isList (x:=u) (by simpa using hu) fun h' st' sb=>?_
  have I1:Inv X pins σ H {s with heap:=h'}:=I.turned (t':=s.toks) (fun b o hb e=>(sb.2 b hb).trans e) f0 f1 f3 f4 f5
  obtain⟨o,e,c,d⟩:=id st'
  exact⟨u,rfl,Nj (s:={s with heap:=h'}) e c d (by decide) ⟨x,H,I1,ru,⟨rfl,fun ys hy=>by rw[I.list_inj hy hq];exact hx⟩,st',fun b hb=>(hf b hb).1⟩⟩
 done:=by
  intro X hP hw hK hc i pins s σ H E I hf st hg
  subst hP hw hK
  obtain⟨xs,hq,hx⟩:=hg
  obtain⟨its,rv,p,hz⟩:=I.list hq
  obtain⟨f0,f1,f2,f3,f4,f5⟩:=hf it (by simp)
  have hl:=rv.length
  exact wpAny_pyNext_list_end (I.ok.hd hc) st p.isList (by simp;omega) fun h' eb=>⟨rfl,I.turned (t':=s.toks) (fun b o hb e=>eb b o hb e) f0 f1 f3 f4 f5⟩
 self:=fun _ _ _ _ _ st h=>wpAny_pyIter_listiter st h
theorem Kq{P:Program}{w:World}{K:PySem.W.Frag}{tg:Expr}(a it:Addr):Turn P w K tg (Itt K a) [it] it (fun i h=>h.IsTupleIter it a i)where
 mem:=by simp
 obj:=fun i h st b hb=>by
  have e:b=it:=by simpa using hb
  subst e
  obtain⟨o,e,c,d⟩:=st
  exact⟨o,e,fun v z=>by rw[d]at z;cases z⟩
 keep:=fun i h h' st k=>st.at fun o e=>k it (by simp) o e
 item:=by
  intro X hP hw hK hc i pins s σ H E I hf st hg
  subst hP hw hK
  obtain⟨xs,x,hq,hx⟩:=hg
  obtain⟨its,rv,p,hz⟩:=I.tuple hq
  obtain⟨u,hu,ru⟩:=rv.get hx
  obtain⟨f0,f1,f2,f3,f4,f5⟩:=hf it (by simp)
  refine wpAny_pyNext_tuple_item st (show s.heap.IsTuple a its.toArray from p) (x:=u) (by simpa using hu) fun h' st' sb=>?_
  have I1:Inv X pins σ H {s with heap:=h'}:=I.turned (t':=s.toks) (fun b o hb e=>(sb.2 b hb).trans e) f0 f1 f3 f4 f5
  obtain⟨o,e,c,d⟩:=id st'
  exact⟨u,rfl,Nj (s:={s with heap:=h'}) e c d (by decide) ⟨x,H,I1,ru,⟨rfl,fun ys hy=>by rw[I.tuple_inj hy hq];exact hx⟩,st',fun b hb=>(hf b hb).1⟩⟩
 done:=by
  intro X hP hw hK hc i pins s σ H E I hf st hg
  subst hP hw hK
  obtain⟨xs,hq,hx⟩:=hg
  obtain⟨its,rv,p,hz⟩:=I.tuple hq
  obtain⟨f0,f1,f2,f3,f4,f5⟩:=hf it (by simp)
  have hl:=rv.length
  exact wpAny_pyNext_tuple_end (I.ok.hd hc) st (show s.heap.IsTuple a its.toArray from p) (by simp;omega) fun h' eb=>⟨rfl,I.turned (t':=s.toks) (fun b o hb e=>eb b o hb e) f0 f1 f3 f4 f5⟩
 self:=fun _ _ _ _ _ st h=>wpAny_pyIter_tupleiter st h
theorem Kr{P:Program}{w:World}{K:PySem.W.Frag}{tg:Expr}(it:Addr)(lo:Int)(n:Nat):Turn P w K tg (Itr lo n) [it] it (fun i h=>IsRangeIter h it (lo+(i:Nat)*1) ((n:Int)- (i:Nat)) 1)where
 mem:=by simp
 obj:=fun i h st b hb=>by
  have e:b=it:=by simpa using hb
  subst e
  exact⟨_,st,fun v z=>by
   have z':Data.fields _=Data.cell v:=z
   cases z'⟩
 keep:=fun i h h' st k=>k it (by simp) _ st
 item:=by
  intro X hP hw hK hc i pins s σ H E I hf st hg
  subst hP hw hK
  obtain⟨f0,f1,f2,f3,f4,f5⟩:=hf it (by simp)
  have W:=Walks.range (prog:=X.prog) (w:=X.w) (I.ok.hd hc) it lo 1 n
  refine W.item i s _ _ hg st fun v h' tk hv st' kk=>?_
  obtain⟨t,rfl⟩:=hv
  have I1:Inv X pins σ H {s with heap:=h',toks:=tk}:=I.turned (fun b o hb e=>kk b o (by simpa using hb) e) f0 f1 f3 f4 f5
  refine⟨_,rfl,Nj (s:={s with heap:=h',toks:=tk}) (n:="range_iterator") st' rfl rfl (by decide) ⟨.int (lo+i),H,I1,⟨t,?_⟩,⟨rfl,rfl⟩,st',fun b hb=>(hf b hb).1⟩⟩
  rw[Int.mul_one]
 done:=by
  intro X hP hw hK hc i pins s σ H E I hf st hg
  subst hP hw hK
  obtain⟨f0,f1,f2,f3,f4,f5⟩:=hf it (by simp)
  exact wpAny_pyNext_range_end (I.ok.hd hc) st (by have:n<=i:=hg;omega) fun h' eb=>⟨rfl,I.turned (t':=s.toks) (fun b o hb e=>eb b o hb e) f0 f1 f3 f4 f5⟩
 self:=fun _ _ _ _ _ st h=>wpAny_pyIter_rangeiter st h
section
variable{X:Cx}{tg:Expr}
theorem Hh{pins:List (Addr×Obj)}{σ:St}{H:Hp}{s:Shared}{R:It->Hp->Prop}{E:Value->Shared->Prop}{lo hi:Int}{t u v:Tok}{tk:Nat}(I:Inv X pins σ H s)(h1:-(2^62)<=lo)(h2:lo<2^62)(h3:-(2^62)<=hi)(h4:hi<2^62)
  (q:R (Itr lo (hi- lo).toNat) H):wpAny (model X.prog X.w) X.A (pyIter (.ref s.heap.objs.size)) (PIE X pins σ tg R) E {s with heap:=s.heap.push {cls:=.type "range",data:=.fields #[.int lo t,.int hi u,.int 1 v]},toks:=tk}:=by
 refine wpAny_pyIter_range (IsRange.new ..) (small_one h1 h2 h3 h4) ?_
 have I1:Inv X pins σ H {s with heap:=s.heap.push {cls:=.type "range",data:=.fields #[.int lo t,.int hi u,.int 1 v]},toks:=tk}:=I.kept fun b o e=>Heap.get?_push_of_some _ e
 refine⟨(s.heap.push {cls:=.type "range",data:=.fields #[.int lo t,.int hi u,.int 1 v]}).objs.size,[(s.heap.push {cls:=.type "range",data:=.fields #[.int lo t,.int hi u,.int 1 v]}).objs.size],_,_,H,rfl,
  I1.kept (t':=tk) fun b o e=>Heap.get?_push_of_some _ e,Kr _ lo (hi- lo).toNat,?_,fun b hb=>?_,q⟩
 ·have e1:lo+((0:Nat):Int)*1=lo:=by simp
  have e2:(((hi- lo).toNat:Nat):Int)- ((0:Nat):Int)=Builtin.Range.rangeSize lo hi 1:=by rw[rangeSize_one];split<;> omega
  show IsRangeIter _ _ (lo+((0:Nat):Int)*1) ((((hi- lo).toNat:Nat):Int)- ((0:Nat):Int)) 1
  rw[e1,e2]
  exact Heap.get?_push_size _ rfl
 ·have e:b=(s.heap.push {cls:=.type "range",data:=.fields #[.int lo t,.int hi u,.int 1 v]}).objs.size:=by simpa using hb
  subst e
  exact I1.fpOk (Nat.le_refl _) (I1.hok.fresh (Nat.le_refl _))
noncomputable def Zgb(ta:TA):TI:=fun σ H R=>ta σ H fun vs H1=>∃j:Int,vs=[.int j]/\-(2^62)<=j/\j<2^62/\R (Itr 0 j.toNat) H1
theorem S8{a:Expr}{ta:TA}{p pos:Pos}(hg:Gl X "range")(hm:X.mg "range"=none)(ha:PA X [a] ta)(hs:starEach [a] X.env=[(false,eval a X.env)]:=by rfl):PI X tg (.Call (.Name "range" p) [a] [] pos) (Zgb ta):=by
 intro pins s σ H R I h
 refine Call_ (Rm I hg hm boot_range (PyProof.Rows.callWith_type1 (Y3 (ha pos pins s σ H _ I h) fun us s1 ⟨vs,H1,I1,r1,q1⟩=>?_) hs rfl))
 obtain⟨j,e,q1,q2,q⟩:=q1
 subst e
 cases r1 with
 |cons r rr=>
  cases rr
  obtain⟨t,rfl⟩:=r
  exact call_range_1 (Hh I1 (by omega) (by omega) q1 q2 (by simpa using q))
noncomputable def Zlu(wi:TI)(g:TG)(tb:TS):TS:=fun D σ H=>wi σ H fun J H1=>∃W:Nat->Nat->St->Hp->Prop,(∃m,W 0 m σ H1)/\∀i m σ H,W i m σ H->
 (J.stop i H/\D.nx σ H)\/(J.go i H/\∃N:St->Hp->Prop,(∀σ' H',N σ' H'->∃m',m'<m/\W (i+1) m' σ' H')/\∀x H',J.yld i H x H'->g x σ H' fun σ2 H2=>tb {D with nx:=N,ct:=N,bk:=D.nx} σ2 H2)
noncomputable def Ro(fp:List Addr)(h:Heap):List (Addr×Obj):=fp.filterMap fun b=>(h.get? b).map fun o=>(b,o)
theorem Uo{fp:List Addr}{h:Heap}{b:Addr}{o:Obj}(hb:b∈fp)(e:h.get? b=some o):(b,o)∈Ro fp h:=List.mem_filterMap.mpr ⟨b,hb,by rw[e];rfl⟩
theorem S9{fp:List Addr}{h:Heap}{p:Addr×Obj}(hp:p∈Ro fp h):p.1∈fp/\h.get? p.1=some p.2:=by
 obtain⟨b,hb,e⟩:=List.mem_filterMap.mp hp
 cases q:h.get? b with
 |none=>rw[q]at e;cases e
 |some o=>
  rw[q]at e
  have e':(b,o)=p:=Option.some.inj e
  subst e'
  exact⟨hb,q⟩
theorem Inv.pinned{pins:List (Addr×Obj)}{σ:St}{H:Hp}{s:Shared}{fp:List Addr}(I:Inv X pins σ H s)(hf:∀b∈fp,Gv X pins H b)(ho:∀b∈fp,∃o,s.heap.get? b=some o/\∀v,o.data≠.cell v):Inv X (pins++Ro fp s.heap) σ H s:=
 I.pins_of fun p hp=>(List.mem_append.mp hp).elim (fun z=>I.pin p (List.mem_append_right _ z)) fun z=>by
  obtain⟨hb,e⟩:=S9 z
  obtain⟨f0,f1,f2,_⟩:=hf p.1 hb
  obtain⟨o,e',d⟩:=ho p.1 hb
  rw[e]at e';cases e'
  exact⟨e,f0,f1,f2,d⟩
theorem Inv.unpinned{pins pl:List (Addr×Obj)}{σ:St}{H:Hp}{s:Shared}(I:Inv X (pins++pl) σ H s):Inv X pins σ H s:=I.pins_of fun p hp=>I.pin p (List.mem_append_right _ (List.mem_append_left _ hp))
theorem Zh1 {iter : Expr} {body : List Stmt} {wi : TI} {g : TG} {tb : TS} {pos : Pos} (hp : PassesOwn (model X.prog X.w) X.A X.env X.xe) (hc : X.calm = true) (hi : PI X tg iter wi) (hg : PG X tg g) (hb : Ob X body tb)
    (hs : ∀ x, foldedSetIterable iter X.env x = pure x := by intro _; rfl) : PS X (.For tg iter body [] pos) (Zlu wi g tb) := by
  intro pins s σ H D I h
  refine wpAny_For (Y3 (hi pins s σ H _ I h) fun v s1 h1 => Y3 h1 fun itv s2 h2 => ?_) hs
  obtain ⟨it, fp, tn, J, H2, e, I2, T, st2, f2, W, ⟨m0, w0⟩, turn⟩ := h2
  subst e
  -- what stays true of the iterator's objects through the loop
  have stat : ∀ {H' : Hp}, (∀ b ∈ fp, H' b = none) -> ∀ b ∈ fp, Gv X pins H' b := fun hn b hb => ⟨hn b hb, (f2 b hb).2⟩
  refine codeAny_forLoop_any (fun n s' => ∃ i σ' H', Inv X pins σ' H' s' /\ tn i s'.heap /\ (∀ b ∈ fp, H' b = none) /\ W i n σ' H') ?_ m0 ⟨0, σ, H2, I2, st2, fun b hb => (f2 b hb).1, w0⟩
  rintro n s3 ⟨i, σ3, H3, I3, st3, fr3, w3⟩
  rcases turn i n σ3 H3 w3 with ⟨stop, qn⟩ | ⟨go, N, hN, step⟩
  · refine wpAny_passesOwn hp (Y3 (T.done X rfl rfl rfl hc i pins s3 σ3 H3 X.xe I3 (stat fr3) st3 stop) fun r s4 ⟨hr, I4⟩ => ?_)
    subst hr
    exact wpAny_execs_nil ⟨σ3, H3, I4, qn⟩
  · refine wpAny_passesOwn hp (Y3 (T.item X rfl rfl rfl hc i pins s3 σ3 H3 X.xe I3 (stat fr3) st3 go) fun r s4 ⟨u, hr, h4⟩ => ?_)
    subst hr
    refine wpAny_passesOwn hp (Y3 h4 fun _ s5 zq9 => ?_)
    obtain ⟨x, H5, I5, r5, y5, st5, fr5⟩ := zq9
    have I5' := I5.pinned (stat fr5) (T.obj _ _ st5)
    refine wpAny_passesOwn hp (Y3 (hg _ s5 σ3 H5 x u _ I5' r5 (step x H5 y5)) fun _ s6 zq9 => ?_)
    obtain ⟨σ6, H6, I6, q6⟩ := zq9
    refine wpAny_passesOwn hp (Y3 (hb _ s6 σ6 H6 _ I6 q6) fun f s7 q7 => ?_)
    have again : ∀ {σ7 : St} {H7 : Hp}, Inv X (pins ++ Ro fp s5.heap) σ7 H7 s7 -> N σ7 H7 -> ∃ m, m < n /\ ∃ i σ' H', Inv X pins σ' H' s7 /\ tn i s7.heap /\ (∀ b ∈ fp, H' b = none) /\ W i m σ' H' := fun {σ7 H7} I7 n7 => by
      obtain ⟨m', hm, w7⟩ := hN σ7 H7 n7
      refine ⟨m', hm, i + 1, σ7, H7, I7.unpinned, T.keep _ _ _ st5 fun b hb o e => (I7.pin (b, o) (List.mem_append_right _ (List.mem_append_right _ (Uo hb e)))).1, fun b hb => ?_, w7⟩
      obtain ⟨o, e, d⟩ := T.obj _ _ st5 b hb
      exact (I7.pin (b, o) (List.mem_append_right _ (List.mem_append_right _ (Uo hb e)))).2.1
    cases f with
    | next => obtain ⟨σ7, H7, I7, n7⟩ := q7; exact again I7 n7
    | cont => obtain ⟨σ7, H7, I7, n7⟩ := q7; exact again I7 n7
    | brk => obtain ⟨σ7, H7, I7, q7⟩ := q7; exact ⟨σ7, H7, I7.unpinned, q7⟩
    | ret v => obtain ⟨x7, σ7, H7, I7, r7, q7⟩ := q7; exact ⟨x7, σ7, H7, I7.unpinned, r7, q7⟩
end
noncomputable abbrev R2:=V->V->Hp->VK->Prop
noncomputable def Jk(X:Cx)(f:Value->Value->Sem Value)(r:R2):Prop:=
 ∀(pins:List (Addr×Obj)) (s:Shared) (σ:St) (H:Hp) (x y:V) (v u:Value) (Q:VK),Inv X pins σ H s->Zw x v->Zw y u->r x y H Q->
  wpAny (model X.prog X.w) X.A (f v u) (EP X pins σ Q) X.xe s
noncomputable def UnR(X:Cx)(f:Value->Sem Value)(r:V->Hp->VK->Prop):Prop:=
 ∀(pins:List (Addr×Obj)) (s:Shared) (σ:St) (H:Hp) (x:V) (v:Value) (Q:VK),Inv X pins σ H s->Zw x v->r x H Q->
  wpAny (model X.prog X.w) X.A (f v) (EP X pins σ Q) X.xe s
noncomputable def Jl(X:Cx)(f:Value)(r:List V->Hp->VK->Prop):Prop:=
 ∀(pins:List (Addr×Obj)) (s:Shared) (σ:St) (H:Hp) (xs:List V) (us:List Value) (Q:VK),Inv X pins σ H s->Yb xs us->r xs H Q->
  wpAny (model X.prog X.w) X.A (call f us) (EP X pins σ Q) X.xe s
noncomputable def tOp(r:R2)(ta tb:TE):TE:=fun σ H Q=>ta σ H fun x H1=>tb σ H1 fun y H2=>r x y H2 Q
noncomputable def tUn(r:V->Hp->VK->Prop)(ta:TE):TE:=fun σ H Q=>ta σ H fun x H1=>r x H1 Q
noncomputable def rI(C:Int->Int->Prop)(g:Int->Int->V):R2:=fun x y H Q=>∃i j,x= .int i/\y= .int j/\C i j/\Q (g i j) H
noncomputable def Va(g:Int->Int->V):R2:=fun x y H Q=>∃i j,x= .int i/\y= .int j/\Q (g i j) H
noncomputable def rU(g:Int->V):V->Hp->VK->Prop:=fun x H Q=>∃i,x= .int i/\Q (g i) H
section
variable{X:Cx}{a b c:Expr}{ta tb tc:TE}{pos:Pos}
theorem Zh2(ha:PE X a ta)(hb:PE X b tb){pins:List (Addr×Obj)}{s:Shared}{σ:St}{H:Hp}{R:V->V->Hp->Prop}(I:Inv X pins σ H s)
  (h:ta σ H fun x H1=>tb σ H1 fun y H2=>R x y H2) {Q:Value->Shared->Prop} {f:Value->Value->Sem Value}
  (hf:∀v u s2 x y H2,Inv X pins σ H2 s2->Zw x v->Zw y u->R x y H2->wpAny (model X.prog X.w) X.A (f v u) Q X.xe s2):
  wpAny (model X.prog X.w) X.A (eval a X.env) (fun v s₁=>wpAny (model X.prog X.w) X.A (eval b X.env) (fun u s₂=>wpAny (model X.prog X.w) X.A (f v u) Q X.xe s₂) X.xe s₁) X.xe s:=by
 refine Y3 (ha pins s σ H _ I h) fun v s1 zq9=>?_
 obtain⟨x,H1,I1,r1,q1⟩:=zq9
 refine Y3 (hb pins s1 σ H1 _ I1 q1) fun u s2 zq9=>?_
 obtain⟨y,H2,I2,r2,q2⟩:=zq9
 exact hf v u s2 x y H2 I2 r1 r2 q2
theorem Zlv{op:Operator}{r:R2}(ho:Jk X (binaryOp op) r)(ha:PE X a ta)(hb:PE X b tb):PE X (.BinOp a op b pos) (tOp r ta tb):=by
 intro pins s σ H Q I h
 exact wpAny_BinOp (Zh2 ha hb I h fun v u s2 x y H2 I2 rx ry q=>ho pins s2 σ H2 x y v u Q I2 rx ry q)
theorem Zlw{op:UnaryOp}{r:V->Hp->VK->Prop}(ho:UnR X (unaryOp op) r)(ha:PE X a ta):PE X (.UnaryOp op a pos) (tUn r ta):=by
 intro pins s σ H Q I h
 exact UnaryOp_ (Y3 (ha pins s σ H _ I h) fun v s1 ⟨x,H1,I1,r1,q1⟩=>ho pins s1 σ H1 x v Q I1 r1 q1)
theorem opI{f:Value->Value->Sem Value}{C:Int->Int->Prop}{g:Int->Int->Int}
  (rule:∀(i j:Int) (t u:Tok) (s:Shared) (Q:Value->Shared->Prop) (E:Value->Shared->Prop),C i j->Q (.int (g i j) s.toks) {s with toks:=s.toks+1}->wpAny (model X.prog X.w) X.A (f (.int i t) (.int j u)) Q E s):
  Jk X f (rI C fun i j=>.int (g i j)):=by
 intro pins s σ H x y v u Q I rx ry h
 obtain⟨i,j,rfl,rfl,hc,q⟩:=h
 obtain⟨t,rfl⟩:=rx
 obtain⟨t',rfl⟩:=ry
 exact rule i j t t' s _ _ hc ⟨.int (g i j),H,I.tok _,⟨_,rfl⟩,q⟩
theorem Zlx{f:Value->Value->Sem Value}{g:Int->Int->Int}
  (rule:∀(i j:Int) (t u:Tok) (s:Shared) (Q:Value->Shared->Prop) (E:Value->Shared->Prop),Q (.int (g i j) s.toks) {s with toks:=s.toks+1}->wpAny (model X.prog X.w) X.A (f (.int i t) (.int j u)) Q E s):
  Jk X f (Va fun i j=>.int (g i j)):=by
 intro pins s σ H x y v u Q I rx ry h
 obtain⟨i,j,rfl,rfl,q⟩:=h
 obtain⟨t,rfl⟩:=rx
 obtain⟨t',rfl⟩:=ry
 exact rule i j t t' s _ _ ⟨.int (g i j),H,I.tok _,⟨_,rfl⟩,q⟩
theorem Zh3{f:Value->Value->Sem Value}{g:Int->Int->Bool}
  (rule:∀(i j:Int) (t u:Tok) (s:Shared) (Q:Value->Shared->Prop) (E:Value->Shared->Prop),Q (.bool (g i j)) s->wpAny (model X.prog X.w) X.A (f (.int i t) (.int j u)) Q E s):
  Jk X f (Va fun i j=>.bl (g i j)):=by
 intro pins s σ H x y v u Q I rx ry h
 obtain⟨i,j,rfl,rfl,q⟩:=h
 obtain⟨t,rfl⟩:=rx
 obtain⟨t',rfl⟩:=ry
 exact rule i j t t' s _ _ ⟨.bl (g i j),H,I,rfl,q⟩
noncomputable def Zly(i j:Int):Prop:=0<j/\j<1073741824
noncomputable def Zlz(i j:Int):Prop:=0<=j/\j<=1000000/\i.natAbs<2^64
noncomputable def Hi(i j:Int):Prop:=(-(2^64)<i/\i<2^64)\/(-(2^64)<j/\j<2^64)
theorem Hi.ok{i j:Int}(h:Hi i j):IntMulOk i j:=by
 rcases h with⟨h1,h2⟩|⟨h1,h2⟩
 ·exact .of_left (intBits_le_64 h1 h2)
 ·exact .of_right (intBits_le_64 h1 h2)
theorem Zh4:Jk X (binaryOp .Add) (Va fun i j=>.int (i+j)):=Zlx fun _ _ _ _ _ _ _ q=>add_int q
theorem Zh5:Jk X (binaryOp .Sub) (Va fun i j=>.int (i- j)):=Zlx fun _ _ _ _ _ _ _ q=>sub_int q
theorem Zh6:Jk X (binaryOp .Mult) (rI Hi fun i j=>.int (i*j)):=opI fun _ _ _ _ _ _ _ hc q=>mul_int q hc.ok
theorem Zc7:Jk X (binaryOp .FloorDiv) (rI Zly fun i j=>.int (i / j)):=opI fun i j _ _ _ _ _ hc q=>by
 have h1:(0:Int)<j:=hc.1
 have h2:j<1073741824:=hc.2
 exact floordiv_int (by omega) (by rw[Int.fdiv_eq_ediv_of_nonneg i (by omega)];exact q) (.inl (PyProof.noPylong_small (by omega)))
theorem Zh7:Jk X (binaryOp .Mod) (rI (fun _ j=>0<j) fun i j=>.int (i % j)):=opI fun i j _ _ _ _ _ hc q=>by
 have h1:(0:Int)<j:=hc
 exact mod_int' (by omega) (by rw[Int.fmod_eq_emod_of_nonneg i (by omega)];exact q)
theorem Zh8:Jk X (binaryOp .Pow) (rI Zlz fun i j=>.int (i^j.toNat)):=opI fun _ _ _ _ _ _ _ hc q=>pow_int_small hc.1 hc.2.1 hc.2.2 q
theorem unI{f:Value->Sem Value}{g:Int->Int}
  (rule:∀(i:Int) (t:Tok) (s:Shared) (Q:Value->Shared->Prop) (E:Value->Shared->Prop),Q (.int (g i) s.toks) {s with toks:=s.toks+1}->wpAny (model X.prog X.w) X.A (f (.int i t)) Q E s):
  UnR X f (rU fun i=>.int (g i)):=by
 intro pins s σ H x v Q I rx h
 obtain⟨i,rfl,q⟩:=h
 obtain⟨t,rfl⟩:=rx
 exact rule i t s _ _ ⟨.int (g i),H,I.tok _,⟨_,rfl⟩,q⟩
theorem Zh9:UnR X (unaryOp .USub) (rU fun i=>.int (-i)):=unI fun _ _ _ _ _ q=>neg_int q
end
noncomputable def scal:V->V->Bool
 | .non,.non=>true| .non,.int _=>true| .int _,.non=>true| .non,.bl _=>true| .bl _,.non=>true| .non,.str _=>true| .str _,.non=>true
 | .int _,.int _=>true| .bl _,.bl _=>true| .str _,.str _=>true| .byt _,.byt _=>true
 | .int _,.str _=>true| .str _,.int _=>true| .bl _,.str _=>true| .str _,.bl _=>true
 |_,_=>false
noncomputable def rEq:R2:=fun x y H Q=>scal x y=true/\Q (.bl (decide (x=y))) H
noncomputable def rNe:R2:=fun x y H Q=>scal x y=true/\Q (.bl (!decide (x=y))) H
theorem Nk{i j:Int}:decide (V.int i=V.int j)=(i==j):=by
 rw[Bool.eq_iff_iff]
 simp
theorem Hj{i j:Bool}:decide (V.bl i=V.bl j)=(i==j):=by
 rw[Bool.eq_iff_iff]
 simp
theorem Nl{i j:Str}:decide (V.str i=V.str j)=(i==j):=by
 rw[Bool.eq_iff_iff]
 simp
theorem Nn{i j:Array UInt8}:decide (V.byt i=V.byt j)=(i.toList==j.toList):=by
 rw[Bool.eq_iff_iff]
 cases i
 cases j
 simp
section
variable{X:Cx}{a b c:Expr}{ta tb tc:TE}{pos:Pos}
theorem Z9{pins:List (Addr×Obj)}{σ:St}{H:Hp}{s:Shared}{Q:VK}{k k':Bool}(I:Inv X pins σ H s)(q:Q (.bl k) H)(e:k=k'):EP X pins σ Q (.bool k') s:=by
 subst e
 exact⟨.bl k,H,I,rfl,q⟩
theorem Hk:Jk X (compareOp .Eq) rEq:=by
 intro pins s σ H x y v u Q I rx ry h
 obtain⟨hs,q⟩:=h
 cases x with
 |non=>
  cases rx
  cases y with
  |non=>cases ry;exact PySem.EqNone.eq_none_none (Z9 I q (by simp))
  |bl j=>cases ry;exact PySem.EqNone.eq_none_bool (Z9 I q (by simp))
  |int j=>obtain⟨t',rfl⟩:=ry;exact PySem.EqNone.eq_none_int (Z9 I q (by simp))
  |str j=>obtain⟨t',rfl⟩:=ry;exact PySem.EqNone.eq_none_str (Z9 I q (by simp))
  |_=>exact absurd (show false=true from hs) Bool.false_ne_true
 |bl i=>
  cases rx
  cases y with
  |non=>cases ry;exact PySem.EqNone.eq_bool_none (Z9 I q (by simp))
  |bl j=>cases ry;exact eq_bool (Z9 I q Hj)
  |str j=>obtain⟨t',rfl⟩:=ry;exact PySem.EqMixed.eq_bool_str (Z9 I q (by simp))
  |_=>exact absurd (show false=true from hs) Bool.false_ne_true
 |int i=>
  obtain⟨t,rfl⟩:=rx
  cases y with
  |non=>cases ry;exact PySem.EqNone.eq_int_none (Z9 I q (by simp))
  |int j=>obtain⟨t',rfl⟩:=ry;exact eq_int (Z9 I q Nk)
  |str j=>obtain⟨t',rfl⟩:=ry;exact PySem.EqMixed.eq_int_str (Z9 I q (by simp))
  |_=>exact absurd (show false=true from hs) Bool.false_ne_true
 |str i=>
  obtain⟨t,rfl⟩:=rx
  cases y with
  |non=>cases ry;exact PySem.EqNone.eq_str_none (Z9 I q (by simp))
  |bl j=>cases ry;exact PySem.EqMixed.eq_str_bool (Z9 I q (by simp))
  |int j=>obtain⟨t',rfl⟩:=ry;exact PySem.EqMixed.eq_str_int (Z9 I q (by simp))
  |str j=>obtain⟨t',rfl⟩:=ry;exact eq_str (Z9 I q Nl)
  |_=>exact absurd (show false=true from hs) Bool.false_ne_true
 |byt i=>
  obtain⟨t,rfl⟩:=rx
  cases y with
  |byt j=>obtain⟨t',rfl⟩:=ry;exact PySem.W.eq_bytes (Z9 I q Nn)
  |_=>exact absurd (show false=true from hs) Bool.false_ne_true
 |_=>cases y<;> exact absurd (show false=true from hs) Bool.false_ne_true
theorem Zgd:Jk X (compareOp .NotEq) rNe:=by
 intro pins s σ H x y v u Q I rx ry h
 obtain⟨hs,q⟩:=h
 cases x with
 |non=>
  cases rx
  cases y with
  |non=>cases ry;exact PySem.EqNone.ne_none_none (Z9 I q (by simp))
  |bl j=>cases ry;exact PySem.EqNone.ne_none_bool (Z9 I q (by simp))
  |int j=>obtain⟨t',rfl⟩:=ry;exact PySem.EqNone.ne_none_int (Z9 I q (by simp))
  |str j=>obtain⟨t',rfl⟩:=ry;exact PySem.EqNone.ne_none_str (Z9 I q (by simp))
  |_=>exact absurd (show false=true from hs) Bool.false_ne_true
 |bl i=>
  cases rx
  cases y with
  |non=>cases ry;exact PySem.EqNone.ne_bool_none (Z9 I q (by simp))
  |bl j=>cases ry;exact ne_bool (Z9 I q (congrArg not Hj))
  |str j=>obtain⟨t',rfl⟩:=ry;exact PySem.EqMixed.ne_bool_str (Z9 I q (by simp))
  |_=>exact absurd (show false=true from hs) Bool.false_ne_true
 |int i=>
  obtain⟨t,rfl⟩:=rx
  cases y with
  |non=>cases ry;exact PySem.EqNone.ne_int_none (Z9 I q (by simp))
  |int j=>obtain⟨t',rfl⟩:=ry;exact ne_int (Z9 I q (congrArg not Nk))
  |str j=>obtain⟨t',rfl⟩:=ry;exact PySem.EqMixed.ne_int_str (Z9 I q (by simp))
  |_=>exact absurd (show false=true from hs) Bool.false_ne_true
 |str i=>
  obtain⟨t,rfl⟩:=rx
  cases y with
  |non=>cases ry;exact PySem.EqNone.ne_str_none (Z9 I q (by simp))
  |bl j=>cases ry;exact PySem.EqMixed.ne_str_bool (Z9 I q (by simp))
  |int j=>obtain⟨t',rfl⟩:=ry;exact PySem.EqMixed.ne_str_int (Z9 I q (by simp))
  |str j=>obtain⟨t',rfl⟩:=ry;exact ne_str (Z9 I q (congrArg not Nl))
  |_=>exact absurd (show false=true from hs) Bool.false_ne_true
 |byt i=>
  obtain⟨t,rfl⟩:=rx
  cases y with
  |byt j=>obtain⟨t',rfl⟩:=ry;exact PySem.W.ne_bytes (Z9 I q (congrArg not Nn))
  |_=>exact absurd (show false=true from hs) Bool.false_ne_true
 |_=>cases y<;> exact absurd (show false=true from hs) Bool.false_ne_true
theorem Zl0:Jk X (compareOp .Lt) (Va fun i j=>.bl (decide (i<j))):=Zh3 fun _ _ _ _ _ _ _ q=>lt_int q
theorem Zge:Jk X (compareOp .LtE) (Va fun i j=>.bl (decide (i<=j))):=Zh3 fun _ _ _ _ _ _ _ q=>le_int q
theorem Zl1:Jk X (compareOp .Gt) (Va fun i j=>.bl (decide (j<i))):=Zh3 fun _ _ _ _ _ _ _ q=>gt_int q
theorem M6:Jk X (compareOp .In) (fun x y H Q=>∃i j,x= .str i/\y= .str j/\Q (.bl (!(Builtin.Str.occurrences j i 0 j.length 1).isEmpty)) H):=by
 intro pins s σ H x y v u Q I rx ry h
 obtain⟨i,j,rfl,rfl,q⟩:=h
 obtain⟨t,rfl⟩:=rx
 obtain⟨t',rfl⟩:=ry
 exact in_str (Z9 I q rfl)
theorem Zia:Jk X (compareOp .Is) (fun x y H Q=>y= .non/\Q (.bl (decide (x= .non))) H):=by
 intro pins s σ H x y v u Q I rx ry h
 obtain⟨rfl,q⟩:=h
 cases ry
 refine is_none_gen (Z9 I q ?_)
 cases x<;> first
  | (cases rx;rfl)
  | (obtain⟨t,rfl⟩:=rx;rfl)
theorem Zc8:Jk X (compareOp .IsNot) (fun x y H Q=>y= .non/\Q (.bl (!decide (x= .non))) H):=by
 intro pins s σ H x y v u Q I rx ry h
 obtain⟨rfl,q⟩:=h
 cases ry
 refine isnot_none_gen (Z9 I q ?_)
 cases x<;> first
  | (cases rx;rfl)
  | (obtain⟨t,rfl⟩:=rx;rfl)
theorem Jk.or{f:Value->Value->Sem Value}{r r':R2}(h:Jk X f r)(h':Jk X f r'):Jk X f (fun x y H Q=>r x y H Q\/r' x y H Q):=by
 intro pins s σ H x y v u Q I rx ry q
 rcases q with q|q
 ·exact h pins s σ H x y v u Q I rx ry q
 ·exact h' pins s σ H x y v u Q I rx ry q
theorem Up(b:Expr){op:CmpOp}(h:op≠.In:=by decide)(h2:op≠.NotIn:=by decide):behindInMarks op b=false:=by
 have e1:(op==CmpOp.In)=false:=by cases op<;> first|rfl|exact absurd rfl h
 have e2:(op==CmpOp.NotIn)=false:=by cases op<;> first|rfl|exact absurd rfl h2
 cases b<;> simp[behindInMarks,e1,e2]
theorem Np{op:CmpOp}{r:R2}(ho:Jk X (compareOp op) r)(ha:PE X a ta)(hb:PE X b tb)(hm:behindInMarks op b=false):PE X (.Compare a [op] [b] pos) (tOp r ta tb):=by
 intro pins s σ H Q I h
 exact wpAny_Compare1 (Zh2 ha hb I h fun v u s2 x y H2 I2 rx ry q=>ho pins s2 σ H2 x y v u Q I2 rx ry q) hm
noncomputable def Zgf(t:TE):TT:=fun σ H Q=>t σ H fun x H'=>∃k,x= .bl k/\Q k H'
theorem Nq{op:CmpOp}{r:R2}(ho:Jk X (compareOp op) r)(ha:PE X a ta)(hb:PE X b tb)(hm:behindInMarks op b=false):PT X (.Compare a [op] [b] pos) (Zgf (tOp r ta tb)):=by
 intro pins s σ H Q I h
 refine wpAny_isTrue_Compare1 (Y3 (ha pins s σ H _ I h) fun v s1 ⟨x,H1,I1,r1,q1⟩=>Y3 (hb pins s1 σ H1 _ I1 q1) fun u s2 ⟨y,H2,I2,r2,q2⟩=>
  Y3 (ho pins s2 σ H2 x y v u _ I2 r1 r2 q2) fun c s3 ⟨z,H3,I3,r3,k,e,q3⟩=>?_) hm
 subst e
 cases r3
 exact wpAny_truthy_bool ⟨H3,I3,q3⟩
noncomputable def Hl(r r':R2)(ta tb tc:TE):TE:=fun σ H Q=>ta σ H fun x H1=>tb σ H1 fun y H2=>r x y H2 fun z H3=>∃k,z= .bl k/\
 (if k=true then tc σ H3 fun w' H4=>r' y w' H4 Q else Q (.bl false) H3)
theorem Hm{op op':CmpOp}{r r':R2}(ho:Jk X (compareOp op) r)(ho':Jk X (compareOp op') r')(ha:PE X a ta)(hb:PE X b tb)(hc:PE X c tc)
  (hm:lastMarks [op,op'] [b,c]=false:=by with_unfolding_all rfl):PE X (.Compare a [op,op'] [b,c] pos) (Hl r r' ta tb tc):=by
 intro pins s σ H Q I h
 refine Compare_chain (Y3 (ha pins s σ H _ I h) fun v s1 ⟨x,H1,I1,r1,q1⟩=>chain_link (Y3 (hb pins s1 σ H1 _ I1 q1) fun u s2 ⟨y,H2,I2,r2,q2⟩=>
  Y3 (ho pins s2 σ H2 x y v u _ I2 r1 r2 q2) fun d s3 ⟨z,H3,I3,r3,k,e,q3⟩=>?_)) hm
 subst e
 cases r3
 refine wpAny_truthy_bool ?_
 cases k with
 |false=>exact ite_ff ⟨.bl false,H3,I3,rfl,q3⟩
 |true=>exact ite_tt (chain_last (Y3 (hc pins s3 σ H3 _ I3 q3) fun w' s4 ⟨z',H4,I4,r4,q4⟩=>ho' pins s4 σ H4 y z' u w' Q I4 r2 r4 q4))
theorem Rp:(sizeLine:Nat)<2^63:=by rw[sizeLine_eq];decide
theorem Ks:Jk X (binaryOp .Add) (fun x y H Q=>∃i j,x= .str i/\y= .str j/\i.length+j.length<=sizeLine/\Q (.str (i++j)) H):=by
 intro pins s σ H x y v u Q I rx ry h
 obtain⟨i,j,rfl,rfl,hz,q⟩:=h
 obtain⟨t,rfl⟩:=rx
 obtain⟨t',rfl⟩:=ry
 exact add_str (fun t' tk=>⟨.str (i++j),H,I.tok _,⟨_,rfl⟩,q⟩) hz
theorem Bz{x:V}{us:List Value}(r:Yb [x] us):∃u,us=[u]/\Zw x u:=by
 cases r with
 |cons r1 r2=>cases r2;exact⟨_,rfl,r1⟩
theorem Hn{x y:V}{us:List Value}(r:Yb [x,y] us):∃u w',us=[u,w']/\Zw x u/\Zw y w':=by
 cases r with
 |cons r1 r2=>
  cases r2 with
  |cons r3 r4=>cases r4;exact⟨_,_,rfl,r1,r3⟩
theorem Vb:Jl X (.type "int") (fun xs H Q=>(∃i,xs=[.int i]/\Q (.int i) H)\/∃k,xs=[.bl k]/\Q (.int (if k then 1 else 0)) H):=by
 intro pins s σ H xs us Q I r h
 rcases h with⟨i,rfl,q⟩|⟨k,rfl,q⟩
 ·obtain⟨u,rfl,t,rfl⟩:=Bz r
  exact call_int_int ⟨.int i,H,I,⟨_,rfl⟩,q⟩
 ·obtain⟨u,rfl,r1⟩:=Bz r
  cases r1
  exact call_int_bool ⟨.int (if k then 1 else 0),H,I.tok _,⟨_,rfl⟩,q⟩
end
structure ObjM(h:Heap)(x dx C:Addr)(mA:Str->Option Value):Prop where
 obj:h.get? x=some (PySem.W.instObj C dx)
 ns:h.Ns1 dx mA
 ne:dx≠x
theorem Vc{h:Heap}{dx:Addr}{mA:Str->Option Value}(n:h.Ns1 dx mA):∃od,h.get? dx=some od/\∀name,PySem.W.lookIn name od=some (mA name):=by
 obtain⟨o,es,ep,ho,hd,hk,_,hm⟩:=n
 refine⟨o,ho,fun name=>?_⟩
 have e:=hm name
 unfold nsFind findBy at e
 rw[<-Array.find?_toList]at e
 unfold PySem.W.lookIn
 rw[hd]
 dsimp only
 split
 ·rename_i y q
  rw[q]at e
  exact congrArg some e
 ·rename_i q
  rw[q]at e
  have a:es.toList.any (·.refKey)=false:=by
   rw[List.any_eq_false]
   intro y hy
   obtain⟨z,t,hkey⟩:=hk y (Array.mem_toList_iff.mp hy)
   simp[DictEntry.refKey,hkey]
  have a':¬es.toList.any (·.refKey)=true:=by rw[a];exact Bool.false_ne_true
  rw[if_neg a']
  exact congrArg some e
theorem ObjM.look{h:Heap}{x dx C:Addr}{mA:Str->Option Value}(I:ObjM h x dx C mA):∃od,PySem.W.InstAt h x (PySem.W.instObj C dx) C (some od)/\∀name,PySem.W.lookIn name od=some (mA name):=
 let⟨od,ho,hl⟩:=Vc I.ns
 ⟨od,⟨I.obj,rfl,rfl,ho⟩,hl⟩
section
variable{prog:Program}{w:World}{A:Around}{E:Value->Shared->Prop}{s:Shared}{K:PySem.W.Frag}{x dx C f:Addr}{mA:Str->Option Value}{name:Str}{v:Value}
theorem Zc9{expr:Bool}{Q:Value->Shared->Prop}(X:K.In s.heap)(I:ObjM s.heap x dx C mA)(hg:PySem.W.plainGet K C name=true)(hh:PySem.W.hasDictIn K C=true)
  (ha:PySem.W.findIn K (.ref C) name=some none) (hv:mA name=some v) (hv':PySem.W.handedIn v=true) (h:Q v {s with toks:=s.toks+1}):
  wpAny (model prog w) A (getAttr (.ref x) name expr) Q E s:=by
 obtain⟨od,J,hl⟩:=I.look
 exact PySem.W.get_value X J (PySem.W.plainGet_of hg).1 (PySem.W.findObj_own hh ha rfl (by rw[hl,hv])) hv' h
theorem Ho{pl:Sem Bool}{Q:Value×List Value->Shared->Prop}(X:K.In s.heap)(I:ObjM s.heap x dx C mA)(hg:PySem.W.plainGet K C name=true)
  (hf:PySem.W.findIn K (.ref C) name=some (some (.ref f))) (ht:PySem.W.isFn K (.ref f)=true) (hv:mA name=none) (h:Q (.ref f,[.ref x]) s):
  wpAny (model prog w) A (getMethod (.ref x) name pl) Q E s:=by
 obtain⟨od,J,hl⟩:=I.look
 exact PySem.W.method_fn X J (PySem.W.plainGet_of hg).1 (PySem.W.plainGet_of hg).2 hf (beq_iff_eq.mp ht) (by show(PySem.W.lookIn name od).map (·.isSome)=some false;rw[hl,hv];rfl) h
theorem Zda{ns:List Str}{Q:Unit->Shared->Prop}(X:K.In s.heap)(I:ObjM s.heap x dx C mA)
  (hs:PySem.W.findIn K (.ref C) "__setattr__"=some (some (.builtin "object.__setattr__"))) (hp:PySem.W.plainOver K C=true) (ht:PySem.W.takerIn K C name=some none) (hh:PySem.W.hasDictIn K C=true)
  (hw:PySem.Within mA ns) (hsz:ns.length<=sizeLine)
  (h:∀h',ObjM h' x dx C (fun y=>if y=name then some v else mA y)->Heap.SameBut dx s.heap h'->Q () {s with heap:=h',toks:=s.toks+2}):
  wpAny (model prog w) A (setAttr (.ref x) name v) Q E s:=by
 obtain⟨od,J,hl⟩:=I.look
 refine PySem.W.set_plain X J hs (PySem.W.osa_open (s:={s with toks:=s.toks+1}) (r:=none) X J hp ht fun b=>?_)
 obtain⟨cd,hc,hd'⟩:=PySem.W.any_some hh
 have hx:s.heap.get? x=some ⟨.ref C,some dx,.plain, #[]⟩:=I.obj
 refine wpAny_bind (wpAny_pure (wpAny_bind (wpAny_bind (wpAny_loadPart hx (wpAny_bind (PySem.W.Looks.here (s:={s with toks:=s.toks+1}) (PySem.W.looks_clsIn X hc) ?_))))))
 rw[hd']
 refine wpAny_pure (a:=some dx) (wpAny_bind (wpAny_pure (wpAny_bind ?_)))
 refine wpAny_nsSet1 (s:={s with toks:=s.toks+1}) I.ns fun h' hn2 hs2=>?_
 obtain⟨oD,esD,epD,hoD,hdD,hcD⟩:=hn2.count (PySem.Within.cons name v hw)
 refine wpAny_bind (wpAny_lookBehind hoD (by rw[hdD];exact pastItsLine_dict (Nat.le_trans hcD (by rw[List.length_cons];omega))) ?_)
 exact wpAny_pure (h _ ⟨(hs2.2 _ (Ne.symm I.ne)).trans I.obj,hn2,I.ne⟩ hs2)
theorem Hq{R:Result->Shared->Prop}{vs:List Value}{kw:List (Str×Value)}(X:K.In s.heap)(hm:PySem.W.makesIn K C=true)
  (hi:PySem.W.findIn K (.ref C) "__init__"=some (some (.ref f))) (hf:PySem.W.typeIn K (.ref f)=some (.type "function"))
  (h:codeAny (model prog w) (A.under (.builtin "type.__call__" ⟨.ref C::vs,kw⟩)) (.call (.ref f) ⟨.ref (s.heap.objs.size+1)::vs,kw⟩) (PySem.W.InitBack (s.heap.objs.size+1) R)
   {s with heap:=(s.heap.push PySem.W.emptyDict).push (PySem.W.instObj C s.heap.objs.size)}):
  codeAny (model prog w) A (.call (.ref C) ⟨vs,kw⟩) R s:=by
 obtain⟨hh,g,d,t,os⟩:=s
 exact PySem.W.make_core (PySem.W.makes_of X hm) (PySem.W.looks_findIn X hi) (fun self=>PySem.W.bind_fn X self hf) (.inl rfl) h
end
noncomputable def O6(f:Str)(v:V):List (Str×V)->List (Str×V)
  | []=>[(f,v)]
  | (g,x)::r=>if g=f then(g,v)::r else(g,x)::O6 f v r
theorem Gf(f g:Str)(v:V):∀fs:List (Str×V),(O6 f v fs).lookup g=if g=f then some v else fs.lookup g
  | []=>by
    show List.lookup g [(f,v)]=_
    by_cases h:g=f
    · have hb:(g==f)=true:=beq_iff_eq.mpr h
      simp only[List.lookup,hb,if_pos h]
    · have hb:(g==f)=false:=beq_eq_false_iff_ne.mpr h
      simp only[List.lookup,hb,if_neg h]
  | (k,x)::r=>by
    have ih:=Gf f g v r
    rw[show O6 f v ((k,x)::r)=(if k=f then(k,v)::r else(k,x)::O6 f v r)from rfl]
    by_cases hk:k=f
    · rw[if_pos hk]
      by_cases h:g=k
      · have hb:(g==k)=true:=beq_iff_eq.mpr h
        simp only[List.lookup,hb,if_pos (h.trans hk)]
      · have hb:(g==k)=false:=beq_eq_false_iff_ne.mpr h
        simp only[List.lookup,hb,if_neg (fun e:g=f=>h (e.trans hk.symm))]
    · rw[if_neg hk]
      by_cases h:g=k
      · have hb:(g==k)=true:=beq_iff_eq.mpr h
        simp only[List.lookup,hb,if_neg (fun e:g=f=>hk (h.symm.trans e))]
      · have hb:(g==k)=false:=beq_eq_false_iff_ne.mpr h
        simp only[List.lookup,hb]
        exact ih
theorem Cu(f:Str)(v:V):∀fs:List (Str×V),f∈(O6 f v fs).map (·.1)/\∀g,g∈fs.map (·.1)->g∈(O6 f v fs).map (·.1)
  | []=>⟨by simp[O6],fun g h=>by simp at h⟩
  | (k,x)::r=>by
    obtain⟨i1,i2⟩:=Cu f v r
    rw[show O6 f v ((k,x)::r)=(if k=f then(k,v)::r else(k,x)::O6 f v r)from rfl]
    by_cases hk:k=f
    · rw[if_pos hk]
      subst hk
      exact⟨by simp,fun g h=>by simpa using h⟩
    · rw[if_neg hk]
      refine⟨?_,fun g h=>?_⟩
      · rw[List.map_cons]
        exact List.mem_cons_of_mem _ i1
      · rw[List.map_cons]at h⊢
        rcases List.mem_cons.mp h with e|e
        · exact List.mem_cons.mpr (.inl e)
        · exact List.mem_cons_of_mem _ (i2 g e)
theorem Gg(f:Str)(v:V):∀fs:List (Str×V),(O6 f v fs).length<=fs.length+1
  | []=>by simp[O6]
  | (k,x)::r=>by
    have ih:=Gg f v r
    rw[show O6 f v ((k,x)::r)=(if k=f then(k,v)::r else(k,x)::O6 f v r)from rfl]
    by_cases hk:k=f
    · rw[if_pos hk,List.length_cons,List.length_cons];omega
    · rw[if_neg hk,List.length_cons,List.length_cons];omega
theorem Jf.some_of{v:V}{o:Option Value}(r:Jf (some v) o):∃u,o=some u/\Zw v u:=by
 cases o with
 |none=>exact(show False from r).elim
 |some u=>exact⟨u,rfl,r⟩
theorem Jf.none_of{o:Option Value}(r:Jf none o):o=none:=by
 cases o with
 |none=>rfl
 |some u=>exact(show False from r).elim
theorem M7{v:V}{u:Value}(r:Zw v u):PySem.W.handedIn u=true:=by
 cases v with
 |non=>cases(show u=Value.none from r);rfl
 |bl b=>cases(show u=Value.bool b from r);rfl
 |int i=>obtain⟨t,e⟩:=(show∃t,u=Value.int i t from r);cases e;rfl
 |str x=>obtain⟨t,e⟩:=(show∃t,u=Value.str x t from r);cases e;rfl
 |byt b=>obtain⟨t,e⟩:=(show∃t,u=Value.bytes b t from r);cases e;rfl
 |flt b=>obtain⟨t,e⟩:=(show∃t,u=Value.float b t from r);cases e;rfl
 |ref a=>cases(show u=Value.ref a from r);rfl
 |ty n=>cases(show u=Value.type n from r);rfl
section
variable{P:Program}{w:World}{H H':Hp}{h h':Heap}{a C dx:Addr}{fs fs':List (Str×V)}
theorem An(hok:Oe P w H h)(e:H a=some (.ins C dx fs)):∃mA,ObjM h a dx C mA/\(∀f,Jf (fs.lookup f) (mA f))/\PySem.Within mA (fs.map (·.1))/\fs.length<=1000/\H dx=some (.own a):=by
 obtain⟨d,z,ne,ob,mA,n,r,q⟩:=(show Y4 P w H h a (.ins C dx fs)from hok a _ e)
 exact⟨mA,⟨ob,n,ne⟩,r,q,z,d⟩
end
structure Cls(K:PySem.W.Frag)(C:Addr):Prop where
 pg:PySem.W.plainGet K C Str.empty=true
 hd:PySem.W.hasDictIn K C=true
 po:PySem.W.plainOver K C=true
 sa:PySem.W.findIn K (.ref C) "__setattr__"=some (some (.builtin "object.__setattr__"))
theorem Cls.get{K:PySem.W.Frag}{C:Addr}(c:Cls K C)(f:Str):PySem.W.plainGet K C f=true:=c.pg
noncomputable def W9(K:PySem.W.Frag)(C:Addr)(f:Str):Prop:=PySem.W.findIn K (.ref C) f=some none
theorem W9.taker{K:PySem.W.Frag}{C:Addr}{f:Str}(n:W9 K C f):PySem.W.takerIn K C f=some none:=by
 unfold PySem.W.takerIn
 rw[show PySem.W.findIn K (.ref C) f=some none from n]
 rfl
structure Meth(K:PySem.W.Frag)(C:Addr)(m:Str)(f:Addr):Prop where
 at_:PySem.W.findIn K (.ref C) m=some (some (.ref f))
 fn:PySem.W.isFn K (.ref f)=true
 kp:PySem.W.keepIn K (.ref f)=true
section
variable{X:Cx}{pins:List (Addr×Obj)}{σ:St}{H:Hp}{s:Shared}{a C dx:Addr}{fs:List (Str×V)}{f:Str}{v:V}{A:Around}{E:Value->Shared->Prop}
theorem Kt{b:Bool}{Q:Value->Shared->Prop}(I:Inv X pins σ H s)(e:H a=some (.ins C dx fs))(c:Cls X.K C)(n:W9 X.K C f)(l:fs.lookup f=some v)
  (h:∀u s',Inv X pins σ H s'->Zw v u->Q u s'):wpAny (model X.prog X.w) A (getAttr (.ref a) f b) Q E s:=by
 obtain⟨mA,O,r,_,_,_⟩:=An I.hok e
 obtain⟨u,hu,ru⟩:=Jf.some_of (v:=v) (o:=mA f) (by rw[<-l];exact r f)
 exact Zc9 I.kIn O (c.get f) c.hd n hu (M7 ru) (h u _ (I.tok _) ru)
theorem Ku{m:Str}{g:Addr}{pl:Sem Bool}{Q:Value×List Value->Shared->Prop}(I:Inv X pins σ H s)(e:H a=some (.ins C dx fs))(c:Cls X.K C)(k:Meth X.K C m g)(l:fs.lookup m=none)
  (h:Q (.ref g,[.ref a]) s):wpAny (model X.prog X.w) A (getMethod (.ref a) m pl) Q E s:=by
 obtain⟨mA,O,r,_,_,_⟩:=An I.hok e
 have hn:mA m=none:=Jf.none_of (by rw[<-l];exact r m)
 exact Ho I.kIn O (c.get m) k.at_ k.fn hn h
theorem Kv{y:V}{u:Value}{Q:Unit->Shared->Prop}(I:Inv X pins σ H s)(e:H a=some (.ins C dx fs))(c:Cls X.K C)(n:W9 X.K C f)(hl:fs.length<1000)(ry:Zw y u)
  (h:∀s',Inv X pins σ (Ys H a (.ins C dx (O6 f y fs))) s'->Q () s'):wpAny (model X.prog X.w) A (setAttr (.ref a) f u) Q E s:=by
 obtain⟨mA,O,r,wi,_,ho⟩:=An I.hok e
 have hz:(fs.map (·.1)).length<=sizeLine:=by rw[List.length_map,sizeLine_eq];omega
 refine Zda I.kIn O c.sa c.po n.taker c.hd wi hz fun h' O' sb=>h _ ?_
 have hd:∃o,h'.get? dx=some o:=let⟨o,_,_,e',_⟩:=O'.ns;⟨o,e'⟩
 refine I.write (x:=a) (e:=dx) (by rw[e];exact True.intro) (.inr ho) (fun b q hb z=>(sb.2 b hb).trans z) hd ?_
 refine⟨by rw[Zl O.ne];exact ho,?_,O.ne,O'.obj,_,O'.ns,fun g=>?_,fun g hg=>?_⟩
 ·have:=Gg f y fs;omega
 ·show Jf ((O6 f y fs).lookup g) (if g=f then some u else mA g)
  rw[Gf]
  by_cases q:g=f
  ·rw[if_pos q,if_pos q];exact ry
  ·rw[if_neg q,if_neg q];exact r g
 ·by_cases q:g=f
  ·rw[q];exact(Cu f y fs).1
  ·refine(Cu f y fs).2 g (wi g fun z=>hg ?_)
   show(if g=f then some u else mA g)=none
   rw[if_neg q];exact z
theorem Inv.made(I:Inv X pins σ H s):Inv X pins σ (Ys (Ys H s.heap.objs.size (.own (s.heap.objs.size+1))) (s.heap.objs.size+1) (.ins C s.heap.objs.size []))
  {s with heap:=(s.heap.push PySem.W.emptyDict).push (PySem.W.instObj C s.heap.objs.size)}:=by
 have e1:(s.heap.push PySem.W.emptyDict).get? s.heap.objs.size=some PySem.W.emptyDict:=Heap.get?_push_size s.heap rfl
 have e2:((s.heap.push PySem.W.emptyDict).push (PySem.W.instObj C s.heap.objs.size)).get? (s.heap.objs.size+1)=some (PySem.W.instObj C s.heap.objs.size):=by
  have:=Heap.get?_push_size (s.heap.push PySem.W.emptyDict) (o:=PySem.W.instObj C s.heap.objs.size) rfl
  rwa [Heap.size_push]at this
 have e3:(s.heap.push PySem.W.emptyDict).Ns s.heap.objs.size (fun _=>none):=⟨PySem.W.emptyDict, #[],_,e1,rfl,(fun e he=>absurd he (by simp)),fun _=>rfl⟩
 have I1:=I.laid (a:=s.heap.objs.size) (o:=.own (s.heap.objs.size+1)) (h':=s.heap.push PySem.W.emptyDict) (t':=s.toks) (fun b u q=>Heap.get?_push_of_some _ q) (Nat.le_refl _) ⟨_,e1⟩
 refine I1.laid (a:=s.heap.objs.size+1) (o:=.ins C s.heap.objs.size []) (t':=s.toks) (fun b u q=>Heap.get?_push_of_some _ q) (Nat.le_of_eq (Heap.size_push _ _)) ?_
 have ne:s.heap.objs.size≠s.heap.objs.size+1:=Nat.ne_of_lt (Nat.lt_succ_self _)
 refine⟨by rw[Zl ne,Zu],Nat.zero_le _,ne,e2,fun _=>none,(Heap.Ns1.of_empty e3).at fun o q=>Heap.get?_push_of_some _ q,fun _=>True.intro,fun y hy=>absurd rfl hy⟩
theorem Nr{prog:Program}{w:World}{env:Env}{e:Expr}{f:Str}{pos:Pos}{s:Shared}{Q:Value->Shared->Prop}(hb:attributeBase e f env (eval e env)=eval e env)
  (h:wpAny (model prog w) A (eval e env) (fun o s₁=>wpAny (model prog w) A (getAttr o f true) Q E s₁) E s):wpAny (model prog w) A (eval (.Attribute e f pos) env) Q E s:=
 Attribute_any_ h (by rw[arm_eval_Attribute,hb])
end
noncomputable def Zl2(K:PySem.W.Frag)(ta:TE)(f:Str):TE:=fun σ H Q=>ta σ H fun x H1=>∃a C dx fs v,x= .ref a/\H1 a=some (.ins C dx fs)/\Cls K C/\W9 K C f/\fs.lookup f=some v/\Q v H1
noncomputable def Zl3(K:PySem.W.Frag)(ta tv:TE)(f:Str):TS:=fun D σ H=>tv σ H fun y H1=>ta σ H1 fun x H2=>∃a C dx fs,x= .ref a/\H2 a=some (.ins C dx fs)/\Cls K C/\W9 K C f/\fs.length<1000/\
 D.nx σ (Ys H2 a (.ins C dx (O6 f y fs)))
section
variable{X:Cx}{o e value:Expr}{f:Str}{pos pos' tpos:Pos}{ta tv:TE}
theorem Hr(he:PE X e ta)(hb:attributeBase e f X.env (eval e X.env)=eval e X.env):PE X (.Attribute e f pos) (Zl2 X.K ta f):=by
 intro pins s σ H Q I h
 refine Nr hb (Y3 (he pins s σ H _ I h) fun u s1 zq9=>?_)
 obtain⟨x,H1,I1,rx,a,C,dx,fs,v,ex,ea,c,n,l,q⟩:=zq9
 subst ex
 obtain rfl:u=Value.ref a:=rx
 exact Kt I1 ea c n l fun u' s2 I2 ru=>⟨v,H1,I2,ru,q⟩
theorem Zib(ha:PE X o ta)(hv:PE X value tv)(hs:swapsWith value (some (.Attribute o f pos')) pos.line X.env=pure false):PS X (.Assign [.Attribute o f pos'] value pos) (Zl3 X.K ta tv f):=by
 intro pins s σ H D I h
 refine plainObj_wpAny_Assign_Attribute (Y3 (hv pins s σ H _ I h) fun u s1 ⟨y,H1,I1,ry,q⟩=>Y3 (ha pins s1 σ H1 _ I1 q) fun ov s2 ⟨x,H2,I2,rx,a,C,dx,fs,ex,ea,c,n,l,q2⟩=>?_) hs
 subst ex
 obtain rfl:ov=Value.ref a:=rx
 exact Kv I2 ea c n l ry fun s3 I3=>⟨σ,_,I3,q2⟩
end
structure Room(k:Nat)(A:Around):Prop where
 hd:A.handled=none
 dp:A.depth+3*k+5<recursionLimit
 un:A.units+16*k+200<cLine
theorem Room.mono{j k:Nat}{A:Around}(r:Room k A)(h:j<=k):Room j A:=⟨r.hd,by have:=r.dp;omega,by have:=r.un;omega⟩
theorem Room.deeper{k:Nat}{A:Around}(r:Room (k+1) A)(env:Env):Room k (A.deeper env):=
 ⟨r.hd,by have:=r.dp;show A.depth+1+3*k+5<_;omega,by have:=r.un;show A.units+3+16*k+200<_;omega⟩
theorem Kw{A:Around}{C:Addr}{us:List Value}{kw:List (Str×Value)}:(A.under (.builtin "type.__call__" ⟨.ref C::us,kw⟩)).depth=A.depth+1:=by
 first|rfl|simp[Around.under,Code.weight,Code.isCreation,Code.isGuard,Code.isCaller,Code.frames,Code.isFrame,guardIds]
theorem Kx{A:Around}{C:Addr}{us:List Value}{kw:List (Str×Value)}:(A.under (.builtin "type.__call__" ⟨.ref C::us,kw⟩)).units=A.units+1:=by
 first|rfl|simp[Around.under,Code.cUnits,Code.frames,Code.isFrame]
theorem Room.make{k:Nat}{A:Around}(r:Room (k+1) A)(C:Addr)(us:List Value)(kw:List (Str×Value)):Room k (A.under (.builtin "type.__call__" ⟨.ref C::us,kw⟩)):=
 ⟨r.hd,by have:=r.dp;rw[Kw];omega,by have:=r.un;rw[Kx];omega⟩
theorem Room.depth{k:Nat}{A:Around}(r:Room k A):A.depth<recursionLimit:=by have:=r.dp;omega
theorem Room.units{k:Nat}{A:Around}(r:Room k A):A.units+64<cLine:=by have:=r.un;omega
noncomputable def Mv:TA:=fun _ H Q=>Q [] H
noncomputable def Q5(ta:TE)(tr:TA):TA:=fun σ H Q=>ta σ H fun x H1=>tr σ H1 fun xs H2=>Q (x::xs) H2
section
variable{X:Cx}{e:Expr}{es:List Expr}{te:TE}{t:TA}{pos:Pos}
theorem Jv:PA X [] Mv:=fun _ _ _ _ H Q I h=>Calls.spliced_nil ⟨[],H,I,.nil,h⟩
theorem Yn(ha:PE X e te)(hr:PA X es t)(hs:starEach (e::es) X.env=(false,eval e X.env)::starEach es X.env:=by rfl):PA X (e::es) (Q5 te t):=by
 intro pos pins s σ H Q I h
 rw[hs]
 show wpAny _ _ (spliced ((false,eval e X.env)::backTo pos (starEach es X.env))) _ _ s
 refine Calls.spliced_cons (Y3 (ha pins s σ H _ I h) fun u s1 zq9=>?_)
 obtain⟨x,H1,I1,r1,q1⟩:=zq9
 exact Y3 (hr pos pins s1 σ H1 _ I1 q1) fun us s2 ⟨xs,H2,I2,r2,q2⟩=>⟨x::xs,H2,I2,.cons r1 r2,q2⟩
noncomputable def Zic(t:TA):TE:=fun σ H Q=>t σ H fun xs H1=>xs.length<=sizeLine/\∀p,H1 p=none->Q (.ref p) (Ys H1 p (.tup xs))
noncomputable def Zid(t:TA):TE:=fun σ H Q=>t σ H fun xs H1=>xs.length<=sizeLine/\∀p,H1 p=none->Q (.ref p) (Ys H1 p (.lst xs))
theorem Hs{x1} (h:PA X es t):PE X (.Tuple es x1 pos) (Zic t):=by
 intro pins s σ H Q I hq
 refine wpAny_Tuple_spliced (Y3 (h pos pins s σ H _ I hq) fun us s1 ⟨xs,H1,I1,r,z,q⟩=>⟨by rw[<-r.length];exact z,?_⟩)
 have hf:H1 s1.heap.objs.size=none:=I1.hok.fresh (Nat.le_refl _)
 refine⟨.ref s1.heap.objs.size,Ys H1 s1.heap.objs.size (.tup xs),I1.laid (t':=s1.toks) (fun b u e=>Heap.get?_push_of_some _ e) (Nat.le_refl _) ?_,rfl,q _ hf⟩
 exact⟨z,us,r,⟨_,Heap.get?_push_size _ rfl,rfl,_,rfl⟩⟩
theorem Ht(h:PA X es t):PE X (.List es pos) (Zid t):=by
 intro pins s σ H Q I hq
 refine wpAny_List_spliced (Y3 (h pos pins s σ H _ I hq) fun us s1 ⟨xs,H1,I1,r,z,q⟩=>⟨by rw[<-r.length];exact z,?_⟩)
 have hf:H1 s1.heap.objs.size=none:=I1.hok.fresh (Nat.le_refl _)
 refine⟨.ref s1.heap.objs.size,Ys H1 s1.heap.objs.size (.lst xs),I1.laid (t':=s1.toks) (fun b u e=>Heap.get?_push_of_some _ e) (Nat.le_refl _) ?_,rfl,q _ hf⟩
 exact⟨z,us,0,r,Heap.get?_push_size _ rfl⟩
end
noncomputable abbrev Sp:=List V->Hp->VK->XK->Prop
noncomputable abbrev Nt:=List Env->Hp->Shared->XK->Value->Shared->Prop
structure Env0(P:Program)(w:World)(K:PySem.W.Frag)(mg:Str->Option Value)(base:Heap)(A:Around)(outer:List Env)(s:Shared)(H:Hp):Prop where
 frames:A.frames=some outer
 mod:Mod K mg base
 bs:∀b o,base.get? b=some o->s.heap.get? b=some o/\H b=none
 bsz:base.objs.size<=s.heap.objs.size
 funs:s.heap.FunFrames base outer
 frf:∀b∈Ox outer,H b=none
 hok:Oe P w H s.heap
 bare:AllBare s.gens
noncomputable def CE(outer:List Env)(P:Program)(w:World)(H:Hp)(s:Shared)(Q:VK)(u:Value)(s':Shared):Prop:=
 ∃v H',s'.os=s.os/\AllBare s'.gens/\Un (Ox outer) [] H H' s.heap s'.heap/\Oe P w H' s'.heap/\Zw v u/\Q v H'
noncomputable def CR(CX:Nt)(outer:List Env)(P:Program)(w:World)(H:Hp)(s:Shared)(Q:VK)(E:XK)(r:Result)(s':Shared):Prop:=
 match r with
 | .ok (.ret u)=>CE outer P w H s Q u s'
 | .ok _=>False
 | .error e=>CX outer H s E e s'
structure FnOk(P:Program)(w:World)(K:PySem.W.Frag)(mg:Str->Option Value)(base:Heap)(CX:Nt)(k:Nat)(f:Addr)(fd:FuncData)(ps:List Str)(sp:Sp):Prop where
 len:∀vs H Q E,sp vs H Q E->vs.length=ps.length
 run:∀(A:Around) (outer:List Env) (s:Shared) (H:Hp) (args:Args) (us:List Value) (vs:List V) (Q:VK) (E:XK),Room k A->Env0 P w K mg base A outer s H->BindsTo s fd args (ps.zip us)->Yb vs us->sp vs H Q E->
  codeAny (model P w) A (.call (.ref f) args) (CR CX outer P w H s Q E) s
theorem Env0.make{P:Program}{w:World}{K:PySem.W.Frag}{mg:Str->Option Value}{base:Heap}{A:Around}{outer:List Env}{s:Shared}{H:Hp}(e:Env0 P w K mg base A outer s H)(C:Addr)(us:List Value)(kw:List (Str×Value)):
  Env0 P w K mg base (A.under (.builtin "type.__call__" ⟨.ref C::us,kw⟩)) outer s H:=⟨by first|exact e.frames| (simpa[Around.under,Code.envs,Code.isFrame,pushEnvs]using e.frames),e.mod,e.bs,e.bsz,e.funs,e.frf,e.hok,e.bare⟩
section
variable{X:Cx}{pins:List (Addr×Obj)}{σ:St}{H:Hp}{s s':Shared}
theorem Inv.env0(I:Inv X pins σ H s):Env0 X.prog X.w X.K X.mg X.base X.A X.stack s H:=
 ⟨I.ok.frames,I.ok.mod,I.bs,Nat.le_trans I.ok.bsz I.sz,I.stack,I.stkFree,I.hok,I.bare⟩
theorem Inv.after{Q:VK}{u:Value}(I:Inv X pins σ H s)(h:CE X.stack X.prog X.w H s Q u s'):EP X pins σ Q u s':=by
 obtain⟨v,H',os,bare,un,hok,r,q⟩:=h
 obtain⟨hh,g,d,t,os'⟩:=s'
 obtain rfl:os'=s.os:=os
 exact⟨v,H',I.call (h':=hh) (g':=g) (d':=d) (t':=t) (ch:=[]) un hok bare (fun b z=>absurd z (by simp)),r,q⟩
end
noncomputable def Zgg(sp:Sp)(dvs:List V)(E:XK)(t:TA):TE:=fun σ H Q=>t σ H fun vs H1=>sp (vs++dvs) H1 Q E
noncomputable def Zgh(C:Addr)(sp:Sp)(dvs:List V)(E:XK)(t:TA):TE:=fun σ H Q=>t σ H fun vs H1=>∀x dx,H1 x=none->H1 dx=none->dx≠x->
 sp (.ref x::(vs++dvs)) (Ys (Ys H1 dx (.own x)) x (.ins C dx [])) (fun v H2=>v= .non/\Q (.ref x) H2) E
noncomputable def Qf(K:PySem.W.Frag)(fd:FuncData)(ps:List Str)(ds:List Value):Prop:=
 ∀(s:Shared) (us:List Value),K.In s.heap->(us++ds).length=ps.length->BindsTo s fd ⟨us,[]⟩ (ps.zip (us++ds))
theorem Qf.all{K:PySem.W.Frag}{fd:FuncData}{ps:List Str}(h:∀us:List Value,us.length=ps.length->bindArgs fd ⟨us,[]⟩=pure (ps.zip us)):Qf K fd ps []:=fun s us _ hl=>by
 rw[List.append_nil]at hl⊢
 exact .of_eq (h us hl)
noncomputable def Cv(CX:Nt)(X:Cx)(E:XK):Prop:=∀(pins:List (Addr×Obj)) (σ:St) (H:Hp) (s:Shared) (e:Value) (s':Shared),Inv X pins σ H s->CX X.stack H s E e s'->X.xe e s'
section
variable{X:Cx}{CX:Nt}{k:Nat}{f C:Addr}{fd:FuncData}{ps:List Str}{sp:Sp}{dvs:List V}{ds:List Value}{E:XK}{x m:Str}{p pos apos:Pos}{e o:Expr}{es:List Expr}{ta:TE}{t:TA}
theorem Zie{pins:List (Addr×Obj)}{σ:St}{H:Hp}{s:Shared}{Q:VK}{us:List Value}{vs:List V}(F:FnOk X.prog X.w X.K X.mg X.base CX k f fd ps sp)(hr:Room k X.A)(hb:Qf X.K fd ps ds)(hd:Yb dvs ds)(hx:Cv CX X E)
  (I:Inv X pins σ H s) (r:Yb vs us) (h:sp (vs++dvs) H Q E):wpAny (model X.prog X.w) X.A (call (.ref f) us) (EP X pins σ Q) X.xe s:=by
 have r2:Yb (vs++dvs) (us++ds):=r.append hd
 have hl:(us++ds).length=ps.length:=by rw[<-r2.length];exact F.len _ _ _ _ h
 refine wpAny_call (codeAny_mono (F.run X.A X.stack s H ⟨us,[]⟩ (us++ds) (vs++dvs) Q E hr I.env0 (hb s us I.kIn hl) r2 h) fun r s' hq=>?_)
 cases r with
 |error e=>exact hx pins σ H s e s' I hq
 |ok fl=>
  cases fl with
  |ret u=>exact I.after hq
  |next=>exact False.elim hq
  |brk=>exact False.elim hq
  |cont=>exact False.elim hq
theorem Zdb(F:FnOk X.prog X.w X.K X.mg X.base CX k f fd ps sp)(hr:Room k X.A)(hg:Gl X x)(hm:X.mg x=some (.ref f))(hk:PySem.W.keepIn X.K (.ref f)=true)(hb:Qf X.K fd ps ds)(hd:Yb dvs ds)(hx:Cv CX X E)
  (ha:PA X (e::es) t) (hdb:(x==("__debug__":Str))=false:=by decide) (he:starEach (e::es) X.env=(false,eval e X.env)::starEach es X.env:=by rfl) (hpl:(backTo pos (starEach es X.env)).any (·.1)=false:=by rfl):
  PE X (.Call (.Name x p) (e::es) [] pos) (Zgg sp dvs E t):=by
 intro pins s σ H Q I h
 refine wpAny_Call_Name_kw (Jj I hg hm ?_ hdb)
 refine PySem.W.callWith_K (h₀:=X.base) I.ok.mod.kin hk (Y3 (ha pos pins s σ H _ I h) fun us s1 ⟨vs,H1,I1,r,q⟩=>⟨I1.kIn,?_⟩) he hpl
 exact Zie F hr hb hd hx I1 r q
structure Mk(K:PySem.W.Frag)(C f:Addr):Prop where
 makes:PySem.W.makesIn K C=true
 init:PySem.W.findIn K (.ref C) "__init__"=some (some (.ref f))
 fn:PySem.W.isFn K (.ref f)=true
 kp:PySem.W.keepIn K (.ref C)=true
theorem Hu{pins:List (Addr×Obj)}{σ:St}{H:Hp}{s:Shared}{Q:VK}{us:List Value}{vs:List V}(M:Mk X.K C f)(F:FnOk X.prog X.w X.K X.mg X.base CX k f fd ps sp)(hr:Room (k+1) X.A)(hb:Qf X.K fd ps ds)(hd:Yb dvs ds)
  (hx:Cv CX X E) (I:Inv X pins σ H s) (r:Yb vs us)
  (h:∀x dx,H x=none->H dx=none->dx≠x->sp (.ref x::(vs++dvs)) (Ys (Ys H dx (.own x)) x (.ins C dx [])) (fun v H2=>v= .non/\Q (.ref x) H2) E):
  wpAny (model X.prog X.w) X.A (call (.ref C) us) (EP X pins σ Q) X.xe s:=by
 have hq:=h (s.heap.objs.size+1) s.heap.objs.size (I.hok.fresh (Nat.le_succ _)) (I.hok.fresh (Nat.le_refl _)) (Nat.ne_of_lt (Nat.lt_succ_self _))
 have I2:=Inv.made (C:=C) I
 have r2:Yb (V.ref (s.heap.objs.size+1)::(vs++dvs)) (Value.ref (s.heap.objs.size+1)::(us++ds)):=.cons rfl (r.append hd)
 have hl:(Value.ref (s.heap.objs.size+1)::us++ds).length=ps.length:=by
  have e:=r2.length
  rw[F.len _ _ _ _ hq]at e
  exact e.symm
 refine wpAny_call (Hq (f:=f) I.kIn M.makes M.init (beq_iff_eq.mp M.fn) (codeAny_mono (F.run _ X.stack _ _ ⟨Value.ref (s.heap.objs.size+1)::us,[]⟩ (Value.ref (s.heap.objs.size+1)::(us++ds)) _ _ E (hr.make C us [])
  (I2.env0.make C us []) (hb _ (Value.ref (s.heap.objs.size+1)::us) I2.kIn hl) r2 hq) fun r s' hq'=>?_))
 cases r with
 |error e=>exact hx pins σ _ _ e s' I2 hq'
 |ok fl=>
  cases fl with
  |ret u=>
   obtain⟨v,H',I3,rv,ev,q3⟩:=I2.after hq'
   subst ev
   exact⟨rv,⟨V.ref (s.heap.objs.size+1),H',I3,rfl,q3⟩⟩
  |next=>exact False.elim hq'
  |brk=>exact False.elim hq'
  |cont=>exact False.elim hq'
theorem Hv(M:Mk X.K C f)(F:FnOk X.prog X.w X.K X.mg X.base CX k f fd ps sp)(hr:Room (k+1) X.A)(hg:Gl X x)(hm:X.mg x=some (.ref C))(hb:Qf X.K fd ps ds)(hd:Yb dvs ds)(hx:Cv CX X E)
  (hdb:(x==("__debug__":Str))=false:=by decide):PE X (.Call (.Name x p) [] [] pos) (Zgh C sp dvs E Mv):=by
 intro pins s σ H Q I h
 refine wpAny_Call_Name_kw (Jj I hg hm ?_ hdb)
 exact PySem.W.callWith_K0 I.kIn M.kp (Hu (us:=[]) M F hr hb hd hx I .nil h)
end
structure FnScope(N P:List Str)(sc:Scope):Prop where
 kind:sc.kind= .function
 co:sc.isCoroutine=false
 gen:sc.isGenerator=false
 nd:N.Nodup
 pre:N.take P.length=P
 par:∀x∈P,sc.names.lookup x=some .local\/sc.names.lookup x=some .cell
 nofree:∀y∈sc.names,y.2≠.free
theorem M8{kindOf:Str->Option NameKind}{x:Str}:∀{binds:List (Str×Value)} {m:Str->Option Value},(∀v,(x,v)∉binds)->bindL kindOf binds m x=m x
  | [],_,_=>rfl
  | (n,v)::r,m,h=>by
    unfold bindL
    rw[M8 fun w hw=>h w (List.mem_cons_of_mem _ hw)]
    split
    · have:x≠n:=by rintro rfl;exact h v List.mem_cons_self
      simp[this]
    · rfl
theorem M9{kindOf:Str->Option NameKind}{x:Str}:∀{binds:List (Str×Value)} {m:Str->Option Value},(∀v,(x,v)∉binds)->bindC kindOf binds m x=m x
  | [],_,_=>rfl
  | (n,v)::r,m,h=>by
    unfold bindC
    rw[M9 fun w hw=>h w (List.mem_cons_of_mem _ hw)]
    split
    · rfl
    · have:x≠n:=by rintro rfl;exact h v List.mem_cons_self
      simp[this]
theorem Ta{kindOf:Str->Option NameKind}{x:Str}{v:Value}:∀{P:List Str} {vs:List Value} {i:Nat} {m:Str->Option Value},P.Nodup->P[i]? =some x->vs[i]? =some v->kindOf x=some .local->
  bindL kindOf (P.zip vs) m x=some v
 | [],_,_,_,_,h,_,_=>by simp at h
 |_::_,[],_,_,_,_,h,_=>by simp at h
 |p::P,w::vs,0,m,nd,h1,h2,hk=>by
  simp at h1 h2;subst h1;subst h2
  show bindL kindOf ((p,w)::P.zip vs) m p=_
  unfold bindL
  rw[M8 fun v hv=>(List.nodup_cons.mp nd).1 (List.of_mem_zip hv).1,if_pos hk]
  simp
 |p::P,w::vs,i+1,m,nd,h1,h2,hk=>by
  show bindL kindOf ((p,w)::P.zip vs) m x=_
  unfold bindL
  exact Ta (i:=i) (List.nodup_cons.mp nd).2 (by simpa using h1) (by simpa using h2) hk
theorem Tb{kindOf:Str->Option NameKind}{x:Str}{v:Value}:∀{P:List Str} {vs:List Value} {i:Nat} {m:Str->Option Value},P.Nodup->P[i]? =some x->vs[i]? =some v->kindOf x≠some .local->
  bindC kindOf (P.zip vs) m x=some v
 | [],_,_,_,_,h,_,_=>by simp at h
 |_::_,[],_,_,_,_,h,_=>by simp at h
 |p::P,w::vs,0,m,nd,h1,h2,hk=>by
  simp at h1 h2;subst h1;subst h2
  show bindC kindOf ((p,w)::P.zip vs) m p=_
  unfold bindC
  rw[M9 fun v hv=>(List.nodup_cons.mp nd).1 (List.of_mem_zip hv).1,if_neg hk]
  simp
 |p::P,w::vs,i+1,m,nd,h1,h2,hk=>by
  show bindC kindOf ((p,w)::P.zip vs) m x=_
  unfold bindC
  exact Tb (i:=i) (List.nodup_cons.mp nd).2 (by simpa using h1) (by simpa using h2) hk
noncomputable def start(N:List Str)(vs:List V):St:=vs.map some++List.replicate (N.length- vs.length) none
noncomputable def O7(CX:Nt)(P:Program)(w:World)(K:PySem.W.Frag)(mg:Str->Option Value)(base:Heap)(N:List Str)(qual:Str)(scope:Scope)(f:Addr)(cd:Value)(A:Around)(outer:List Env)(s:Shared)(H:Hp)(E:XK):Cx where
 prog:=P
 w:=w
 K:=K
 mg:=mg
 base:=base
 A:=A.deeper (envOfC qual scope s.heap.objs.size f cd)
 N:=N
 s₀:=s
 H₀:=H
 env:=envOfC qual scope s.heap.objs.size f cd
 outer:=outer
 stack:=envOfC qual scope s.heap.objs.size f cd::outer
 ex:=[]
 calm:=true
 fn:=fun _=>true
 pn:=[]
 xe:=fun e s'=>wpAny (model P w) (A.deeper (envOfC qual scope s.heap.objs.size f cd)) (leaving (envOfC qual scope s.heap.objs.size f cd) e) (fun _ s''=>CX outer H s E e s'') (fun e' s''=>CX outer H s E e' s'') s'
theorem E4{sc:Scope}{n:Nat}{x:Str}(h:sc.names.lookup x=some .cell):∃c,(cellsFrom n sc.names []).lookup x=some c:=by
 have q:=PySem.W.cellsFrom_some sc.names n [] (.inl h)
 exact Option.isSome_iff_exists.mp q
theorem Vd{CX:Nt}{P:Program}{w:World}{K:PySem.W.Frag}{mg:Str->Option Value}{base:Heap}{N ps:List Str}{qual:Str}{scope:Scope}{f:Addr}{cd:Value}{A:Around}{outer:List Env}{s s1:Shared}{H:Hp}{E:XK}{us:List Value}{vs:List V}
  (S:FnScope N ps scope) (hd:A.handled=none) (e0:Env0 P w K mg base A outer s H) (hl:vs.length=ps.length) (r:Yb vs us)
  (x:InCallC s s.heap.objs.size (bindL (envOfC qual scope s.heap.objs.size f cd).kindOf (ps.zip us) fun _=>none) (cellsFrom (s.heap.objs.size+1) scope.names []) (bindC (envOfC qual scope s.heap.objs.size f cd).kindOf (ps.zip us) fun _=>none) s1):
  Inv (O7 CX P w K mg base N qual scope f cd A outer s H E) [] (start N vs) H s1:=by
 have hpl:ps.length<=N.length:=by have:=congrArg List.length S.pre;rw[List.length_take]at this;omega
 obtain⟨h1,tk,rfl,hk⟩:=x.done
 have noA:∀b:Addr,b∉(O7 CX P w K mg base N qual scope f cd A outer s H E).ex:=fun b z=>absurd (show b∈([]:List Addr)from z) (by simp)
 refine⟨⟨e0.mod,S.kind,rfl,rfl,Nat.le_refl _,fun y z c h1 h2=>?_,fun y hy=>?_,fun y c _ h=>?_,fun _=>hd,Around.frames_deeper e0.frames,.inr ⟨rfl,rfl⟩,fun b z=>absurd z (noA b),e0.bs,e0.bsz,fun b _ _=>noA b,fun b z=>absurd z (noA b),e0.funs,e0.frf⟩,
  rfl,e0.bare,Un.kept hk,⟨_,x.toInCall.ns,fun i y v h1 h2 h3=>?_⟩,fun y c h=>⟨_,x.cell y c h⟩,e0.hok.fresh (Nat.le_refl _),fun y c h=>?_,fun p hp=>absurd (show p∈([]:List (Addr×Obj))from hp) (by simp),e0.hok.kept hk,?_⟩
 ·exact name_of_addr x.apart (PySem.mem_of_lookup h1) (PySem.mem_of_lookup h2)
 ·have hy:scope.names.lookup y=some .cell\/scope.names.lookup y=some .free:=hy
  rcases hy with hy|hy
  ·exact E4 hy
  ·exact absurd rfl (S.nofree _ (PySem.mem_of_lookup hy))
 ·exact Nat.le_of_lt (x.above y c (PySem.mem_of_lookup h))
 ·have hi:i<vs.length:=by
   unfold start at h2
   by_cases hi:i<vs.length
   ·exact hi
   ·rw[List.getElem?_append_right (by simpa using hi)]at h2
    rw[List.getElem?_replicate]at h2
    split at h2<;> cases h2
  have ha:vs[i]? =some v:=by
   unfold start at h2
   rw[List.getElem?_append_left (by simpa using hi),List.getElem?_map]at h2
   cases e:vs[i]? with
   |none=>rw[e]at h2;cases h2
   |some a=>rw[e]at h2;cases h2;rfl
  obtain⟨u,hu,rv⟩:=r.get ha
  have hp:ps[i]? =some y:=by
   rw[<-S.pre,List.getElem?_take_of_lt (by omega)];exact h1
  have ndP:ps.Nodup:=by rw[<-S.pre];exact S.nd.sublist (List.take_sublist _ _)
  refine⟨u,rv,?_⟩
  rcases S.par y (List.mem_of_getElem? hp)with k|k
  ·exact .inl ⟨k,Ta ndP hp hu k⟩
  ·obtain⟨c,e⟩:=E4 (n:=s.heap.objs.size+1) k
   refine .inr ⟨.inl k,c,e,?_⟩
   have q:=x.cell y c e
   rw[Tb ndP hp hu (by show scope.names.lookup y≠_;rw[k];decide)]at q
   exact q
 ·exact e0.hok.fresh (Nat.le_of_lt (x.above y c (PySem.mem_of_lookup h)))
 ·unfold start
  show _=N.length
  rw[List.length_append,List.length_map,List.length_replicate]
  omega
theorem Zgi{CX:Nt}{P:Program}{w:World}{K:PySem.W.Frag}{mg:Str->Option Value}{base:Heap}{k:Nat}{f:Addr}{name qual:Str}{params:Arguments}{body:List Stmt}{scope:Scope}{dV kV doc pm cdv ct oc:Value}{an od:Option Addr}
  {osl:Array (Option Value)} {N ps:List Str} {sp:Sp} (lk:K.lookup f=some ⟨oc,od,.func (PySem.W.fnOf name qual params body scope dV kV doc pm an cdv ct),osl⟩) (hcd:PySem.W.codeIn K cdv qual=true) (S:FnScope N ps scope)
  (len:∀vs H Q E,sp vs H Q E->vs.length=ps.length)
  (hbody:∀(A:Around) (outer:List Env) (s:Shared) (H:Hp) (vs:List V) (Q:VK) (E:XK),Room k (A.deeper (envOfC qual scope s.heap.objs.size f cdv))->sp vs H Q E->
   ∃t,Ob (O7 CX P w K mg base N qual scope f cdv A outer s H E) body t/\t {nx:=fun _ H'=>Q .non H',rt:=Q} (start N vs) H):
  FnOk P w K mg base CX (k+1) f (PySem.W.fnOf name qual params body scope dV kV doc pm an cdv ct) ps sp:=by
 refine⟨len,fun A outer s H args us vs Q E hr e0 hb r hsp=>?_⟩
 have hl:=len _ _ _ _ hsp
 have KX:K.In s.heap:=e0.mod.kin.keeps fun b o e=>(e0.bs b o e).1
 have lim:s.heap.NoLimit:=e0.mod.nolimit.keeps fun b o e=>(e0.bs b o e).1
 have hkind:∀y∈ps.zip us,scope.names.lookup y.1=some .local\/(scope.names.lookup y.1=some .cell/\((cellsFrom (s.heap.objs.size+1) scope.names []).lookup y.1).isSome=true):=fun⟨n,v⟩ hy=>by
  rcases S.par n (List.of_mem_zip hy).1 with q|q
  ·exact .inl q
  ·exact .inr ⟨q,PySem.W.cellsFrom_some _ _ _ (.inl q)⟩
 refine codeAny_call_function hr.depth (KX _ _ lk) rfl S.co S.gen rfl (PySem.W.codeRec_of KX hcd) (hb _ _ _ _ ?_)
 refine wpAny_newFunctionEnv_cells S.kind hkind fun env he s1 x=>?_
 subst he
 refine⟨lim.keeps x.toInCall.keep,codeAny_func ?_⟩
 obtain⟨t,ht,hq⟩:=hbody A outer s H vs Q E (hr.deeper _) hsp
 have I:Inv (O7 CX P w K mg base N qual scope f cdv A outer s H E) [] (start N vs) H s1:=Vd S hr.hd e0 hl r x
 refine wpAny_mono (ht [] s1 (start N vs) H _ I hq) (fun fl s' hs=>?_) fun e s' hs=>hs
 have fin:∀{σ':St} {H':Hp} {v:V} {u:Value},Inv (O7 CX P w K mg base N qual scope f cdv A outer s H E) [] σ' H' s'->Zw v u->Q v H'->CE outer P w H s Q u s':=
  fun{σ' H' v u} J rv q=>⟨v,H',J.os,J.bare,J.base,J.hok,rv,q⟩
 cases fl with
 |ret u=>
  obtain⟨v,σ',H',J,rv,q⟩:=hs
  exact fin J rv q
 |next=>
  obtain⟨σ',H',J,q⟩:=hs
  exact fin (v:=V.non) (u:=Value.none) J rfl q
 |brk=>
  obtain⟨_,_,_,q⟩:=hs
  exact False.elim q
 |cont=>
  obtain⟨_,_,_,q⟩:=hs
  exact False.elim q
section
variable{X:Cx}{x:Str}{p pos:Pos}{e:Expr}{es:List Expr}{t:TA}{id T:String}{r:List V->Hp->VK->Prop}
noncomputable def tCB(r:List V->Hp->VK->Prop)(t:TA):TE:=fun σ H Q=>t σ H fun vs H1=>r vs H1 Q
theorem B0(hc:Jl X (.builtin id) r)(hg:Gl X x)(hm:X.mg x=none)(hv:bootBuiltins x=some (.builtin id))(ha:PA X (e::es) t)(hn:x≠"__name__":=by decide)(hdb:(x==("__debug__":Str))=false:=by decide)
  (he:starEach (e::es) X.env=(false,eval e X.env)::starEach es X.env:=by rfl) (hpl:(backTo pos (starEach es X.env)).any (·.1)=false:=by rfl):PE X (.Call (.Name x p) (e::es) [] pos) (tCB r t):=by
 intro pins s σ H Q I h
 refine wpAny_Call_Name_kw (Rm I hg hm hv ?_ hn hdb)
 exact PyProof.Rows.callWith_builtin1 (Y3 (ha pos pins s σ H _ I h) fun us s1 ⟨vs,H1,I1,r1,q1⟩=>hc pins s1 σ H1 vs us Q I1 r1 q1) he hpl
theorem Ve(hc:Jl X (.type T) r)(hg:Gl X x)(hm:X.mg x=none)(hv:bootBuiltins x=some (.type T))(ha:PA X (e::es) t)(hn:x≠"__name__":=by decide)(hdb:(x==("__debug__":Str))=false:=by decide)
  (he:starEach (e::es) X.env=(false,eval e X.env)::starEach es X.env:=by rfl) (hpl:(backTo pos (starEach es X.env)).any (·.1)=false:=by rfl):PE X (.Call (.Name x p) (e::es) [] pos) (tCB r t):=by
 intro pins s σ H Q I h
 refine wpAny_Call_Name_kw (Rm I hg hm hv ?_ hn hdb)
 exact PyProof.Rows.callWith_type1 (Y3 (ha pos pins s σ H _ I h) fun us s1 ⟨vs,H1,I1,r1,q1⟩=>hc pins s1 σ H1 vs us Q I1 r1 q1) he hpl
end
end L2
namespace HT
open PySem PyProof.Rows
noncomputable def Tc:List Int->List Int->Bool
 | [],[]=>false
 | [],_::_=>true
 |_::_,[]=>false
 |x::xs,y::ys=>if x=y then Tc xs ys else decide (x<y)
theorem Zif(x y:Int)(xs ys:List Int):Tc (x::xs) (y::ys)=if x=y then Tc xs ys else decide (x<y):=rfl
theorem Zcs:Tc [] []=false:=rfl
theorem Hw(y:Int)(ys:List Int):Tc [] (y::ys)=true:=rfl
theorem Hx(x:Int)(xs:List Int):Tc (x::xs) []=false:=rfl
section
variable{prog:Program}{w:World}{A:Around}{E:Value->Shared->Prop}{s:Shared}
noncomputable def sIx(n d:Nat):Option Int->Nat
 |none=>d
 |some v=>if v<0 then(v+(n:Int)).toNat else min v.toNat n
theorem Zl4(n d:Nat):sIx n d none=d:=rfl
end
end HT
namespace L2
open PySem PySem.Spec PyProof.Rows
noncomputable abbrev TO:=St->Hp->(Option Int->Hp->Prop)->Prop
noncomputable def PO(X:Cx)(e:Option Expr)(t:TO):Prop:=
 ∀(pins:List (Addr×Obj)) (s:Shared) (σ:St) (H:Hp) (Q:Option Int->Hp->Prop),Inv X pins σ H s->t σ H Q->
  wpAny (model X.prog X.w) X.A (evalPart e X.env) (fun u s'=>∃o H',Inv X pins σ H' s'/\IsPart u o/\Q o H') X.xe s
noncomputable def Zgj(t:TE):TO:=fun σ H Q=>t σ H fun x H1=>∃i,x= .int i/\Q (some i) H1
section
variable{X:Cx}{e:Expr}{te:TE}{lo hi:Option Expr}{tl th:TO}{pos p2:Pos}
theorem Zdc(h:PE X e te):PO X (some e) (Zgj te):=by
 intro pins s σ H Q I hw
 rw[evalPart_some]
 refine Y3 (h pins s σ H _ I hw) fun u s1 zq9=>?_
 obtain⟨x,H1,I1,r1,q1⟩:=zq9
 obtain⟨i,rfl,q⟩:=q1
 obtain⟨t,rfl⟩:=r1
 exact⟨some i,H1,I1,.int i t,q⟩
noncomputable def SlR(X:Cx)(r:V->Option Int->Option Int->Hp->VK->Prop):Prop:=
 ∀(pins:List (Addr×Obj)) (s:Shared) (σ:St) (H:Hp) (x:V) (v vl vu:Value) (lo hi:Option Int) (sl:Addr) (Q:VK),Inv X pins σ H s->Zw x v->s.heap.IsSliceOf sl vl vu .none->IsPart vl lo->IsPart vu hi->r x lo hi H Q->
  ∃T id,typeLookup (.type T) "__getitem__"=pure (some (.builtin id))/\s.TypeIs v T/\wpAny (model X.prog X.w) X.A (getItem v (.ref sl)) (EP X pins σ Q) X.xe s
theorem SlR.or{r r':V->Option Int->Option Int->Hp->VK->Prop}(h:SlR X r)(h':SlR X r'):SlR X (fun x lo hi H Q=>r x lo hi H Q\/r' x lo hi H Q):=by
 intro pins s σ H x v vl vu lo hi sl Q I rx hs pl pu q
 rcases q with q|q
 ·exact h pins s σ H x v vl vu lo hi sl Q I rx hs pl pu q
 ·exact h' pins s σ H x v vl vu lo hi sl Q I rx hs pl pu q
noncomputable def tSl(r:V->Option Int->Option Int->Hp->VK->Prop)(te:TE)(tl th:TO):TE:=fun σ H Q=>te σ H fun x H1=>tl σ H1 fun l H2=>th σ H2 fun u H3=>r x l u H3 Q
theorem Hy{r:V->Option Int->Option Int->Hp->VK->Prop}(hr:SlR X r)(he:PE X e te)(hl:PO X lo tl)(hu:PO X hi th):PE X (.Subscript e (.Slice lo hi none p2) pos) (tSl r te tl th):=by
 intro pins s σ H Q I h
 refine Subscript_ (Y3 (he pins s σ H _ I h) fun v s1 zq9=>?_)
 obtain⟨x,H1,I1,r1,q1⟩:=zq9
 refine wpAny_Slice (Y3 (hl pins s1 σ H1 _ I1 q1) fun vl s2 ⟨l,H2,I2,pl,q2⟩=>Y3 (hu pins s2 σ H2 _ I2 q2) fun vu s3 zq9=>?_)
 obtain⟨u,H3,I3,pu,q3⟩:=zq9
 rw[evalPart_none]
 refine wpAny_pure ?_
 have I4:Inv X pins σ H3 {s3 with heap:=s3.heap.push {cls:=.type "slice",data:=.fields #[vl,vu,.none]}}:=I3.kept (t':=s3.toks) fun b ob q=>Heap.get?_push_of_some _ q
 obtain⟨T,id,hT,ht,hg⟩:=hr pins {s3 with heap:=s3.heap.push {cls:=.type "slice",data:=.fields #[vl,vu,.none]}} σ H3 x v vl vu l u s3.heap.objs.size Q I4 r1 (Heap.IsSliceOf.new ..) pl pu q3
 show wpAny (model X.prog X.w) X.A (subscriptTail e (.Slice lo hi none p2) v (.ref s3.heap.objs.size)) (EP X pins σ Q) X.xe {s3 with heap:=s3.heap.push {cls:=.type "slice",data:=.fields #[vl,vu,.none]}}
 exact tail_any (ops:=[.ref s3.heap.objs.size,v]) ht hT hg (by with_unfolding_all rfl)
noncomputable def Vf(xs:List V)(lo hi:Option Int):List V:=(xs.drop (HT.sIx xs.length 0 lo)).take (HT.sIx xs.length xs.length hi- HT.sIx xs.length 0 lo)
theorem E5(xs:List V)(lo hi:Option Int):(Vf xs lo hi).length<=xs.length:=by
 unfold Vf
 rw[List.length_take,List.length_drop]
 omega
end
noncomputable def ixN(n:Nat)(i:Int):Option Nat:=if 0<=i then(if i<n then some i.toNat else none)else if-(n:Int)<=i then some (i+n).toNat else none
noncomputable def atI{α:Type}(xs:List α)(i:Int):Option α:=(ixN xs.length i).bind fun j=>xs[j]?
theorem Zdd{n:Nat}{i:Int}{j:Nat}(h:ixN n i=some j):seqIndex? i n=some j/\j<n/\-(n:Int)<=i/\i<n:=by
 unfold ixN at h
 by_cases h0:0<=i
 ·rw[if_pos h0]at h
  by_cases h1:i<n
  ·rw[if_pos h1]at h
   have e:i.toNat=j:=Option.some.inj h
   exact⟨by rw[seqIndex_of h0 h1,e],by omega,by omega,h1⟩
  ·rw[if_neg h1]at h;cases h
 ·rw[if_neg h0]at h
  by_cases h1:-(n:Int)<=i
  ·rw[if_pos h1]at h
   have e:(i+n).toNat=j:=Option.some.inj h
   exact⟨by rw[seqIndex_neg (by omega) h1,e],by omega,h1,by omega⟩
  ·rw[if_neg h1]at h;cases h
theorem Ao{α:Type}{xs:List α}{i:Int}{v:α}(h:atI xs i=some v):∃j,seqIndex? i xs.length=some j/\xs[j]? =some v/\j<xs.length/\-(xs.length:Int)<=i/\i<xs.length:=by
 unfold atI at h
 cases e:ixN xs.length i with
 |none=>rw[e]at h;cases h
 |some j=>
  rw[e]at h
  obtain⟨h1,h2,h3,h4⟩:=Zdd e
  exact⟨j,h1,h,h2,h3,h4⟩
theorem B3{α:Type}{xs:List α}{j:Nat}{v:α}(h:xs[j]? =some v):atI xs (j:Int)=some v:=by
 have hj:j<xs.length:=(List.getElem?_eq_some_iff.mp h).1
 have e:ixN xs.length (j:Int)=some j:=by
  unfold ixN
  rw[if_pos (by omega),if_pos (by omega)];simp
 unfold atI;rw[e];exact h
noncomputable def B4(b:Expr):Prop:=∀o i,subscripted b false o i=operate [o,i] (getItem o i)
noncomputable def IxR(X:Cx)(r:R2):Prop:=
 ∀(value slice:Expr) (pins:List (Addr×Obj)) (s:Shared) (σ:St) (H:Hp) (x y:V) (v u:Value) (Q:VK),Inv X pins σ H s->Zw x v->Zw y u->r x y H Q->
  subscripted slice false v u=operate [v,u] (getItem v u)->wpAny (model X.prog X.w) X.A (subscriptTail value slice v u) (EP X pins σ Q) X.xe s
noncomputable def MtR(X:Cx)(id:String)(r:V->List V->Hp->VK->Prop):Prop:=
 ∀(pins:List (Addr×Obj)) (s:Shared) (σ:St) (H:Hp) (x:V) (xs:List V) (v:Value) (us:List Value) (Q:VK),Inv X pins σ H s->Zw x v->Yb xs us->r x xs H Q->
  wpAny (model X.prog X.w) X.A (call (.builtin id) (v::us)) (EP X pins σ Q) X.xe s
section
variable{X:Cx}{a b:Expr}{ta tb:TE}{pos:Pos}
theorem IxR.or{r r':R2}(h:IxR X r)(h':IxR X r'):IxR X (fun x y H Q=>r x y H Q\/r' x y H Q):=by
 intro value slice pins s σ H x y v u Q I rx ry q hs
 rcases q with q|q
 ·exact h value slice pins s σ H x y v u Q I rx ry q hs
 ·exact h' value slice pins s σ H x y v u Q I rx ry q hs
theorem Nu{r:R2}(hr:IxR X r)(ha:PE X a ta)(hb:PE X b tb)(hs:B4 b):PE X (.Subscript a b pos) (tOp r ta tb):=by
 intro pins s σ H Q I h
 exact Subscript_ (Zh2 ha hb I h fun v u s2 x y H2 I2 rx ry q=>hr a b pins s2 σ H2 x y v u Q I2 rx ry q (hs _ _))
noncomputable def Vg(K:PySem.W.Frag):R2:=fun x y H Q=>∃p xs i v,x= .ref p/\y= .int i/\Of K H p xs/\atI xs i=some v/\Q v H
noncomputable def Ky(K:PySem.W.Frag):R2:=fun x y H Q=>∃p xs i v,x= .ref p/\y= .int i/\Mu K H p xs/\atI xs i=some v/\Q v H
noncomputable def Zl6:R2:=fun x y H Q=>∃z i c,x= .str z/\y= .int i/\z.length<=sizeLine/\atI z.cps.toList i=some c/\Q (.str ⟨#[c]⟩) H
theorem Ap:IxR X (Vg X.K):=by
 intro value slice pins s σ H x y v u Q I rx ry h hs
 obtain⟨p,xs,i,z,rfl,rfl,hq,he,q⟩:=h
 cases rx
 obtain⟨t,rfl⟩:=ry
 obtain⟨its,r,pl,hz⟩:=I.list hq
 obtain⟨j,h1,h2,h3,h4,h5⟩:=Ao he
 obtain⟨w,ew,rw'⟩:=r.get h2
 have hl:=r.length
 have hn:=Rp
 have fin:EP X pins σ Q w s:=⟨z,H,I,rw',q⟩
 by_cases h0:0<=i
 ·have hj:i.toNat=j:=by
   rw[seqIndex_of h0 h5]at h1
   exact Option.some.inj h1
  exact item_listR pl.isList h0 (by omega) (by rw[hj];simpa using ew) fin hs
 ·have hj:(i+(its.toArray.size:Int)).toNat=j:=by
   rw[seqIndex_neg (by omega) h4]at h1
   rw[List.size_toArray,<-hl]
   exact Option.some.inj h1
  exact subscriptTail_builtinR (x:=w) pl.isList.typeIs slot_list_getitem.lookup
   (wpAny_getItem_list_neg (Q:=fun r s'=>r=w/\EP X pins σ Q r s') pl.isList (by omega) (by rw[List.size_toArray]<;> omega) (by omega) (by rw[hj];simpa using ew) ⟨rfl,fin⟩) hs
theorem Aq:IxR X (Ky X.K):=by
 intro value slice pins s σ H x y v u Q I rx ry h hs
 obtain⟨p,xs,i,z,rfl,rfl,hq,he,q⟩:=h
 cases rx
 obtain⟨t,rfl⟩:=ry
 obtain⟨its,r,pl,hz⟩:=I.tuple hq
 obtain⟨j,h1,h2,h3,h4,h5⟩:=Ao he
 obtain⟨w,ew,rw'⟩:=r.get h2
 have hl:=r.length
 have hn:=Rp
 have fin:EP X pins σ Q w s:=⟨z,H,I,rw',q⟩
 exact subscriptTail_builtinR (x:=w) pl.typeIs slot_tuple_getitem.lookup
  (getItem_tuple (j:=j) (Q:=fun r s'=>r=w/\EP X pins σ Q r s') pl (by omega) (by omega) (by rw[List.size_toArray,<-hl];exact h1) (by simpa using ew) ⟨rfl,fin⟩) hs
theorem Zii:IxR X Zl6:=by
 intro value slice pins s σ H x y v u Q I rx ry h hs
 obtain⟨z,i,c,rfl,rfl,hz,he,q⟩:=h
 obtain⟨t,rfl⟩:=rx
 obtain⟨t',rfl⟩:=ry
 obtain⟨j,h1,h2,h3,h4,h5⟩:=Ao he
 have hl:z.cps.toList.length=z.length:=by simp[Str.length]
 rw[hl]at h1 h4 h5
 have hn:=Rp
 exact tail_any (typeIs_str s z t) slot_str_getitem.lookup (getItem_str (c:=c) (by
  have e1:decide (i< -(2^63:Int))=false:=decide_eq_false (by omega)
  have e2:decide (i>=2^63)=false:=decide_eq_false (by omega)
  rw[e1,e2,Bool.or_false]) (by rw[h1];simpa using h2) ⟨.str ⟨#[c]⟩,H,I.tok _,⟨_,rfl⟩,q⟩) hs
noncomputable def rIx(K:PySem.W.Frag):R2:=fun x y H Q=>Vg K x y H Q\/Ky K x y H Q\/Zl6 x y H Q
theorem Zij:IxR X (rIx X.K):=Ap.or (Aq.or Zii)
theorem Ar(lo hi:Option Int)(n:Nat):(sliceBounds lo hi none n).1=((HT.sIx n 0 lo:Nat):Int)/\(sliceBounds lo hi none n).2.1=((HT.sIx n n hi:Nat):Int)/\(sliceBounds lo hi none n).2.2=1:=by
 refine⟨?_,?_,rfl⟩
 ·cases lo with
  |none=>simp[sliceBounds,HT.sIx]
  |some i=>
   simp only[sliceBounds,HT.sIx,Option.getD_none,show(1:Int) > 0 by decide,if_true]
   by_cases h:i<0
   ·simp only[h,if_true]<;> omega
   ·simp only[h,if_false]<;> omega
 ·cases hi with
  |none=>simp[sliceBounds,HT.sIx]
  |some i=>
   simp only[sliceBounds,HT.sIx,Option.getD_none,show(1:Int) > 0 by decide,if_true]
   by_cases h:i<0
   ·simp only[h,if_true]<;> omega
   ·simp only[h,if_false]<;> omega
theorem Mw(its:List Value)(lo hi:Option Int):slicePick its.toArray lo hi none=((its.drop (HT.sIx its.length 0 lo)).take (HT.sIx its.length its.length hi- HT.sIx its.length 0 lo)).toArray:=by
 obtain⟨h1,h2,h3⟩:=Ar lo hi its.toArray.size
 unfold slicePick
 rw[h1,h2,h3]
 simp only[sliceRange_one,pick_run,List.size_toArray]<;> rfl
noncomputable def Zl7(K:PySem.W.Frag):V->Option Int->Option Int->Hp->VK->Prop:=fun x lo hi H Q=>∃a xs,x= .ref a/\Of K H a xs/\∀p,H p=none->Q (.ref p) (Ys H p (.lst (Vf xs lo hi)))
theorem Zdf:SlR X (Zl7 X.K):=by
 intro pins s σ H x v vl vu lo hi sl Q I rx hs pl pu h
 obtain⟨a,xs,rfl,hx,q⟩:=h
 cases rx
 obtain⟨its,r,ht,hz⟩:=I.list hx
 have hlen:=r.length
 refine⟨"list",_,slot_list_getitem.lookup,ht.isList.typeIs,?_⟩
 refine wpAny_getItem_list_slice ht.isList hs pl pu .none (by simp) ?_ (by rw[List.size_toArray]<;> omega)
 rw[Mw,<-hlen]
 refine⟨.ref s.heap.objs.size,_,I.laid (t':=s.toks) (o:=.lst (Vf xs lo hi)) (fun b ob q=>Heap.get?_push_of_some _ q) (Nat.le_refl _) ?_,rfl,q _ (I.hok.fresh (Nat.le_refl _))⟩
 exact⟨Nat.le_trans (E5 xs lo hi) hz,_,0,(r.drop (HT.sIx xs.length 0 lo)).take (HT.sIx xs.length xs.length hi- HT.sIx xs.length 0 lo),Heap.get?_push_size _ rfl⟩
noncomputable def Wc:V->Bool
 | .non=>true
 | .bl _=>true
 | .int _=>true
 | .str _=>true
 |_=>false
noncomputable def Kz:V->V->Bool
 | .non,.non=>true
 | .bl a,.bl b=>a==b
 | .bl a,.int b=>(if a then 1 else 0)==b
 | .int a,.bl b=>a==(if b then 1 else 0)
 | .int a,.int b=>a==b
 | .str a,.str b=>a==b
 |_,_=>false
theorem Hz{A:Around}{s:Shared}{y x:V}{u v:Value}(ry:Zw y u)(rx:Zw x v)(fy:Wc y=true)(fx:Wc x=true):SeqAt.EqAt A s u v (Kz y x):=by
 cases y with
 |non=>
  cases ry
  cases x with
  |non=>cases rx;exact SeqAt.EqAt.same _
  |bl b=>cases rx;exact SeqAt.EqAt.none_bool b
  |int b=>obtain⟨t,rfl⟩:=rx;exact SeqAt.EqAt.none_int b t
  |str b=>obtain⟨t,rfl⟩:=rx;exact SeqAt.EqAt.none_str b t
  |_=>exact absurd (show false=true from fx) Bool.false_ne_true
 |bl a=>
  cases ry
  cases x with
  |non=>cases rx;exact SeqAt.EqAt.bool_none a
  |bl b=>cases rx;exact SeqAt.EqAt.bool_bool a b
  |int b=>obtain⟨t,rfl⟩:=rx;exact SeqAt.EqAt.bool_int a b t
  |str b=>obtain⟨t,rfl⟩:=rx;exact SeqAt.EqAt.bool_str a b t
  |_=>exact absurd (show false=true from fx) Bool.false_ne_true
 |int a=>
  obtain⟨t',rfl⟩:=ry
  cases x with
  |non=>cases rx;exact SeqAt.EqAt.int_none a t'
  |bl b=>cases rx;exact SeqAt.EqAt.int_bool a t' b
  |int b=>obtain⟨t,rfl⟩:=rx;exact SeqAt.EqAt.int_int a t' b t
  |str b=>obtain⟨t,rfl⟩:=rx;exact SeqAt.EqAt.int_str a t' b t
  |_=>exact absurd (show false=true from fx) Bool.false_ne_true
 |str a=>
  obtain⟨t',rfl⟩:=ry
  cases x with
  |non=>cases rx;exact SeqAt.EqAt.str_none a t'
  |bl b=>cases rx;exact SeqAt.EqAt.str_bool a t' b
  |int b=>obtain⟨t,rfl⟩:=rx;exact SeqAt.EqAt.str_int a t' b t
  |str b=>obtain⟨t,rfl⟩:=rx;exact SeqAt.EqAt.str_str a t' b t
  |_=>exact absurd (show false=true from fx) Bool.false_ne_true
 |_=>exact absurd (show false=true from fy) Bool.false_ne_true
noncomputable def K2(x:V)(u:Value):Bool:=match u with
 | .none=>Kz .non x
 | .bool b=>Kz (.bl b) x
 | .int i _=>Kz (.int i) x
 | .str z _=>Kz (.str z) x
 |_=>false
theorem H0{x y:V}{u:Value}(r:Zw y u)(f:Wc y=true):K2 x u=Kz y x:=by
 cases y with
 |non=>cases r;rfl
 |bl b=>cases r;rfl
 |int i=>obtain⟨t,rfl⟩:=r;rfl
 |str z=>obtain⟨t,rfl⟩:=r;rfl
 |_=>exact absurd (show false=true from f) Bool.false_ne_true
theorem B5{x:V}:∀{xs:List V} {us:List Value},Yb xs us->xs.all Wc=true->us.any (K2 x)=xs.any fun y=>Kz y x
 |_,_,.nil,_=>rfl
 |y::xs,u::us,.cons r t,f=>by
  rw[List.all_cons,Bool.and_eq_true]at f
  rw[List.any_cons,List.any_cons,H0 r f.1,B5 t f.2]
theorem Og{A:Around}{s:Shared}{x:V}{v:Value}(rx:Zw x v)(fx:Wc x=true):∀{xs:List V} {us:List Value},Yb xs us->xs.all Wc=true->∀u∈us,SeqAt.EqAt A s u v (K2 x u)
 |_,_,.nil,_=>fun u hu=>by cases hu
 |y::xs,u::us,.cons r t,f=>fun u' hu=>by
  rw[List.all_cons,Bool.and_eq_true]at f
  rcases List.mem_cons.mp hu with rfl|hu
  ·rw[H0 r f.1];exact Hz r rx f.1 fx
  ·exact Og rx fx t f.2 u' hu
noncomputable def inV(x:V)(xs:List V):Bool:=xs.any fun y=>Kz y x
noncomputable def rIn(K:PySem.W.Frag)(neg:Bool):R2:=fun x y H Q=>∃p xs,y= .ref p/\(Of K H p xs\/Mu K H p xs)/\Wc x=true/\xs.all Wc=true/\Q (.bl (if neg then !inV x xs else inV x xs)) H
theorem Td:Jk X (compareOp .In) (rIn X.K false):=by
 intro pins s σ H x y v u Q I rx ry h
 obtain⟨p,xs,rfl,hq,fx,fs,q⟩:=h
 cases ry
 rcases hq with hq|hq
 ·obtain⟨its,r,pl,hz⟩:=I.list hq
  refine SeqAt.in_listAt (K2 x) pl.isList (fun w hw=>Og rx fx r fs w (by simpa using hw)) ⟨.bl _,H,I,rfl,?_⟩
  rw[show its.toArray.any (K2 x)=its.any (K2 x) by simp,B5 r fs]
  exact q
 ·obtain⟨its,r,pl,hz⟩:=I.tuple hq
  refine SeqAt.in_tupleAt (K2 x) pl (fun w hw=>Og rx fx r fs w (by simpa using hw)) ⟨.bl _,H,I,rfl,?_⟩
  rw[show its.toArray.any (K2 x)=its.any (K2 x) by simp,B5 r fs]
  exact q
theorem As:Jk X (compareOp .NotIn) (rIn X.K true):=by
 intro pins s σ H x y v u Q I rx ry h
 obtain⟨p,xs,rfl,hq,fx,fs,q⟩:=h
 cases ry
 rcases hq with hq|hq
 ·obtain⟨its,r,pl,hz⟩:=I.list hq
  refine SeqAt.notIn_listAt (K2 x) pl.isList (fun w hw=>Og rx fx r fs w (by simpa using hw)) ⟨.bl _,H,I,rfl,?_⟩
  rw[show its.toArray.any (K2 x)=its.any (K2 x) by simp,B5 r fs]
  exact q
 ·obtain⟨its,r,pl,hz⟩:=I.tuple hq
  refine SeqAt.notIn_tupleAt (K2 x) pl (fun w hw=>Og rx fx r fs w (by simpa using hw)) ⟨.bl _,H,I,rfl,?_⟩
  rw[show its.toArray.any (K2 x)=its.any (K2 x) by simp,B5 r fs]
  exact q
theorem Au:Jk X (compareOp .NotIn) (fun x y H Q=>∃i j,x= .str i/\y= .str j/\Q (.bl (!(!(Builtin.Str.occurrences j i 0 j.length 1).isEmpty))) H):=by
 intro pins s σ H x y v u Q I rx ry h
 obtain⟨i,j,rfl,rfl,q⟩:=h
 obtain⟨t,rfl⟩:=rx
 obtain⟨t',rfl⟩:=ry
 exact notIn_str ⟨.bl _,H,I,rfl,q⟩
theorem Av:Jl X (.builtin "len") (fun xs H Q=>∃p ys,xs=[.ref p]/\(Of X.K H p ys\/Mu X.K H p ys)/\Q (.int ys.length) H):=by
 intro pins s σ H xs us Q I r h
 obtain⟨p,ys,rfl,hq,q⟩:=h
 obtain⟨u,rfl,rx⟩:=Bz r
 cases rx
 have hn:=Rp
 rcases hq with hq|hq
 ·obtain⟨its,r',pl,hz⟩:=I.list hq
  have hlen:=r'.length
  exact Calls.call_len_list pl.isList (by simp only[List.size_toArray]<;> omega) ⟨.int ys.length,H,I.tok _,⟨s.toks+1,by rw[List.size_toArray,hlen]⟩,q⟩
 ·obtain⟨its,r',pl,hz⟩:=I.tuple hq
  have hlen:=r'.length
  exact len_tuple pl (by simp only[List.size_toArray]<;> omega) ⟨.int ys.length,H,I.tok _,⟨s.toks+1,by rw[List.size_toArray,hlen]⟩,q⟩
theorem Aw:Jl X (.builtin "len") (fun xs H Q=>∃z,xs=[.str z]/\z.length<=sizeLine/\Q (.int z.length) H):=by
 intro pins s σ H xs us Q I r h
 obtain⟨z,rfl,hz,q⟩:=h
 obtain⟨u,rfl,t,rfl⟩:=Bz r
 have hn:=Rp
 exact len_str (by omega) ⟨.int z.length,H,I.tok _,⟨_,rfl⟩,q⟩
theorem Jl.or{f:Value}{r r':List V->Hp->VK->Prop}(h:Jl X f r)(h':Jl X f r'):Jl X f (fun xs H Q=>r xs H Q\/r' xs H Q):=by
 intro pins s σ H xs us Q I rs q
 rcases q with q|q
 ·exact h pins s σ H xs us Q I rs q
 ·exact h' pins s σ H xs us Q I rs q
noncomputable def tyV(K:PySem.W.Frag)(T:String)(x:V)(H:Hp):Prop:=match x with
 | .str _=>T="str"
 | .int _=>T="int"
 | .ref p=>(T="list"/\∃xs,Of K H p xs)\/(T="tuple"/\∃o,K.lookup p=some o/\o.cls= .type "tuple"/\o.dict=none)\/
   (T="dict"/\((∃kvs,HK H p kvs)\/∃kvs,HTt H p kvs))\/(T="set"/\∃S n,H p=some (.set S n))
 |_=>False
theorem Zik{pins:List (Addr×Obj)}{σ:St}{H:Hp}{s:Shared}{T:String}{x:V}{v:Value}(I:Inv X pins σ H s)(r:Zw x v)(ty:tyV X.K T x H):
  s.TypeIs v T/\∀a,v= .ref a->∃ob,s.heap.get? a=some ob/\ob.dict=none:=by
 cases x with
 |str z=>
  obtain⟨t,rfl⟩:=r
  cases(show T="str"from ty)
  exact⟨typeIs_str s z t,fun _ e=>nomatch e⟩
 |int i=>
  obtain⟨t,rfl⟩:=r
  cases(show T="int"from ty)
  exact⟨typeIs_int s i t,fun _ e=>nomatch e⟩
 |ref p=>
  cases r
  rcases ty with⟨rfl,xs,hq⟩|⟨rfl,o,hk,hc,hd⟩|⟨rfl,hk⟩|⟨rfl,S,n,hk⟩
  ·obtain⟨its,_,pl,_⟩:=I.list hq
   refine⟨pl.isList.typeIs,fun a e=>?_⟩
   cases e
   obtain⟨o,n,e,c,hd,_⟩:=pl
   exact⟨o,e,hd⟩
  ·refine⟨⟨o,I.kIn p o hk,hc⟩,fun a e=>?_⟩
   cases e
   exact⟨o,I.kIn _ o hk,hd⟩
  ·have z:∃o,s.heap.get? p=some o/\o.ExactDict:=by
    rcases hk with⟨kvs,ep,hk⟩|⟨kvs,ep,bs,hk⟩
    ·obtain⟨_,_,_,_,o,_,e,ex,_⟩:=I.hok p _ hk
     exact⟨o,e,ex⟩
    ·obtain⟨_,_,_,_,o,_,e,ex,_⟩:=I.hok p _ hk
     exact⟨o,e,ex⟩
   obtain⟨o,e,ex⟩:=z
   refine⟨⟨o,e,ex.1⟩,fun a e2=>?_⟩
   cases e2
   exact⟨o,e,ex.2.1⟩
  ·obtain⟨o,_,_,_,e,ex,_⟩:=I.hok p _ hk
   refine⟨⟨o,e,ex.1⟩,fun a e2=>?_⟩
   cases e2
   exact⟨o,e,ex.2.1⟩
 |_=>exact False.elim ty
noncomputable def tBM(K:PySem.W.Frag)(T:String)(r:V->List V->Hp->VK->Prop)(to:TE)(t:TA):TE:=fun σ H Q=>to σ H fun x H1=>tyV K T x H1/\t σ H1 fun xs H2=>r x xs H2 Q
variable{o e:Expr}{es:List Expr}{to:TE}{t:TA}{name:Str}{apos cpos:Pos}{T id:String}{r:V->List V->Hp->VK->Prop}
theorem E6(pa:PlainAttrs T)(slot:Slot T name id)(hty:typeOf (.builtin id)=pure (.type "method_descriptor"))(hm:MtR X id r)(ho:PE X o to)(ha:PA X (e::es) t)
  (hbase:attributeBase o name X.env (eval o X.env)=eval o X.env:=by rfl)
  (hfew:((backTo cpos (starEach (e::es) X.env)).all (fun x=>!x.1)&&(backToKw cpos (keywordEach [] X.env)).all (fun x=>x.1.isSome)
   &&decide ((e::es).length+([]:List Keyword).length+(if([]:List Keyword).isEmpty then 0 else 1)<30))=true:=by rfl)
  (hline:(apos.endLine==cpos.line)=true:=by rfl) (hs:starEach (e::es) X.env=(false,eval e X.env)::starEach es X.env:=by rfl) (hplain:(backTo cpos (starEach es X.env)).any (·.1)=false:=by rfl):
  PE X (.Call (.Attribute o name apos) (e::es) [] cpos) (tBM X.K T r to t):=by
 intro pins s σ H Q I h
 refine wpAny_Call_method_late hbase hfew hline rfl (Y3 (ho pins s σ H _ I h) fun v s1 zq9=>?_)
 obtain⟨x,H1,I1,r1,ty,q1⟩:=zq9
 obtain⟨h1,h2⟩:=Zik I1 r1 ty
 refine⟨T,id,pa,slot,hty,h1,h2,?_⟩
 have hA:=ha cpos pins s1 σ H1 _ I1 q1
 rw[hs]at hA⊢
 refine Calls.callWith_builtin (by show(false|| (backTo cpos (starEach es X.env)).any (·.1))=false;rw[hplain]<;> rfl) (Calls.evalArgs_plain ?_)
 exact Y3 hA fun us s2 ⟨vs,H2,I2,r2,q2⟩=>hm pins s2 σ H2 x vs v us Q I2 r1 r2 q2
end
noncomputable def MtM(X:Cx)(id:String)(r:V->List V->Hp->VK->Prop):Prop:=
 ∀(pins:List (Addr×Obj)) (s:Shared) (σ:St) (H:Hp) (x:V) (xs:List V) (v:Value) (us:List Value) (Q:VK),Inv X pins σ H s->Zw x v->Yb xs us->r x xs H Q->
  wpAny (model X.prog X.w) X.A (call (.builtin id) (v::us)) (EP X pins σ Q) X.xe s
theorem Yb.one{x:V}{us:List Value}(h:Yb [x] us):∃u,us=[u]/\Zw x u:=by
 cases h with
 |cons r t=>cases t;exact⟨_,rfl,r⟩
section
variable{X:Cx}{pins:List (Addr×Obj)}{σ:St}{H:Hp}{s:Shared}{l b:Addr}{xs ys zs:List V}
theorem Inv.lset{its its':List Value}{n:Nat}{f:Array Value->Array Value}{t':Nat}(I:Inv X pins σ H s)(hH:H l=some (.lst xs))
  (e:s.heap.get? l=some {cls:=.type "list",data:=.seq its.toArray n}) (hf:f its.toArray=its'.toArray) (hv:Yb ys its') (hz:ys.length<=sizeLine):
  Inv X pins σ (Ys H l (.lst ys)) {s with heap:=s.heap.update l (Obj.mapSeq f),toks:=t'}:=by
 have q:=PySem.IsL.update e f
 rw[hf]at q
 refine I.write (x:=l) (e:=l) (by rw[hH];exact trivial) (.inl rfl) (fun b' u hb hu=>(Heap.get?_update_other s.heap (Obj.mapSeq f) (Ne.symm hb)).trans hu) ⟨_,q⟩ ?_
 exact⟨hz,its',_,hv,q⟩
theorem Inv.lnew{its:List Value}{t':Nat}(I:Inv X pins σ H s)(hv:Yb ys its)(hz:ys.length<=sizeLine):
  Inv X pins σ (Ys H s.heap.objs.size (.lst ys)) {s with heap:=s.heap.push {cls:=.type "list",data:=.seq its.toArray},toks:=t'}:=
 I.laid (fun _ _ q=>Heap.get?_push_of_some _ q) (Nat.le_refl _) ⟨hz,its,0,hv,Heap.get?_push_size _ rfl⟩
theorem Inv.fresh(I:Inv X pins σ H s):H s.heap.objs.size=none:=I.hok.fresh (Nat.le_refl _)
theorem Inv.lstM(I:Inv X pins σ H s)(hH:H l=some (.lst xs)):xs.length<=sizeLine/\∃(its:List Value) (n:Nat),Yb xs its/\xs.length=its.length/\s.heap.get? l=some {cls:=.type "list",data:=.seq its.toArray n}:=by
 obtain⟨z,its,n,r,e⟩:=I.hok l _ hH
 exact⟨z,its,n,r,r.length,e⟩
end
section
variable{X:Cx}
noncomputable def G5:V->List V->Hp->VK->Prop:=fun x vs H Q=>∃l xs y,x= .ref l/\vs=[y]/\H l=some (.lst xs)/\xs.length<sizeLine/\Q .non (Ys H l (.lst (xs++[y])))
theorem Te:MtM X "list.append" G5:=by
 intro pins s σ H x vs v us Q I rx rv h
 obtain⟨l,xs,y,rfl,rfl,hH,hz,q⟩:=h
 cases rx
 obtain⟨u,rfl,ru⟩:=rv.one
 obtain⟨z,its,n,r,hl,e⟩:=I.lstM hH
 refine call_meets F.slot_list_append ⟨_,e,rfl⟩ F.entry_list_append (F.args_list_append_2 _ _) (PySem.list_append l its.toArray n u (by rw[List.size_toArray];omega)) ⟨e,?_⟩
 refine⟨.non,_,I.lset (its':=its++[u]) hH e (by simp) (r.append (.cons ru .nil)) ?_,rfl,q⟩
 rw[List.length_append,List.length_singleton]
 omega
end
section
variable{κ:Type}[DecidableEq κ]
noncomputable def W8(kvs:List (κ×V))(k:κ):Option V:=(kvs.find? fun kv=>decide (kv.1=k)).map (·.2)
noncomputable def Qp(kvs:List (κ×V))(k:κ)(v:V):List (κ×V):=
 if(kvs.any fun kv=>decide (kv.1=k))=true then kvs.map (fun kv=>if kv.1=k then(kv.1,v)else kv)else kvs++[(k,v)]
noncomputable def Jm(kvs:List (κ×V))(k:κ):List (κ×V):=kvs.filter fun kv=>decide (kv.1≠k)
theorem Da{k:κ}:W8 ([]:List (κ×V)) k=none:=rfl
theorem Q6{p:κ×V}{r:List (κ×V)}{k:κ}(e:p.1=k):W8 (p::r) k=some p.2:=by simp[W8,List.find?_cons,e]
theorem Q7{p:κ×V}{r:List (κ×V)}{k:κ}(e:¬p.1=k):W8 (p::r) k=W8 r k:=by simp[W8,List.find?_cons,e]
theorem B6(k:κ):∀kvs:List (κ×V),(kvs.any fun kv=>decide (kv.1=k))=(W8 kvs k).isSome
 | []=>rfl
 |p::r=>by
  rw[List.any_cons]
  by_cases e:p.1=k
  ·simp only[Q6 e,decide_eq_true e,Bool.true_or,Option.isSome_some]
  ·rw[Q7 e,decide_eq_false e,Bool.false_or];exact B6 k r
theorem Gh(kvs:List (κ×V))(k:κ)(v:V):(Qp kvs k v).length<=kvs.length+1:=by
 unfold Qp
 split
 ·rw[List.length_map];omega
 ·rw[List.length_append,List.length_cons,List.length_nil];omega
theorem Jf.isSome_eq{o:Option V}{u:Option Value}(r:Jf o u):o.isSome=u.isSome:=by
 cases o with
 |none=>cases u with
  |none=>rfl
  |some _=>exact(show False from r).elim
 |some _=>cases u with
  |none=>exact(show False from r).elim
  |some _=>rfl
theorem Jf.getD{o:Option V}{u:Option Value}{d:V}{d':Value}(r:Jf o u)(rd:Zw d d'):Zw (o.getD d) (u.getD d'):=by
 cases o with
 |none=>cases u with
  |none=>exact rd
  |some _=>exact(show False from r).elim
 |some _=>cases u with
  |none=>exact(show False from r).elim
  |some _=>exact r
theorem KV.val{kvs:List (κ×V)}{vs:List (κ×Value)}(r:KV kvs vs)(k:κ):Jf (W8 kvs k) (valueAt vs k):=by
 unfold KV at r
 induction r with
 |nil=>exact True.intro
 | @cons p q ps qs h t ih=>
  obtain⟨h1,h2⟩:=h
  by_cases e:p.1=k
  ·have e':q.1=k:=h1.symm.trans e
   have b:valueAt (q::qs) k=some q.2:=by simp[valueAt,List.find?_cons,e']
   rw[Q6 e,b];exact h2
  ·have e':¬q.1=k:=fun z=>e (h1.trans z)
   have b:valueAt (q::qs) k=valueAt qs k:=by simp[valueAt,List.find?_cons,e']
   rw[Q7 e,b];exact ih
theorem KV.any{kvs:List (κ×V)}{vs:List (κ×Value)}(r:KV kvs vs)(k:κ):(kvs.any fun kv=>decide (kv.1=k))=vs.any fun kv=>decide (kv.1=k):=by
 unfold KV at r
 induction r with
 |nil=>rfl
 |cons h t ih=>rw[List.any_cons,List.any_cons,ih,h.1]
theorem KV.repl{kvs:List (κ×V)}{vs:List (κ×Value)}(r:KV kvs vs)(k:κ){y:V}{u:Value}(ry:Zw y u):
  KV (kvs.map fun kv=>if kv.1=k then(kv.1,y)else kv) (vs.map fun kv=>if kv.1=k then(kv.1,u)else kv):=by
 unfold KV at r⊢
 induction r with
 |nil=>exact .nil
 | @cons p q ps qs h t ih=>
  rw[List.map_cons,List.map_cons]
  refine .cons ?_ ih
  obtain⟨h1,h2⟩:=h
  by_cases e:p.1=k
  ·rw[if_pos e,if_pos (h1.symm.trans e)];exact⟨h1,ry⟩
  ·rw[if_neg e,if_neg (fun z=>e (h1.trans z))];exact⟨h1,h2⟩
theorem KV.put{kvs:List (κ×V)}{vs:List (κ×Value)}(r:KV kvs vs)(k:κ){y:V}{u:Value}(ry:Zw y u):KV (Qp kvs k y) (stored vs k u):=by
 unfold Qp stored
 rw[r.any k]
 by_cases e:(vs.any fun kv=>decide (kv.1=k))=true
 ·rw[if_pos e,if_pos e];exact r.repl k ry
 ·rw[if_neg e,if_neg e];exact Paired.snoc r ⟨rfl,ry⟩
theorem KV.drop{kvs:List (κ×V)}{vs:List (κ×Value)}(r:KV kvs vs)(k:κ):KV (Jm kvs k) (without vs k):=by
 unfold KV at r⊢
 unfold Jm without
 induction r with
 |nil=>exact .nil
 | @cons p q ps qs h t ih=>
  obtain⟨h1,h2⟩:=h
  rw[List.filter_cons,List.filter_cons]
  by_cases e:p.1=k
  ·have a:¬decide (p.1≠k)=true:=by simp[e]
   have b:¬decide (q.1≠k)=true:=by simp[h1.symm.trans e]
   rw[if_neg a,if_neg b];exact ih
  ·have e':¬q.1=k:=fun z=>e (h1.trans z)
   have a:decide (p.1≠k)=true:=by simp[e]
   have b:decide (q.1≠k)=true:=by simp[e']
   rw[if_pos a,if_pos b];exact .cons ⟨h1,h2⟩ ih
theorem KV.length{kvs:List (κ×V)}{vs:List (κ×Value)}(r:KV kvs vs):kvs.length=vs.length:=Paired.length r
theorem Db(kvs:List (κ×V))(k:κ):(Jm kvs k).length<=kvs.length:=List.length_filter_le _ _
end
theorem Oh{P:Program}{w:World}{k:Key}{u:Value}(r:Zw (kV k) u):(Zo P w).is k u=true:=by
 cases k with
 |inl i=>obtain⟨t,e⟩:=(show∃t,u=Value.int i t from r);subst e;exact Ez P w i t
 |inr x=>obtain⟨t,e⟩:=(show∃t,u=Value.str x t from r);subst e;exact E1 P w x t
theorem Tf{P:Program}{w:World}:∀{ks:List Key} {us:List Value},Yb (ks.map kV) us->ItemsAre (Zo P w) ks us
 | [],_,r=>by rw[List.map_nil]at r;cases r;exact .nil
 |k::ks,_,r=>by
  rw[List.map_cons]at r
  cases r with
  |cons h t=>exact .cons (Oh h) (Tf t)
noncomputable abbrev KT(H:Hp):List (List Key×V)->List (List Key×Addr×Value)->Prop:=Paired fun p q=>p.1=q.1/\H q.2.1=some (.tup (p.1.map kV))/\Zw p.2 q.2.2
theorem KT.val{H:Hp}{kvs:List (List Key×V)}{xs:List (List Key×Addr×Value)}(r:KT H kvs xs)(k:List Key):Jf (W8 kvs k) ((atKey xs k).map (·.2)):=by
 induction r with
 |nil=>exact True.intro
 | @cons p q ps qs h t ih=>
  obtain⟨h1,_,h2⟩:=h
  by_cases e:p.1=k
  ·have e':q.1=k:=h1.symm.trans e
   have b:atKey (q::qs) k=some q.2:=by simp[atKey,List.find?_cons,e']
   rw[Q6 e,b];exact h2
  ·have e':¬q.1=k:=fun z=>e (h1.trans z)
   have b:atKey (q::qs) k=atKey qs k:=by simp[atKey,List.find?_cons,e']
   rw[Q7 e,b];exact ih
theorem KT.repl{H:Hp}{kvs:List (List Key×V)}{xs:List (List Key×Addr×Value)}(r:KT H kvs xs)(k:List Key){y:V}{u:Value}(ry:Zw y u):
  KT H (kvs.map fun kv=>if kv.1=k then(kv.1,y)else kv) (xs.map (putAt k u)):=by
 induction r with
 |nil=>exact .nil
 | @cons p q ps qs h t ih=>
  rw[List.map_cons,List.map_cons]
  refine .cons ?_ ih
  obtain⟨h1,h2,h3⟩:=h
  unfold putAt
  by_cases e:p.1=k
  ·rw[if_pos e,if_pos (h1.symm.trans e)];exact⟨h1,h2,ry⟩
  ·rw[if_neg e,if_neg (fun z=>e (h1.trans z))];exact⟨h1,h2,h3⟩
theorem KT.put{H:Hp}{kvs:List (List Key×V)}{xs:List (List Key×Addr×Value)}(r:KT H kvs xs)(k:List Key){b:Addr}{y:V}{u:Value}(hb:H b=some (.tup (k.map kV)))(ry:Zw y u):
  KT H (Qp kvs k y) (storedH xs k b u):=by
 have e:(kvs.any fun kv=>decide (kv.1=k))=(atKey xs k).isSome:=by
  rw[B6,(r.val k).isSome_eq,Option.isSome_map]
 unfold Qp storedH
 rw[e]
 by_cases q:(atKey xs k).isSome=true
 ·rw[if_pos q,if_pos q];exact r.repl k ry
 ·rw[if_neg q,if_neg q];exact Paired.snoc r ⟨rfl,hb,ry⟩
theorem KT.keeps{H H':Hp}{kvs:List (List Key×V)}{xs:List (List Key×Addr×Value)}(r:KT H kvs xs)(ht:∀b ys,H b=some (.tup ys)->H' b=some (.tup ys)):KT H' kvs xs:=
 Paired.mapP r fun _ _ z=>⟨z.1,ht _ _ z.2.1,z.2.2⟩
section
variable{P:Program}{w:World}{H:Hp}{h:Heap}{a:Addr}
theorem Zgk{u:HO}(ok:Oe P w H h)(e:Rd H a u):Y4 P w H h a u:=e.ok ok
theorem Bc{kvs:List (Key×V)}(ok:Oe P w H h)(e:RdK H a kvs):kvs.length<=sizeLine/\(a==sysModules)=false/\∃vs,KV kvs vs/\h.DictOf (Zo P w) a vs:=
 let⟨ep,e⟩:=e;let⟨z,y,vs,r,d⟩:=(show Y4 P w H h a (.dK kvs ep)from Zgk ok e);⟨z,y,vs,r,d.dictOf⟩
theorem Dc{kvs:List (Key×V)}(ok:Oe P w H h)(e:HK H a kvs):kvs.length<=sizeLine/\(a==sysModules)=false/\∃vs,KV kvs vs/\h.DictOf (Zo P w) a vs:=Bc ok e.rd
theorem Bh{ks:List Key}(ok:Oe P w H h)(e:H a=some (.tup (ks.map kV))):(tupleKind (Zo P w)).is h ks a:=by
 obtain⟨_,its,r,o,h1,h2,n,h3⟩:=(show Y4 P w H h a (.tup (ks.map kV))from ok a _ e)
 exact⟨o,its.toArray,n,h1,h2,h3,by simpa using Tf r⟩
theorem Gi{kvs:List (List Key×V)}(ok:Oe P w H h)(e:RdT H a kvs):kvs.length<=sizeLine/\(a==sysModules)=false/\
  ∃xs,KT H kvs xs/\h.DictOfH (tupleKind (Zo P w)) a xs:=by
 obtain⟨ep,bs,e⟩:=e
 obtain⟨z,y,xs,r,o,es,h1,h2,h3,h4,h5,_⟩:=(show Y4 P w H h a (.dT kvs ep bs)from Zgk ok e)
 refine⟨z,y,xs,r,o,es,ep,h1,h2,h3,h4,fun x hx=>?_,h5⟩
 have all:∀{l:List (List Key×V)} {m:List (List Key×Addr×Value)},KT H l m->∀x∈m,(tupleKind (Zo P w)).is h x.1 x.2.1:=by
  intro l m q
  induction q with
  |nil=>intro x hx;exact nomatch hx
  | @cons p q ps qs hq t ih=>
   intro x hx
   rcases List.mem_cons.mp hx with e|hx
   ·subst e
    exact Bh ok (by rw[<-hq.1];exact hq.2.1)
   ·exact ih x hx
 exact all r x hx
theorem Zl8{kvs:List (List Key×V)}(ok:Oe P w H h)(e:HTt H a kvs):kvs.length<=sizeLine/\(a==sysModules)=false/\
  ∃xs,KT H kvs xs/\h.DictOfH (tupleKind (Zo P w)) a xs:=Gi ok e.rd
end
noncomputable def Ua(H:Hp)(a:Addr)(y:V)(r:Option V):Prop:=
 (∃kvs k,RdK H a kvs/\y=kV k/\r=W8 kvs k)\/∃kvs k b,RdT H a kvs/\y= .ref b/\H b=some (.tup (k.map kV))/\r=W8 kvs k
noncomputable def Mx(H:Hp)(a:Addr)(y v:V)(R:Hp->Prop):Prop:=
 (∃kvs k,HK H a kvs/\y=kV k/\kvs.length<sizeLine/\∀ep,R (Ys H a (.dK (Qp kvs k v) ep)))\/
 ∃kvs k b,HTt H a kvs/\y= .ref b/\H b=some (.tup (k.map kV))/\kvs.length<sizeLine/\∀ep ep0 bs,H a=some (.dT kvs ep0 bs)->R (Ys H a (.dT (Qp kvs k v) ep (E3 kvs bs k b)))
theorem Ua.k{H:Hp}{a:Addr}{kvs:List (Key×V)}{k:Key}(e:HK H a kvs):Ua H a (kV k) (W8 kvs k):=.inl ⟨kvs,k,e.rd,rfl,rfl⟩
theorem Ua.t{H:Hp}{a b:Addr}{kvs:List (List Key×V)}{k:List Key}(e:HTt H a kvs)(eb:H b=some (.tup (k.map kV))):Ua H a (.ref b) (W8 kvs k):=.inr ⟨kvs,k,b,e.rd,rfl,eb,rfl⟩
theorem Mx.k{H:Hp}{a:Addr}{kvs:List (Key×V)}{k:Key}{v:V}{R:Hp->Prop}(e:HK H a kvs)(hl:kvs.length<sizeLine)(h:∀ep,R (Ys H a (.dK (Qp kvs k v) ep))):Mx H a (kV k) v R:=.inl ⟨kvs,k,e,rfl,hl,h⟩
theorem Mx.t{H:Hp}{a b:Addr}{kvs:List (List Key×V)}{k:List Key}{v:V}{R:Hp->Prop}(e:HTt H a kvs)(eb:H b=some (.tup (k.map kV)))(hl:kvs.length<sizeLine)(h:∀ep ep0 bs,H a=some (.dT kvs ep0 bs)->R (Ys H a (.dT (Qp kvs k v) ep (E3 kvs bs k b)))):
  Mx H a (.ref b) v R:=.inr ⟨kvs,k,b,e,rfl,eb,hl,h⟩
section
variable{X:Cx}{pins:List (Addr×Obj)}{σ:St}{H:Hp}{s:Shared}{a:Addr}{y v:V}{u r:Value}{o:Option V}{A:Around}{E:Value->Shared->Prop}
theorem Inv.big(I:Inv X pins σ H s):sysModules<s.heap.objs.size:=by
 have h:mainGlobals<s.heap.objs.size:=(I.mod.glob.keeps I.bk).lt
 exact Nat.lt_trans (by decide) h
theorem Vh{Q:Value->Shared->Prop}(hu:A.units+1<cLine)(I:Inv X pins σ H s)(g:Ua H a y (some v))(ry:Zw y u)(h:∀w' s',Inv X pins σ H s'->Zw v w'->Q w' s'):
  wpAny (model X.prog X.w) A (getItem (.ref a) u) Q E s:=by
 rcases g with⟨kvs,k,e,ey,l⟩|⟨kvs,k,b,e,ey,eb,l⟩
 ·subst ey
  obtain⟨z,hd,vs,rel,dd⟩:=Bc I.hok e
  obtain⟨w',hw,rw'⟩:=Jf.some_of (v:=v) (o:=valueAt vs k) (by rw[l];exact rel.val k)
  exact wpAny_getItem_of (Oh ry) dd.mapOf hw (h w' _ (I.tok _) rw')
 ·subst ey
  cases(show u=Value.ref b from ry)
  obtain⟨z,hd,xs,rel,dd⟩:=Gi I.hok e
  obtain⟨w',hw,rw'⟩:=Jf.some_of (v:=v) (o:=(atKey xs k).map (·.2)) (by rw[l];exact rel.val k)
  obtain⟨p,hp,hp2⟩:=Option.map_eq_some_iff.mp hw
  refine wpAny_getItem_heap (tupleKind_room_in1 hu) (Bh I.hok eb) dd hp ?_
  rw[hp2]
  exact h w' _ (I.tok _) rw'
theorem Zp1{Q:Value->Shared->Prop}(hu:A.units+1<cLine)(I:Inv X pins σ H s)(g:Ua H a y o)(ry:Zw y u)(h:∀s',Inv X pins σ H s'->Q (.bool o.isSome) s'):
  wpAny (model X.prog X.w) A (compareOp .In u (.ref a)) Q E s:=by
 rcases g with⟨kvs,k,e,ey,l⟩|⟨kvs,k,b,e,ey,eb,l⟩
 ·subst ey
  obtain⟨z,hd,vs,rel,dd⟩:=Bc I.hok e
  refine wpAny_in_of (Oh ry) hd dd.mapOf ?_
  rw[<-(rel.val k).isSome_eq,<-l]
  exact h _ (I.tok _)
 ·subst ey
  cases(show u=Value.ref b from ry)
  obtain⟨z,hd,xs,rel,dd⟩:=Gi I.hok e
  refine wpAny_in_heap (tupleKind_room_in1 hu) (Bh I.hok eb) hd dd ?_
  have q:=(rel.val k).isSome_eq
  rw[Option.isSome_map]at q
  rw[<-q,<-l]
  exact h _ (I.tok _)
theorem Zdg{Q:Value->Shared->Prop}(hu:A.units+1<cLine)(I:Inv X pins σ H s)(g:Ua H a y o)(ry:Zw y u)(h:∀s',Inv X pins σ H s'->Q (.bool (!o.isSome)) s'):
  wpAny (model X.prog X.w) A (compareOp .NotIn u (.ref a)) Q E s:=by
 rcases g with⟨kvs,k,e,ey,l⟩|⟨kvs,k,b,e,ey,eb,l⟩
 ·subst ey
  obtain⟨z,hd,vs,rel,dd⟩:=Bc I.hok e
  refine wpAny_notIn_of (Oh ry) hd dd.mapOf ?_
  rw[<-(rel.val k).isSome_eq,<-l]
  exact h _ (I.tok _)
 ·subst ey
  cases(show u=Value.ref b from ry)
  obtain⟨z,hd,xs,rel,dd⟩:=Gi I.hok e
  refine wpAny_notIn_heap (tupleKind_room_in1 hu) (Bh I.hok eb) hd dd ?_
  have q:=(rel.val k).isSome_eq
  rw[Option.isSome_map]at q
  rw[<-q,<-l]
  exact h _ (I.tok _)
theorem Ax{h':Heap}{t':Nat}{ob:HO}(I:Inv X pins σ H s)(mu:Mut (H a))(hs:Heap.SameBut a s.heap h')(he:∃q,h'.get? a=some q)(new:Y4 X.prog X.w (Ys H a ob) h' a ob):
  Inv X pins σ (Ys H a ob) {s with heap:=h',toks:=t'}:=
 I.write (x:=a) (e:=a) mu (.inl rfl) (fun b q hb z=>(hs.2 b hb).trans z) he new
theorem Dd{P:Program}{w:World}{h':Heap}{kvs:List (Key×V)}{vs:List (Key×Value)}(z:kvs.length<=sizeLine)(hd:(a==sysModules)=false)(rel:KV kvs vs)(dd:h'.DictOf (Zo P w) a vs):
  ∃ep,∀H':Hp,Y4 P w H' h' a (.dK kvs ep):=let⟨ep,dd⟩:=dd.dictAt;⟨ep,fun _=>⟨z,hd,vs,rel,dd⟩⟩
theorem Vi{R:Hp->Prop}{Q:Unit->Shared->Prop}(hu:A.units+1<cLine)(I:Inv X pins σ H s)(g:Mx H a y v R)(ry:Zw y u)(rv:Zw v r)(h:∀H' s',R H'->Inv X pins σ H' s'->Q () s'):
  wpAny (model X.prog X.w) A (setItem (.ref a) u r) Q E s:=by
 rcases g with⟨kvs,k,e,ey,l,eH⟩|⟨kvs,k,b,e,ey,eb,l,eH⟩
 ·subst ey
  obtain⟨z,hd,vs,rel,dd⟩:=Dc I.hok e
  have hz:vs.length<=sizeLine:=by rw[<-rel.length];exact z
  have hl:(Qp kvs k v).length<=sizeLine:=by have:=Gh kvs k v;omega
  refine wpAny_setItem_pairs (hsz:=hz) (Oh ry) dd fun h' dd' hs=>?_
  have he:∃q,h'.get? a=some q:=let⟨q,_,_,hq,_⟩:=dd';⟨q,hq⟩
  obtain⟨ep,ok⟩:=Dd hl hd (rel.put k rv) dd'
  exact h _ _ (eH ep) (Ax I (by obtain⟨e0,e⟩:=e;rw[e];exact True.intro) hs he (ok _))
 ·subst ey
  cases(show u=Value.ref b from ry)
  obtain⟨z,hd,xs,rel,dd⟩:=Zl8 I.hok e
  have hz:xs.length<=sizeLine:=by rw[<-Paired.length rel];exact z
  have hl:(Qp kvs k v).length<=sizeLine:=by have:=Gh kvs k v;omega
  refine wpAny_setItem_heap (hsz:=hz) (tupleKind_room_in1 hu) (Bh I.hok eb) dd fun h' dd' hs=>?_
  obtain⟨q,es,ep,hq,h2,h3,h4,_,h5⟩:=dd'
  obtain⟨e0,bs,e⟩:=e
  have hb:(xs.map fun x=>x.2.1)=bs:=by
   obtain⟨_,_,xs',r',_,_,w1,_,w3,w4,_,w6⟩:=(show Y4 X.prog X.w H s.heap a (.dT kvs e0 bs)from I.hok a _ e)
   obtain⟨_,_,_,y1,_,y3,y4,_⟩:=dd
   rw[w1]at y1;cases y1
   rw[w3]at y3;cases y3
   have:xs'.map (fun x=>x.2.1)=xs.map fun x=>x.2.1:=by
    have z:=congrArg (List.map DictEntry.key) (w4.symm.trans y4)
    rw[List.map_map,List.map_map]at z
    have inj:∀{l m:List (List Key×Addr×Value)},l.map (DictEntry.key∘entryOfKey (tupleKind (Zo X.prog X.w)))=m.map (DictEntry.key∘entryOfKey (tupleKind (Zo X.prog X.w)))->(l.map fun x=>x.2.1)=m.map fun x=>x.2.1:=by
     intro l
     induction l with
     |nil=>intro m z;cases m with
      |nil=>rfl
      |cons _ _=>cases z
     |cons x l ih=>intro m z;cases m with
      |nil=>cases z
      |cons y m=>
       rw[List.map_cons,List.map_cons]at z⊢
       injection z with z1 z2
       have z1':Value.ref x.2.1=Value.ref y.2.1:=z1
       injection z1' with z1'
       rw[z1',ih z2]
    exact inj z
   rw[<-this];exact w6
  have hb2:((storedH xs k b r).map fun x=>x.2.1)=E3 kvs bs k b:=by
   have ee:(kvs.any fun kv=>decide (kv.1=k))=(atKey xs k).isSome:=by
    rw[B6,(rel.val k).isSome_eq,Option.isSome_map]
   unfold E3 storedH
   rw[ee]
   by_cases qq:(atKey xs k).isSome=true
   ·rw[if_pos qq,if_pos qq,List.map_map,<-hb]
    refine List.map_congr_left fun x _=>?_
    show(putAt k r x).2.1=x.2.1
    unfold putAt
    split<;> rfl
   ·rw[if_neg qq,if_neg qq,List.map_append,hb];rfl
  refine h _ _ (eH ep e0 bs e) (Ax I (by rw[e];exact True.intro) hs ⟨q,hq⟩ ⟨hl,hd,_,(rel.put k eb rv).keeps fun c ys ec=>?_,q,es,hq,h2,h3,h4,h5,hb2⟩)
  rw[Zl (Zlj ec e (fun z=>nomatch z))]
  exact ec
end
section
variable{X:Cx}{pins:List (Addr×Obj)}{σ:St}{H:Hp}{s:Shared}{a:Addr}{kvs:List (Key×V)}{k:Key}{u:Value}{A:Around}{E:Value->Shared->Prop}
theorem Zgl{v:V}{more:List Value}{Q:Value->Shared->Prop}(I:Inv X pins σ H s)(e:HK H a kvs)(ry:Zw (kV k) u)(l:W8 kvs k=some v)(hm:more=[]\/∃x,more=[x])
  (h:∀ep w' s',Inv X pins σ (Ys H a (.dK (Jm kvs k) ep)) s'->Zw v w'->Q w' s'):wpAny (model X.prog X.w) A (call (.builtin "dict.pop") (.ref a::u::more)) Q E s:=by
 obtain⟨z,hd,vs,rel,dd⟩:=Dc I.hok e
 obtain⟨w',hw,rw'⟩:=Jf.some_of (v:=v) (o:=valueAt vs k) (by rw[<-l];exact rel.val k)
 have hp:(keyPart u).isSome=true:=by
  cases k with
  |inl i=>obtain⟨t,q⟩:=(show∃t,u=Value.int i t from ry);subst q;rfl
  |inr x=>obtain⟨t,q⟩:=(show∃t,u=Value.str x t from ry);subst q;rfl
 have ha:argsOk "dict.pop" ⟨.ref a::u::more,[]⟩:=by
  rcases hm with q|⟨x,q⟩
  ·subst q;exact PySem.F.args_dict_pop_2 _ _
  ·subst q;exact PySem.F.args_dict_pop_3 _ _ _
 refine call_meetsIn PySem.F.slot_dict_pop dd.typeIs PySem.F.entry_dict_pop ha (meets_dict_pop_there (Zo X.prog X.w) a (Oh ry) more hm hp)
  ⟨vs,w',dd,by rw[<-rel.length];exact z,hw,fun h' dd' hs=>?_⟩
 have he:∃q,h'.get? a=some q:=let⟨q,_,_,hq,_⟩:=dd';⟨q,hq⟩
 obtain⟨ep,ok⟩:=Dd (Nat.le_trans (Db kvs k) z) hd (rel.drop k) dd'
 exact h ep w' _ (Ax I (by obtain⟨e0,e⟩:=e;rw[e];exact True.intro) hs he (ok _)) rw'
theorem Zil{r:Value}{Q:Value->Shared->Prop}(I:Inv X pins σ H s)(e:HK H a kvs)(ry:Zw (kV k) u)(l:W8 kvs k=none)(h:∀s',Inv X pins σ H s'->Q r s'):
  wpAny (model X.prog X.w) A (call (.builtin "dict.pop") [.ref a,u,r]) Q E s:=by
 obtain⟨z,hd,vs,rel,dd⟩:=Dc I.hok e
 have hn:valueAt vs k=none:=Jf.none_of (by rw[<-l];exact rel.val k)
 have hp:(keyPart u).isSome=true:=by
  cases k with
  |inl i=>obtain⟨t,q⟩:=(show∃t,u=Value.int i t from ry);subst q;rfl
  |inr x=>obtain⟨t,q⟩:=(show∃t,u=Value.str x t from ry);subst q;rfl
 exact call_meetsIn PySem.F.slot_dict_pop dd.typeIs PySem.F.entry_dict_pop (PySem.F.args_dict_pop_3 _ _ _) (meets_dict_pop_default (Zo X.prog X.w) a (Oh ry) hd hp r) ⟨vs,dd,hn,h _ (I.tok _)⟩
end
noncomputable def De(i:Expr):Prop:=∀ov iv,subscripted i false ov iv=operate [ov,iv] (getItem ov iv)
theorem Nv{prog:Program}{w:World}{A:Around}{E:Value->Shared->Prop}{s:Shared}{env:Env}{value slice:Expr}{pos:Pos}{T id:String}{Q:Value->Shared->Prop}
  (hl:typeLookup (.type T) "__getitem__"=pure (some (.builtin id))) (hs:De slice)
  (h:wpAny (model prog w) A (eval value env) (fun o s₁=>wpAny (model prog w) A (eval slice env) (fun i s₂=>s₂.TypeIs o T/\wpAny (model prog w) A (getItem o i) Q E s₂) E s₁) E s):
  wpAny (model prog w) A (eval (.Subscript value slice pos) env) Q E s:=by
 refine Subscript_ (wpAny_mono h (fun o s₁ h₁=>wpAny_mono h₁ (fun i s₂ h₂=>?_) fun _ _ x=>x) fun _ _ x=>x)
 obtain⟨hT,h₂⟩:=h₂
 unfold subscriptTail
 refine wpAny_bind ?_
 rw[getitemInPython_of_ne hT.not_modules]
 refine wpAny_bind (wpAny_specialOf hT hl ?_)
 have fin:wpAny (model prog w) A (subscripted slice false o i) (fun r s₃=>wpAny (model prog w) A (letTemporaryGo value o r >>=fun _=>pure r) Q E s₃) E s₂:=by
  rw[hs o i]
  exact wpAny_operating (wpAny_mono h₂ (fun r s₃ h₃=>wpAny_bind (wpAny_letTemporaryGo (wpAny_pure h₃))) fun _ _ x=>x)
 first
  |exact wpAny_pure (wpAny_bind fin)
  |exact wpAny_bind (wpAny_pure (wpAny_bind fin))
  |exact wpAny_bind fin
theorem E7{X:Cx}{pins:List (Addr×Obj)}{σ:St}{H:Hp}{s:Shared}{a:Addr}{y:V}{o:Option V}(I:Inv X pins σ H s)(g:Ua H a y o):s.TypeIs (.ref a) "dict":=by
 rcases g with⟨kvs,k,e,_,_⟩|⟨kvs,k,b,e,_,_,_⟩
 ·obtain⟨_,_,vs,_,dd⟩:=Bc I.hok e
  exact dd.typeIs
 ·obtain⟨_,_,xs,_,dd⟩:=Gi I.hok e
  exact dd.typeIs
noncomputable def Zgm(td ty:TE):TE:=fun σ H Q=>td σ H fun x H1=>ty σ H1 fun y H2=>∃a v,x= .ref a/\Ua H2 a y (some v)/\Q v H2
noncomputable def Df(td ty tv:TE):TS:=fun D σ H=>tv σ H fun v H1=>td σ H1 fun x H2=>ty σ H2 fun y H3=>∃a,x= .ref a/\Mx H3 a y v (D.nx σ)
section
variable{X:Cx}{o i e value:Expr}{pos pos' tpos:Pos}{td ty tv:TE}
theorem Nw(hu:X.A.units+1<cLine)(ho:PE X o td)(hi:PE X i ty)(hs:De i):PE X (.Subscript o i pos) (Zgm td ty):=by
 intro pins s σ H Q I h
 refine Nv PySem.F.slot_dict_getitem.lookup hs (Y3 (ho pins s σ H _ I h) fun u s1 ⟨x,H1,I1,rx,q1⟩=>Y3 (hi pins s1 σ H1 _ I1 q1) fun iv s2 zq9=>?_)
 obtain⟨y,H2,I2,ry,a,v,ex,g,q2⟩:=zq9
 subst ex
 obtain rfl:u=Value.ref a:=rx
 exact⟨E7 I2 g,Vh hu I2 g ry fun w' s3 I3 rw'=>⟨v,H2,I3,rw',q2⟩⟩
theorem Nx(hu:X.A.units+1<cLine)(ho:PE X o td)(hi:PE X i ty)(hv:PE X value tv)(hs:swapsWith value (some (.Subscript o i pos')) pos.line X.env=pure false):
  PS X (.Assign [.Subscript o i pos'] value pos) (Df td ty tv):=by
 intro pins s σ H D I h
 refine wpAny_Assign_Subscript (Y3 (hv pins s σ H _ I h) fun r s1 ⟨v,H1,I1,rv,q1⟩=>Y3 (ho pins s1 σ H1 _ I1 q1) fun u s2 ⟨x,H2,I2,rx,q2⟩=>Y3 (hi pins s2 σ H2 _ I2 q2) fun iv s3 ⟨y,H3,I3,ry,a,ex,g⟩=>?_) hs
 subst ex
 obtain rfl:u=Value.ref a:=rx
 exact Vi hu I3 g ry rv fun H4 s4 q3 I4=>⟨σ,H4,I4,q3⟩
end
theorem Dg{P:Program}{w:World}{H:Hp}(h:Heap)(hb:sysModules<h.objs.size):Y4 P w H (h.push {cls:=.type "dict",data:=.dict #[]}) h.objs.size (.dK [] 0):=
 ⟨Nat.zero_le _,beq_eq_false_iff_ne.mpr (Ne.symm (Nat.ne_of_lt hb)),[],.nil,_, #[],Heap.get?_push_size _ rfl,⟨rfl,rfl,rfl⟩,rfl,fun _ he=>by simp at he,Pairs.nil,List.nodup_nil⟩
theorem Dh{P:Program}{w:World}{H:Hp}(h:Heap)(hb:sysModules<h.objs.size):Y4 P w H (h.push {cls:=.type "dict",data:=.dict #[]}) h.objs.size (.dT [] 0 []):=
 ⟨Nat.zero_le _,beq_eq_false_iff_ne.mpr (Ne.symm (Nat.ne_of_lt hb)),[],.nil,_, #[],Heap.get?_push_size _ rfl,⟨rfl,rfl,rfl⟩,rfl,rfl,List.nodup_nil,rfl⟩
noncomputable def Ay:TE:=fun _ H Q=>∀p,H p=none->Q (.ref p) (Ys H p (.dK [] 0))
noncomputable def Di:TE:=fun _ H Q=>∀p,H p=none->Q (.ref p) (Ys H p (.dT [] 0 []))
section
variable{X:Cx}{pos:Pos}
theorem Rq:PE X (.Dict [] [] pos) Ay:=fun pins s σ H Q I h=>
 wpAny_Dict_empty ⟨.ref s.heap.objs.size,_,I.laid (a:=s.heap.objs.size) (o:=.dK [] 0) (t':=s.toks) (fun _ _ q=>Heap.get?_push_of_some _ q) (Nat.le_refl _) (Dg s.heap I.big),rfl,h _ (I.hok.fresh (Nat.le_refl _))⟩
theorem Dj:PE X (.Dict [] [] pos) Di:=fun pins s σ H Q I h=>
 wpAny_Dict_empty ⟨.ref s.heap.objs.size,_,I.laid (a:=s.heap.objs.size) (o:=.dT [] 0 []) (t':=s.toks) (fun _ _ q=>Heap.get?_push_of_some _ q) (Nat.le_refl _) (Dh s.heap I.big),rfl,h _ (I.hok.fresh (Nat.le_refl _))⟩
end
structure M1(X:Cx)(o:Expr)(m:Str)(apos:Pos)(e:Expr)(cpos:Pos):Prop where
 base:attributeBase o m X.env (eval o X.env)=eval o X.env
 few:((backTo cpos (starEach [e] X.env)).all (fun x=>!x.1)&&(backToKw cpos (keywordEach [] X.env)).all (fun x=>x.1.isSome)
  &&decide (([e]:List Expr).length+([]:List Keyword).length+(if([]:List Keyword).isEmpty then 0 else 1)<30))=true
 line:(apos.endLine==cpos.line)=true
 trees:backTo cpos (starEach [e] X.env)=[(false,eval e X.env)]
structure M2(X:Cx)(o:Expr)(m:Str)(apos:Pos)(e f:Expr)(cpos:Pos):Prop where
 base:attributeBase o m X.env (eval o X.env)=eval o X.env
 few:((backTo cpos (starEach [e,f] X.env)).all (fun x=>!x.1)&&(backToKw cpos (keywordEach [] X.env)).all (fun x=>x.1.isSome)
  &&decide (([e,f]:List Expr).length+([]:List Keyword).length+(if([]:List Keyword).isEmpty then 0 else 1)<30))=true
 line:(apos.endLine==cpos.line)=true
 trees:backTo cpos (starEach [e,f] X.env)=[(false,eval e X.env),(false,eval f X.env)]
noncomputable def IsD(H:Hp)(a:Addr):Prop:=(∃kvs,RdK H a kvs)\/∃kvs,RdT H a kvs
theorem Dk{X:Cx}{pins:List (Addr×Obj)}{σ:St}{H:Hp}{s:Shared}{a:Addr}(I:Inv X pins σ H s)(d:IsD H a):
  s.TypeIs (.ref a) "dict"/\(∀b,Value.ref a= .ref b->∃ob,s.heap.get? b=some ob/\ob.dict=none)/\(a==sysModules)=false:=by
 rcases d with⟨kvs,e⟩|⟨kvs,e⟩
 ·obtain⟨_,hd,vs,_,dd⟩:=Bc I.hok e
  refine⟨dd.typeIs,fun b q=>?_,hd⟩
  cases q
  obtain⟨ob,_,_,h1,h2,_⟩:=dd
  exact⟨ob,h1,h2.2.1⟩
 ·obtain⟨_,hd,xs,_,dd⟩:=Gi I.hok e
  refine⟨dd.typeIs,fun b q=>?_,hd⟩
  cases q
  obtain⟨ob,_,_,h1,h2,_⟩:=dd
  exact⟨ob,h1,h2.2.1⟩
section
variable{X:Cx}{pins:List (Addr×Obj)}{σ:St}{H:Hp}{s:Shared}{a:Addr}{y d:V}{u r:Value}{o:Option V}{A:Around}{E:Value->Shared->Prop}
theorem Zim{Q:Value->Shared->Prop}(hu:A.units+1<cLine)(I:Inv X pins σ H s)(g:Ua H a y o)(ry:Zw y u)(h:∀w' s',Inv X pins σ H s'->Zw (o.getD .non) w'->Q w' s'):
  wpAny (model X.prog X.w) A (call (.builtin "dict.get") [.ref a,u]) Q E s:=by
 rcases g with⟨kvs,k,e,ey,l⟩|⟨kvs,k,b,e,ey,eb,l⟩
 ·subst ey
  obtain⟨z,hd,vs,rel,dd⟩:=Bc I.hok e
  refine call_meetsIn PySem.F.slot_dict_get dd.typeIs PySem.F.entry_dict_get (PySem.F.args_dict_get_2 _ _) (meets_dict_get (Zo X.prog X.w) a (Oh ry) hd) ⟨_,dd.mapOf,h _ _ (I.tok _) ?_⟩
  rw[l]
  exact(rel.val k).getD rfl
 ·subst ey
  cases(show u=Value.ref b from ry)
  obtain⟨z,hd,xs,rel,dd⟩:=Gi I.hok e
  refine call_meetsIn PySem.F.slot_dict_get dd.typeIs PySem.F.entry_dict_get (PySem.F.args_dict_get_2 _ _) (meetsH_dict_get (tupleKind (Zo X.prog X.w)) a b hd) ⟨tupleKind_room_in1 hu,k,xs,Bh I.hok eb,dd,h _ _ (I.tok _) ?_⟩
  rw[l]
  exact(rel.val k).getD rfl
theorem Zin{Q:Value->Shared->Prop}(hu:A.units+1<cLine)(I:Inv X pins σ H s)(g:Ua H a y o)(ry:Zw y u)(rd:Zw d r)(h:∀w' s',Inv X pins σ H s'->Zw (o.getD d) w'->Q w' s'):
  wpAny (model X.prog X.w) A (call (.builtin "dict.get") [.ref a,u,r]) Q E s:=by
 rcases g with⟨kvs,k,e,ey,l⟩|⟨kvs,k,b,e,ey,eb,l⟩
 ·subst ey
  obtain⟨z,hd,vs,rel,dd⟩:=Bc I.hok e
  refine call_meetsIn PySem.F.slot_dict_get dd.typeIs PySem.F.entry_dict_get (PySem.F.args_dict_get_3 _ _ _) (meets_dict_get_default (Zo X.prog X.w) a (Oh ry) hd r) ⟨_,dd.mapOf,h _ _ (I.tok _) ?_⟩
  rw[l]
  exact(rel.val k).getD rd
 ·subst ey
  cases(show u=Value.ref b from ry)
  obtain⟨z,hd,xs,rel,dd⟩:=Gi I.hok e
  refine call_meetsIn PySem.F.slot_dict_get dd.typeIs PySem.F.entry_dict_get (PySem.F.args_dict_get_3 _ _ _) (meetsH_dict_get_default (tupleKind (Zo X.prog X.w)) a b hd r) ⟨tupleKind_room_in1 hu,k,xs,Bh I.hok eb,dd,h _ _ (I.tok _) ?_⟩
  rw[l]
  exact(rel.val k).getD rd
end
noncomputable def K3(td ty:TE):TE:=fun σ H Q=>td σ H fun x H1=>∃a,x= .ref a/\IsD H1 a/\ty σ H1 fun y H2=>∃kvs k v,HK H2 a kvs/\y=kV k/\W8 kvs k=some v/\∀ep,Q v (Ys H2 a (.dK (Jm kvs k) ep))
noncomputable def K4(td ty tx:TE):TE:=fun σ H Q=>td σ H fun x H1=>∃a,x= .ref a/\IsD H1 a/\ty σ H1 fun y H2=>tx σ H2 fun z H3=>∃kvs k,HK H3 a kvs/\y=kV k/\
 (∀v ep,W8 kvs k=some v->Q v (Ys H3 a (.dK (Jm kvs k) ep)))/\(W8 kvs k=none->Q z H3)
section
variable{X:Cx}{o e f:Expr}{apos cpos:Pos}{td ty tx:TE}
theorem Dl(ho:PE X o td)(he:PE X e ty)(m:M1 X o "pop" apos e cpos):PE X (.Call (.Attribute o "pop" apos) [e] [] cpos) (K3 td ty):=by
 intro pins s σ H Q I h
 refine wpAny_Call_method m.base m.few m.line PySem.F.plainAttrs_dict PySem.F.slot_dict_pop PySem.F.type_dict_pop (Y3 (ho pins s σ H _ I h) fun u s1 zq9=>?_)
 obtain⟨x,H1,I1,rx,a,ex,d,q1⟩:=zq9
 subst ex
 obtain rfl:u=Value.ref a:=rx
 obtain⟨t1,t2,_⟩:=Dk I1 d
 refine⟨t1,t2,?_⟩
 rw[m.trees]
 refine Calls.callWith_builtin rfl (Calls.evalArgs_plain (Calls.spliced_cons (Y3 (he pins s1 σ H1 _ I1 q1) fun iv s2 ⟨y,H2,I2,ry,kvs,k,v,ea,ey,l,q2⟩=>Calls.spliced_nil ?_)))
 subst ey
 exact Zgl I2 ea ry l (.inl rfl) fun ep w' s3 I3 rw'=>⟨v,_,I3,rw',q2 ep⟩
theorem Dm(ho:PE X o td)(he:PE X e ty)(hf:PE X f tx)(m:M2 X o "pop" apos e f cpos):PE X (.Call (.Attribute o "pop" apos) [e,f] [] cpos) (K4 td ty tx):=by
 intro pins s σ H Q I h
 refine wpAny_Call_method m.base m.few m.line PySem.F.plainAttrs_dict PySem.F.slot_dict_pop PySem.F.type_dict_pop (Y3 (ho pins s σ H _ I h) fun u s1 zq9=>?_)
 obtain⟨x,H1,I1,rx,a,ex,d,q1⟩:=zq9
 subst ex
 obtain rfl:u=Value.ref a:=rx
 obtain⟨t1,t2,_⟩:=Dk I1 d
 refine⟨t1,t2,?_⟩
 rw[m.trees]
 refine Calls.callWith_builtin rfl (Calls.evalArgs_plain (Calls.spliced_cons (Y3 (he pins s1 σ H1 _ I1 q1) fun iv s2 ⟨y,H2,I2,ry,q2⟩=>
  Calls.spliced_cons (Y3 (hf pins s2 σ H2 _ I2 q2) fun fv s3 ⟨z,H3,I3,rz,kvs,k,ea,ey,q3,q4⟩=>Calls.spliced_nil ?_))))
 subst ey
 cases l:W8 kvs k with
 |some v=>exact Zgl I3 ea ry l (.inr ⟨fv,rfl⟩) fun ep w' s4 I4 rw'=>⟨v,_,I4,rw',q3 v ep l⟩
 |none=>exact Zil I3 ea ry l fun s4 I4=>⟨z,H3,I4,rz,q4 l⟩
end
end L2
namespace Att
open PySem PySem.W PySem.Calls PyProof.Rows
theorem Gw{P:Params}{h:Heap}:∀(ns:List Int) (vs:List Value),WellAll P h vs (ns.map WData.int)->IntsAre vs ns:=by
 intro ns
 induction ns with
 |nil=>
  intro vs w
  rw[List.map_nil]at w
  cases w
  exact .nil
 |cons n ns ih=>
  intro vs w
  rw[List.map_cons]at w
  cases w with
  |cons a b=>
   cases a
   exact .cons _ _ (ih _ b)
theorem Vj{l:OpenLaw}{n:Nat}(hn:l.most=some n){P:Params}{h:Heap}{args:List WData}{vals:List Value}
  (hpre:l.row.toRowW.claim.pre args=true) (hwl:WellAll P h vals args):
  ∃a vs ns,vals=[Value.ref a]/\args=[WData.list (ns.map WData.int)]/\h.get? a=some {cls:=.type "list",data:=.seq vs.toArray}/\IntsAre vs ns/\ns.length<=n:=by
 have hsh:WShape.hasAll [] args [.list .int]=true:=(pre_splitW hpre).1
 have hc:l.pre.holds [] {args:=args}=true:=(pre_splitW hpre).2
 obtain⟨d,r,rfl,h1,h2⟩:=hasAllW_cons hsh
 obtain rfl:=hasAllW_nil h2
 obtain⟨xs,rfl,h3⟩:=hasW_list h1
 obtain⟨ns,rfl⟩:=items_int h3
 have hlen:ns.length<=n:=by
  unfold OpenLaw.pre at hc
  have h4:(WTm.not (.lt (.lit (.int (n:Int))) (.len (.arg 0)))).holds [] {args:=[.list (ns.map .int)]}=true:=by
   have h4:=(holds_andW hc).1
   rw[hn]at h4
   exact h4
  have h5:=condW_of h4 (w_not (w_lt w_lit (w_len_list (w_arg rfl))))
  rw[List.length_map]at h5
  refine Nat.le_of_not_lt fun q=>?_
  have q':(n:Int)<((ns.length:Nat):Int):=by omega
  first
   | (rw[decide_eq_true q']at h5;exact absurd h5 (by decide))
   | (simp at h5;omega)
 cases hwl with
 |cons w1 w2=>
  cases w2
  cases w1 with
  |list ho hall=>exact⟨_,_,ns,rfl,rfl,ho,Gw ns _ hall,hlen⟩
theorem Vk(l:OpenLaw)(args:List WData):l.row.toRowW.claim.post args (.bool true) args=true:=
 postW_of (r:=l.row.toRowW) (X:=(true==true))
  (show WShape.has [] (.bool true) .bool=true by first|rfl|decide|simp[WShape.has,WShape.arms,WShape.armsAll])
  (show(WTm.eq .res (.lit (.bool true))).value [] {args:=args,res:=some (.bool true),after:=args}=some (.bool (true==true))from w_eq_bool (w_res rfl) w_lit) rfl
theorem attach_call{l:OpenLaw}{n:Nat}{q:Program}{loose:List Str}{XP:(Str->Option Value)->Heap->Prop}{YP:World->Heap->Prop}{d:DefRec}
  (hn:l.most=some n) (hdf:d.params.defaults=[])
  (call:∀(w:World) (s₀ s₁:Shared) (mg mb:Str->Option Value) (fa:Addr) (o:Obj) (pm cd doc:Value) (a:Addr) (vs:List Value) (ns:List Int),
   Ground q loose [] XP w s₀ mg mb s₁.heap->YP w s₁.heap->
   s₁.heap.get? fa=some o->o.data= .func (docDef d.name d.params d.body d.scope pm cd doc)->s₁.heap.CodeRec cd d.name->mg d.name=some (.ref fa)->
   s₁.heap.get? a=some {cls:=.type "list",data:=.seq vs.toArray}->IntsAre vs ns->ns.length<=n->s₁.gens= #[]->
   codeAny (model l.prog w) callerA (.call (.ref fa) ⟨[.ref a],[]⟩) (fun r s'=>r= .ok (.ret (.bool true))/\OldK s₁.heap s'.heap/\s'.os=s₁.os/\AllBare s'.gens) s₁):
  WalkO q loose XP YP l.row.toRowW d [] (fun f vs=>PySem.call f vs):=by
 intro w s₀ s₁ mg mb G Y fa o pm cd doc dV kV ho hd hcd hD hmg hg args vals as hpre hlay hrd hwl hlo
 obtain rfl:dV= .none:=Dflts.none hD hdf
 obtain rfl:kV= .none:=Dflts.noKw hD
 obtain⟨a,vs,ns,rfl,rfl,hobj,hints,hlen⟩:=Vj hn hpre hwl
 refine enter_call (codeAny_mono (call w s₀ s₁ mg mb fa o pm cd doc a vs ns G Y ho (fd_plain hd) hcd hmg hobj hints hlen hg) fun r s' hq=>?_)
 obtain⟨rfl,h2,h3,h4⟩:=hq
 exact⟨.inl ⟨.bool true,.bool true,[],rfl,fun _=>rfl,.bool true,Vk l _,fun _=>⟨List.Pairwise.nil,fun _ hm=>(nomatch hm)⟩⟩,h2,h3,h4⟩
end Att
namespace L2
open PySem PySem.Spec PyProof.Rows
theorem Tg:∀{vs:List Value} {ns:List Int},IntsAre vs ns->Yb (ns.map V.int) vs
 |_,_,.nil=>.nil
 |_,_,.cons n t h=>.cons ⟨t,rfl⟩ (Tg h)
noncomputable def Zdh(H:Hp):Prop:=∀b,H b=none\/∃o xs,H b=some (.frz o (.lst xs))
theorem Dn {P : Program} {w : World} {K : PySem.W.Frag} {mg mb : Str -> Option Value} {CX : Nt} {k : Nat} {fa a : Addr} {fd : FuncData} {x : Str} {sp : Sp} {s₁ : Shared} {vs : List Value} {ns : List Int}
    (KX : K.In s₁.heap) (hns : s₁.heap.Ns mainGlobals mg) (hb : s₁.heap.Ns builtinsNs mb) (hbb : ∀ x : Str, x ≠ "__name__" -> mb x = bootBuiltins x) (hlim : s₁.heap.NoLimit) (hg : s₁.gens = #[])
    (ha : s₁.heap.get? a = some { cls := .type "list", data := .seq vs.toArray }) (hi : IntsAre vs ns) (hl : ns.length <= sizeLine) (hr : Room k callerA)
    (F : ∀ base : Heap, K.In base -> base.Ns mainGlobals mg -> FnOk P w K mg base CX k fa fd [x] sp) (hbind : ∀ (s : Shared) (u : Value), BindsTo s fd ⟨[u], []⟩ [(x, u)])
    (hsp : ∀ H : Hp, Zdh H -> Of K H a (ns.map V.int) -> sp [.ref a] H (fun v _ => v = .bl true) fun _ _ _ => False)
    (hCX : ∀ H e s', CX [] H s₁ (fun _ _ _ => False) e s' -> False) :
    codeAny (model P w) callerA (.call (.ref fa) ⟨[.ref a], []⟩) (fun r s' => r = .ok (.ret (.bool true)) /\ OldK s₁.heap s'.heap /\ s'.os = s₁.os /\ AllBare s'.gens) s₁ := by
  have rv := Tg hi
  have lenV := hi.length
  -- from an abstract heap in which nothing but the script may be tracked
  have core : ∀ H : Hp, Zdh H -> Of K H a (ns.map V.int) -> Oe P w H s₁.heap -> (∀ b, H b ≠ none -> b = a) -> (H a ≠ none -> K.lookup a = none) ->
      codeAny (model P w) callerA (.call (.ref fa) ⟨[.ref a], []⟩) (fun r s' => r = .ok (.ret (.bool true)) /\ OldK s₁.heap s'.heap /\ s'.os = s₁.os /\ AllBare s'.gens) s₁ := by
    intro H hO hS hok hA hK
    have base_of : ∀ {b : Addr} {o : Obj}, s₁.heap.get? b = some o -> H b = none -> (Aj s₁.heap H).get? b = some o := fun e n => X3 e n
    have noA : ∀ {b : Addr} {o : Obj} {es : Array DictEntry} {ep : Nat}, s₁.heap.get? b = some o -> o.data = .dict es ep -> H b = none := fun {b o es ep} e d => by
      cases q : H b with
      | none => rfl
      | some u =>
        have e' : b = a := hA b (by rw [q]; simp)
        subst e'
        rw [ha] at e; cases e
        have d' : Data.seq vs.toArray _ = Data.dict es ep := d
        cases d'
    have nsK : ∀ {b : Addr} {m : Str -> Option Value}, s₁.heap.Ns b m -> (Aj s₁.heap H).Ns b m := fun {b m} ⟨o, es, ep, e, d, r⟩ => ⟨o, es, ep, base_of e (noA e d), d, r⟩
    have hKb : K.In (Aj s₁.heap H) := fun b o e => base_of (KX b o e) (by
      cases q : H b with
      | none => rfl
      | some u =>
        have e' : b = a := hA b (by rw [q]; simp)
        subst e'
        rw [hK (by rw [q]; simp)] at e; cases e)
    have hM : Mod K mg (Aj s₁.heap H) := ⟨hKb, nsK hns, ⟨mb, nsK hb, hbb⟩, let ⟨mc, h1, h2⟩ := hlim; ⟨mc, nsK h1, h2⟩⟩
    have e0 : Env0 P w K mg (Aj s₁.heap H) callerA [] s₁ H := ⟨rfl, hM, fun b o e => Zcz e, Nat.le_of_eq (S4 _ _), trivial, fun b hb => absurd (show b ∈ ([] : List Addr) from hb) (by simp), hok, .of_eq hg⟩
    refine codeAny_mono ((F _ hKb (nsK hns)).run callerA [] s₁ H ⟨[.ref a], []⟩ [.ref a] [.ref a] _ _ hr e0 (hbind s₁ (.ref a)) (.cons rfl .nil) (hsp H hO hS)) fun r s' h => ?_
    cases r with
    | error e => exact (hCX H e s' h).elim
    | ok fl =>
      cases fl with
      | next => exact False.elim h
      | brk => exact False.elim h
      | cont => exact False.elim h
      | ret u =>
        obtain ⟨v, H', os, bare, un, hok', r', q⟩ := h
        have q' : v = .bl true := q
        subst q'
        obtain rfl : u = Value.bool true := r'
        refine ⟨rfl, OldK.of_keep fun b o e => ?_, os, bare⟩
        cases q : H b with
        | none => exact un.keep b o e q (by intro z; exact absurd (show b ∈ ([] : List Addr) from z) (by simp)) (by simp)
        | some u =>
          rcases hO b with z | ⟨ob, xs, z⟩
          · rw [q] at z; cases z
          · have z2 := un.frzs b ob _ z
            obtain ⟨e1, _⟩ := hok b _ z
            obtain ⟨e2, _⟩ := hok' b _ z2
            rw [e] at e1; cases e1
            exact e2
  cases hk : K.lookup a with
  | some o =>
    -- the script is one of the module's own objects
    have e := KX a o hk
    rw [ha] at e
    cases e
    refine core (fun _ => none) (fun _ => .inl rfl) (.inr ⟨_, vs.toArray, _, hk, rfl, rfl, rfl, by rw [List.size_toArray, lenV]; exact hl, by simpa using rv⟩) (fun b u z => by have z' : (none : Option HO) = some u := z; cases z') (fun b z => absurd rfl z) fun z => absurd rfl z
  | none =>
    refine core (fun b => if b = a then some (.frz { cls := .type "list", data := .seq vs.toArray } (.lst (ns.map V.int))) else none) (fun b => ?_) (.inl (.inr ⟨{ cls := .type "list", data := .seq vs.toArray }, if_pos rfl⟩)) (fun b u z => ?_) (fun b z => ?_) fun _ => hk
    · by_cases hb : b = a
      · exact .inr ⟨_, _, if_pos hb⟩
      · exact .inl (if_neg hb)
    · by_cases hb : b = a
      · have z' := (if_pos hb).symm.trans z
        cases z'
        subst hb
        exact ⟨ha, by rw [List.length_map]; exact hl, vs, _, rv, ha⟩
      · have z' := (if_neg hb).symm.trans z
        cases z'
    · by_cases hb : b = a
      · exact hb
      · exact absurd (if_neg hb) z
theorem Zdi{l:PySem.W.OpenLaw}{n k:Nat}{q:Program}{loose:List Str}{XP:(Str->Option Value)->Heap->Prop}{YP:World->Heap->Prop}{d:DefRec}{K:Params->PySem.W.Frag}{CX:World->Nt}{sp:World->Sp}{x:Str}
  (hn:l.most=some n) (hn2:n<=sizeLine) (hdf:d.params.defaults=[]) (hr:Room k callerA)
  (hY:∀(w:World) (h:Heap),YP w h->(K w.params).In h)
  (F:∀(w:World) (mg:Str->Option Value) (fa:Addr) (h:Heap),(K w.params).In h->h.Ns mainGlobals mg->mg d.name=some (.ref fa)->
   ∃fd:FuncData,(∀(s:Shared) (u:Value),BindsTo s fd ⟨[u],[]⟩ [(x,u)])/\
    ∀base:Heap,(K w.params).In base->base.Ns mainGlobals mg->FnOk l.prog w (K w.params) mg base (CX w) k fa fd [x] (sp w))
  (hsp:∀(w:World) (H:Hp) (a:Addr) (ns:List Int),ns.length<=n->Zdh H->Of (K w.params) H a (ns.map V.int)->sp w [.ref a] H (fun v _=>v= .bl true) fun _ _ _=>False)
  (hCX:∀(w:World) (H:Hp) (s:Shared) (e:Value) (s':Shared),CX w [] H s (fun _ _ _=>False) e s'->False):
  PySem.W.WalkO q loose XP YP l.row.toRowW d [] (fun f vs=>PySem.call f vs):=by
 refine Att.attach_call hn hdf fun w s₀ s₁ mg mb fa o pm cd doc a vs ns G Y ho hd hcd hmg hobj hints hlen hg=>?_
 have KX:=hY w _ Y
 obtain⟨fd,hb,hF⟩:=F w mg fa _ KX G.T.g hmg
 exact Dn KX G.T.g G.T.b G.T.builtins G.T.nolimit hg hobj hints (Nat.le_trans hlen hn2) hr hF hb (fun H hO hS=>hsp w H a ns hlen hO hS) fun H e s'=>hCX w H s₁ e s'
theorem Dp{l:PySem.W.OpenLaw}{n k:Nat}{q:Program}{loose:List Str}{XP:(Str->Option Value)->Heap->Prop}{YP:World->Heap->Prop}{d:DefRec}{K:Params->PySem.W.Frag}{CX:Nt}{sp:PySem.W.Frag->Sp}{x:Str}
  (hn:l.most=some n) (hn2:n<=sizeLine) (hdf:d.params.defaults=[]) (hr:Room k callerA)
  (hY:∀(w:World) (h:Heap),YP w h->(K w.params).In h)
  (F:∀(w:World) (mg:Str->Option Value) (fa:Addr) (h:Heap),(K w.params).In h->h.Ns mainGlobals mg->mg d.name=some (.ref fa)->
   ∃fd:FuncData,(∀(s:Shared) (u:Value),BindsTo s fd ⟨[u],[]⟩ [(x,u)])/\
    ∀base:Heap,(K w.params).In base->base.Ns mainGlobals mg->FnOk l.prog w (K w.params) mg base CX k fa fd [x] (sp (K w.params)))
  (hsp:∀(K:PySem.W.Frag) (H:Hp) (a:Addr) (ns:List Int),ns.length<=n->Zdh H->Of K H a (ns.map V.int)->sp K [.ref a] H (fun v _=>v= .bl true) fun _ _ _=>False)
  (hCX:∀(H:Hp) (s:Shared) (e:Value) (s':Shared),CX [] H s (fun _ _ _=>False) e s'->False):
  PySem.W.WalkO q loose XP YP l.row.toRowW d [] (fun f vs=>PySem.call f vs):=
 Zdi (K:=K) (CX:=fun _=>CX) (sp:=fun w=>sp (K w.params)) hn hn2 hdf hr hY F (fun w H a ns h1 h2 h3=>hsp (K w.params) H a ns h1 h2 h3) fun _ H s e s'=>hCX H s e s'
noncomputable def Uq(s:Stmt):Arguments:=match s with
 | .FunctionDef _ a _ _ _ _ _ _ _ _=>a
 |_=>{posonlyargs:=[],args:=[],vararg:=none,kwonlyargs:=[],kw_defaults:=[],kwarg:=none,defaults:=[]}
noncomputable def W0(s:Stmt):List Stmt:=match s with
 | .FunctionDef _ _ b _ _ _ _ _ _ _=>b
 |_=>[]
noncomputable def Zv(s:Stmt):Scope:=match s with
 | .FunctionDef _ _ _ _ _ _ sc _ _ _=>sc
 |_=>{kind:=.function,names:=[],isGenerator:=false,isCoroutine:=false}
noncomputable abbrev Cw:Nt:=fun _ _ _ _ _ _=>False
noncomputable abbrev E0:XK:=fun _ _ _=>False
theorem Zl9{X:Cx}:Cv Cw X E0:=fun _ _ _ _ _ _ _ h=>h.elim
structure Fun(K:PySem.W.Frag)(x qual:Str)(st:Stmt)(f:Addr)(fd:FuncData):Prop where
 ex:∃(oc:Value) (od:Option Addr) (kV doc pm:Value) (an:Option Addr) (cdv ct:Value) (osl:Array (Option Value)),
  fd=PySem.W.fnOf x qual (Uq st) (W0 st) (Zv st) .none kV doc pm an cdv ct/\K.lookup f=some ⟨oc,od,.func fd,osl⟩/\PySem.W.codeIn K cdv qual=true
 kp:PySem.W.keepIn K (.ref f)=true
section
variable{P:Program}{w:World}{K:PySem.W.Frag}{mg:Str->Option Value}{base:Heap}
theorem Fun.ok{x qual:Str}{st:Stmt}{f:Addr}{fd:FuncData}{N ps:List Str}{k:Nat}{sp:Sp}(F:Fun K x qual st f fd)(S:FnScope N ps (Zv st))(len:∀vs H Q E,sp vs H Q E->vs.length=ps.length)
  (hbody:∀(cdv:Value) (A:Around) (outer:List Env) (s:Shared) (H:Hp) (vs:List V) (Q:VK) (E:XK),Room k (A.deeper (envOfC qual (Zv st) s.heap.objs.size f cdv))->sp vs H Q E->
   ∃t,Ob (O7 Cw P w K mg base N qual (Zv st) f cdv A outer s H E).nox (W0 st) t/\t {nx:=fun _ H'=>Q .non H',rt:=Q} (start N vs) H):FnOk P w K mg base Cw (k+1) f fd ps sp:=by
 obtain⟨oc,od,kV,doc,pm,an,cdv,ct,osl,rfl,lk,hcd⟩:=F.ex
 refine Zgi lk hcd S len fun A outer s H vs Q E hr hsp=>?_
 obtain⟨t,h,q⟩:=hbody cdv A outer s H vs Q E hr hsp
 exact⟨t,h.nox,q⟩
theorem Fun.binds{x qual:Str}{st:Stmt}{f:Addr}{fd:FuncData}{ps:List Str}(F:Fun K x qual st f fd)
  (h:∀(kV doc pm:Value) (an:Option Addr) (cdv ct:Value) (us:List Value),us.length=ps.length->bindArgs (PySem.W.fnOf x qual (Uq st) (W0 st) (Zv st) .none kV doc pm an cdv ct) ⟨us,[]⟩=pure (ps.zip us)):Qf K fd ps []:=by
 obtain⟨oc,od,kV,doc,pm,an,cdv,ct,osl,rfl,lk,hcd⟩:=F.ex
 exact .all (h kV doc pm an cdv ct)
theorem K5{x qual:Str}{st:Stmt}{f:Addr}{oc:Value}{od an:Option Addr}{osl:Array (Option Value)}{kV doc pm cdv ct:Value}(l:K.lookup f=some ⟨oc,od,.func (PySem.W.fnOf x qual (Uq st) (W0 st) (Zv st) .none kV doc pm an cdv ct),osl⟩)
  (c:PySem.W.codeIn K cdv qual=true) (k:PySem.W.keepIn K (.ref f)=true):Fun K x qual st f (PySem.W.fnOf x qual (Uq st) (W0 st) (Zv st) .none kV doc pm an cdv ct):=⟨⟨oc,od,kV,doc,pm,an,cdv,ct,osl,rfl,l,c⟩,k⟩
end
theorem Dq{A:Around}{k:Nat}(hr:Room k A):A.units+1<cLine:=Nat.lt_of_le_of_lt (Nat.add_le_add_left (by decide:1<=64) _) hr.units
section
variable{X:Cx}
theorem pv(i:Nat){x:Str}{pos:Pos}(hN:X.N[i]? =some x:=by rfl)(hv:Km X.env.scope x:=by first|exact Or.inl rfl|exact Or.inr (Or.inl rfl)|exact Or.inr (Or.inr rfl))(hd:(x==("__debug__":Str))=false:=by decide)
  (hcd:(x==("__classdict__":Str))=false:=by decide):PE X (.Name x pos) (Jg i):=Q4 hN hv hd hcd
end
noncomputable def Zh(H H':Hp):Prop:=∀b o,H b=some o->H' b=some o
theorem Zh.refl(H:Hp):Zh H H:=fun _ _ h=>h
theorem Zh.trans{H H1 H2:Hp}(a:Zh H H1)(b:Zh H1 H2):Zh H H2:=fun c o h=>b c o (a c o h)
theorem Zh.free{H H':Hp}(e:Zh H H'){l:Addr}(h:H' l=Option.none):H l=Option.none:=by
 cases q:H l with
 |none=>rfl
 |some o=>
  rw[e l o q]at h
  cases h
theorem PE.imp{X:Cx}{e:Expr}{t t':TE}(h:PE X e t)(w:∀σ H Q,t' σ H Q->t σ H Q):PE X e t':=fun pins s σ H Q I q=>h pins s σ H Q I (w σ H Q q)
theorem PT.imp{X:Cx}{e:Expr}{t t':TT}(h:PT X e t)(w:∀σ H Q,t' σ H Q->t σ H Q):PT X e t':=fun pins s σ H Q I q=>h pins s σ H Q I (w σ H Q q)
theorem PW.imp{X:Cx}{e:Expr}{t t':TT}(h:PW X e t)(w:∀σ H Q,t' σ H Q->t σ H Q):PW X e t':=fun wh pins s σ H Q I q=>h wh pins s σ H Q I (w σ H Q q)
theorem PA.imp{X:Cx}{e:List Expr}{t t':TA}(h:PA X e t)(w:∀σ H Q,t' σ H Q->t σ H Q):PA X e t':=fun pos pins s σ H Q I q=>h pos pins s σ H Q I (w σ H Q q)
theorem PS.imp{X:Cx}{e:Stmt}{t t':TS}(h:PS X e t)(w:∀D σ H,t' D σ H->t D σ H):PS X e t':=fun pins s σ H D I q=>h pins s σ H D I (w D σ H q)
theorem Ob.imp{X:Cx}{e:List Stmt}{t t':TS}(h:Ob X e t)(w:∀D σ H,t' D σ H->t D σ H):Ob X e t':=fun pins s σ H D I q=>h pins s σ H D I (w D σ H q)
theorem PG.imp{X:Cx}{e:Expr}{t t':TG}(h:PG X e t)(w:∀v σ H Q,t' v σ H Q->t v σ H Q):PG X e t':=fun pins s σ H v u Q I r q=>h pins s σ H v u Q I r (w v σ H Q q)
theorem Hc.imp{X:Cx}{e:List Expr}{t t':TGs}(h:Hc X e t)(w:∀v σ H Q,t' v σ H Q->t v σ H Q):Hc X e t':=fun pins s σ H vs us Q I r q=>h pins s σ H vs us Q I r (w vs σ H Q q)
theorem PI.imp{X:Cx}{tg e:Expr}{t t':TI}(h:PI X tg e t)(w:∀σ H R,t' σ H R->t σ H R):PI X tg e t':=fun pins s σ H R I q=>h pins s σ H R I (w σ H R q)
noncomputable def Gx(cells:List (Str×Addr)):List (Str×NameKind)->List (Str×Addr)->List (Str×Addr)
 | [],cs=>cs
 | (n,k)::r,cs=>Gx cells r (if k= .free then(n,(cells.lookup n).getD 0)::cs else cs)
theorem Bi{env:Env}:∀(names:List (Str×NameKind)) (cs:List (Str×Addr)),(∀y∈names,y.2= .free->∃c,env.cells.lookup y.1=some c)->
    (forIn names cs (fun x r=>if(x.2==NameKind.free)=true then do let a<-cellOf env x.1;pure (ForInStep.yield ((x.1,a)::r))else pure (ForInStep.yield r)):Sem (List (Str×Addr)))=pure (Gx env.cells names cs)
  | [],cs,_=>by rw[List.forIn_nil];rfl
  | (n,k)::r,cs,h=>by
    rw[List.forIn_cons]
    by_cases hk:k= .free
    · obtain⟨c,hc⟩:=h (n,k) List.mem_cons_self hk
      subst hk
      have e1:cellOf env n=pure c:=by unfold cellOf;rw[hc]
      show((if(NameKind.free==NameKind.free)=true then(cellOf env n >>=fun a=>pure (ForInStep.yield ((n,a)::cs)))else pure (ForInStep.yield cs)) >>=fun s=>_)=_
      rw[if_pos (show(NameKind.free==NameKind.free)=true by decide),e1]
      show(forIn r ((n,c)::cs) _:Sem (List (Str×Addr)))=_
      rw[Bi r _ fun y hy=>h y (List.mem_cons_of_mem _ hy)]
      show _=pure (Gx env.cells r (if NameKind.free=NameKind.free then(n,(env.cells.lookup n).getD 0)::cs else cs))
      rw[if_pos rfl,hc]
      rfl
    · have hb:(k==NameKind.free)=false:=by simpa using hk
      show((if(k==NameKind.free)=true then(cellOf env n >>=fun a=>pure (ForInStep.yield ((n,a)::cs)))else pure (ForInStep.yield cs)) >>=fun s=>_)=_
      rw[hb,if_neg Bool.false_ne_true]
      show(forIn r cs _:Sem (List (Str×Addr)))=_
      rw[Bi r _ fun y hy=>h y (List.mem_cons_of_mem _ hy)]
      show _=pure (Gx env.cells r (if k=NameKind.free then _ else cs))
      rw[if_neg hk]
theorem Mz{scope:Scope}{env:Env}(h:∀y∈scope.names,y.2= .free->∃c,env.cells.lookup y.1=some c):closureFor scope env=pure (Gx env.cells scope.names []):=by
 simp only[closureFor]
 rw[Bi scope.names [] h]
 rfl
theorem E8{cells:List (Str×Addr)}{x:Str}{c:Addr}:∀{names:List (Str×NameKind)} {cs:List (Str×Addr)},(∀y∈names,y.2= .free->∃c,cells.lookup y.1=some c)->
    (cs.lookup x=some c->cells.lookup x=some c)->(Gx cells names cs).lookup x=some c->cells.lookup x=some c
  | [],_,_,h0,e=>h0 e
  | (n,k)::r,cs,h,h0,e=>by
    refine E8 (names:=r) (fun y hy=>h y (List.mem_cons_of_mem _ hy)) ?_ e
    intro e'
    by_cases hk:k= .free
    · rw[if_pos hk]at e'
      obtain⟨c',hc⟩:=h (n,k) List.mem_cons_self hk
      rw[hc]at e'
      by_cases hx:x==n
      · simp only[List.lookup_cons,hx]at e'
        cases e'
        have:x=n:=by simpa using hx
        rw[this];exact hc
      · have hx':(x==n)=false:=by simpa using hx
        simp only[List.lookup_cons,hx']at e'
        exact h0 e'
    · rw[if_neg hk]at e';exact h0 e'
theorem Th{cells:List (Str×Addr)}{x:Str}:∀{names:List (Str×NameKind)} {cs:List (Str×Addr)},(∃c,cs.lookup x=some c)->∃c,(Gx cells names cs).lookup x=some c
  | [],_,h=>h
  | (n,k)::r,cs,⟨c,h⟩=>by
    refine Th (names:=r) ?_
    by_cases hk:k= .free
    · rw[if_pos hk]
      by_cases hx:x==n
      · exact⟨(cells.lookup n).getD 0,by simp only[List.lookup_cons,hx]⟩
      · have hx':(x==n)=false:=by simpa using hx
        exact⟨c,by simp only[List.lookup_cons,hx'];exact h⟩
    · rw[if_neg hk];exact⟨c,h⟩
theorem B7{cells:List (Str×Addr)}{x:Str}:∀{names:List (Str×NameKind)} {cs:List (Str×Addr)},(x,NameKind.free)∈names->∃c,(Gx cells names cs).lookup x=some c
  | [],_,h=>nomatch h
  | (n,k)::r,cs,h=>by
    rcases List.mem_cons.mp h with e|e
    · cases e
      refine Th (names:=r) ⟨(cells.lookup x).getD 0,?_⟩
      rw[if_pos rfl]
      simp[List.lookup_cons]
    · exact B7 (names:=r) e
noncomputable def rlF(env:Env):Str×NameKind->Str×NameKind:=fun(n,k)=>if(k==NameKind.free&&env.scope.kind== .function&&env.kindOf n==some .cell)then(n,NameKind.cell)else(n,k)
theorem Az(env:Env)(p:Str×NameKind):(rlF env p).1=p.1:=by
 obtain⟨n,k⟩:=p
 unfold rlF
 dsimp only
 split<;> rfl
theorem Jn{f:Str×NameKind->Str×NameKind}(h:∀p,(f p).1=p.1)(x:Str):∀names:List (Str×NameKind),(names.map f).lookup x=(names.lookup x).map fun k=>(f (x,k)).2
  | []=>rfl
  | (n,k)::r=>by
    have ih:=Jn h x r
    have e:f (n,k)=(n,(f (n,k)).2):=Prod.ext (h (n,k)) rfl
    rw[List.map_cons,e,List.lookup_cons,List.lookup_cons]
    cases hx:x==n with
    |true=>
      have:x=n:=by simpa using hx
      subst this
      rfl
    |false=>exact ih
theorem Q8{x:Str}{k:NameKind}:∀{names:List (Str×NameKind)},names.lookup x=some k->(x,k)∈names
  | [],h=>by simp at h
  | (n,k')::r,h=>by
    rw[List.lookup_cons]at h
    cases hx:x==n with
    |true=>
      rw[hx]at h
      have:x=n:=by simpa using hx
      subst this
      cases h
      exact List.mem_cons_self
    |false=>rw[hx]at h;exact List.mem_cons_of_mem _ (Q8 h)
theorem Ur{env:Env}{names:List (Str×NameKind)}{x:Str}{kk:NameKind}(hn:∀y∈names,y.2≠.cell)(hk:kk= .cell\/kk= .free)(h:(names.map (rlF env)).lookup x=some kk):(x,NameKind.free)∈names:=by
 rw[Jn (Az env)]at h
 obtain⟨k,h1,h2⟩:=Option.map_eq_some_iff.mp h
 have hm:=Q8 h1
 have hc:k≠.cell:=hn _ hm
 by_cases hf:k= .free
 ·subst hf;exact hm
 ·exfalso
  have hb:(k==NameKind.free)=false:=by simpa using hf
  unfold rlF at h2
  simp only[hb,Bool.false_and,Bool.false_eq_true,if_false]at h2
  rcases hk with e|e
  ·exact hc (h2.trans e)
  ·exact hf (h2.trans e)
inductive BSrc where
 |own|cap (j:Nat)|acc
noncomputable def Zgo(σ:St)(acc:Addr):BSrc->Option V
 | .own=>none
 | .cap j=>(σ[j]?).join
 | .acc=>some (.ref acc)
noncomputable def K6(src:List BSrc)(σ:St)(acc:Addr):St:=src.map (Zgo σ acc)
noncomputable abbrev Cx.block(X:Cx)(N':List Str)(scope:Scope)(C:Addr)(s₀:Shared)(H₀:Hp)(ex:List Addr):Cx:=
 {X with N:=N',env:=compEnvC scope (Gx X.env.cells scope.names []) C X.env,s₀:=s₀,H₀:=H₀,outer:=X.stack,stack:=X.stack,ex:=ex,fn:=fun _=>false,pn:=[],xe:=fun _ _=>False}
structure CompScope(X:Cx)(N':List Str)(scope:Scope)(src:List BSrc):Prop where
 kind:scope.kind= .function
 nocell:∀y∈scope.names,y.2≠.cell
 names:∀y∈scope.names,y.2= .local->scope.names.lookup y.1=some .local
 free:∀y∈scope.names,y.2= .free->X.env.kindOf y.1=some .cell\/X.env.kindOf y.1=some .free
 len:src.length=N'.length
 cap:∀(k j:Nat) (x:Str),src[k]? =some (.cap j)->N'[k]? =some x->X.N[j]? =some x/\(X.env.kindOf x=some .cell\/X.env.kindOf x=some .free)/\scope.names.lookup x=some .free
 acc:∀(k:Nat) (x:Str),src[k]? =some .acc->N'[k]? =some x->scope.names.lookup x=none
theorem O8{env:Env}{names:List (Str×NameKind)}{x:Str}(h:names.lookup x=none):(names.map (rlF env)).lookup x=none:=by
 rw[Jn (Az env),h];rfl
theorem O9{env:Env}{names:List (Str×NameKind)}{x:Str}(h:names.lookup x=some .free):(names.map (rlF env)).lookup x=some .cell\/(names.map (rlF env)).lookup x=some .free:=by
 rw[Jn (Az env),h]
 unfold rlF
 dsimp only[Option.map]
 split
 ·exact .inl rfl
 ·exact .inr rfl
section
variable{X:Cx}{N':List Str}{scope:Scope}{src:List BSrc}{pins:List (Addr×Obj)}{σ:St}{H:Hp}{s:Shared}{C acc:Addr}{fp:List Addr}
theorem E9{h1:Heap}{tk:Nat}(S:CompScope X N' scope src)(I:Inv X pins σ H s)(hC:C=s.heap.objs.size)(hf:∀b∈fp,Gv X pins H b)(hfo:∀b∈fp,∃o,s.heap.get? b=some o)
  (hns:h1.Ns C fun _=>none) (hk:∀b o,s.heap.get? b=some o->h1.get? b=some o):
  Inv (X.block N' scope C s H fp) [] (K6 src σ acc) H {s with heap:=h1,toks:=tk}:=by
 have cellf:∀y∈scope.names,y.2= .free->∃c,X.env.cells.lookup y.1=some c:=fun y hy e=>I.ok.has y.1 (S.free y hy e)
 have sub:∀x c,(Gx X.env.cells scope.names []).lookup x=some c->X.env.cells.lookup x=some c:=fun x c e=>E8 cellf (fun h=>by simp at h) e
 have gt:∀b,b<s.heap.objs.size->b≠C:=fun b hb e=>by rw[e,hC]at hb;exact Nat.lt_irrefl _ hb
 refine⟨⟨I.ok.mod,S.kind,I.ok.glob,I.ok.blt,by rw[hC];exact Nat.le_refl _,fun x y c h1 h2=>I.ok.inj x y c (sub x c h1) (sub y c h2),fun x hx=>?_,fun x c h=>absurd h Bool.false_ne_true,I.ok.hd,I.ok.frames,.inl rfl,fun b hb=>?_,I.bs,
  Nat.le_trans I.ok.bsz I.sz,fun b o e hb=>?_,fun b hb hs=>?_,I.stack,I.stkFree⟩,rfl,I.bare,Un.kept hk,⟨_,hns,fun i x v e1 e2 e3=>?_⟩,fun x c e=>?_,?_,fun x c e=>I.freeC x c (sub x c e),fun p hp=>?_,I.hok.kept hk,?_⟩
 ·rcases hx with hx|hx
  ·exact B7 (Ur S.nocell (.inl rfl) hx)
  ·exact B7 (Ur S.nocell (.inr rfl) hx)
 ·obtain⟨f0,f1,f2,f3,f4,f5⟩:=hf b hb
  refine⟨?_,fun x c e=>f4 x c (sub x c e)⟩
  show b≠C
  obtain⟨o,ho⟩:=hfo b hb
  exact gt b (Heap.lt_size ho)
 ·obtain⟨f0,f1,f2,f3,f4,f5⟩:=hf b hb
  rcases f3 with z|z
  ·exact I.ok.noex b o e z
  ·exact absurd (Nat.lt_of_lt_of_le (Heap.lt_size e) (Nat.le_trans I.ok.bsz z)) (Nat.lt_irrefl _)
 ·obtain⟨f0,f1,f2,f3,f4,f5⟩:=hf b hb
  rcases List.mem_cons.mp (I.stkSub b hs)with z|z
  ·exact f1 z
  ·exact f2 z
 ·have hsrc:∃q,src[i]? =some q:=by
   cases q:src[i]? with
   |some q0=>exact⟨q0,rfl⟩
   |none=>
    have e2':(K6 src σ acc)[i]? =some (some v):=e2
    unfold K6 at e2'
    rw[List.getElem?_map,q]at e2';cases e2'
  obtain⟨q,hq⟩:=hsrc
  have e2':(K6 src σ acc)[i]? =some (some v):=e2
  unfold K6 at e2'
  rw[List.getElem?_map,hq]at e2'
  have e2'':Zgo σ acc q=some v:=Option.some.inj e2'
  cases q with
  |own=>cases e2''
  |acc=>
   exfalso
   have hno:=O8 (env:=X.env) (S.acc i x hq e1)
   have hno':(relabel scope X.env).names.lookup x=none:=hno
   have e3':Km (relabel scope X.env) x:=e3
   rcases e3' with z|z|z
   ·rw[hno']at z;cases z
   ·rw[hno']at z;cases z
   ·rw[hno']at z;cases z
  |cap j=>
   obtain⟨hj,hkind,hfr⟩:=S.cap i j x hq e1
   have hσ:σ[j]? =some (some v):=by
    have e4:(σ[j]?).join=some v:=e2''
    cases r:σ[j]? with
    |none=>rw[r]at e4;cases e4
    |some o=>rw[r]at e4;cases o with
     |none=>cases e4
     |some w'=>cases e4;rfl
   obtain⟨m,hn,hl⟩:=I.loc
   obtain⟨u,ru,l⟩:=hl j x v hj hσ (by rcases hkind with z|z;exact .inr (.inl z);exact .inr (.inr z))
   refine⟨u,ru,?_⟩
   rcases l with⟨z,_⟩|⟨_,c,hc,hcell⟩
   ·rcases hkind with y|y
    ·rw[y]at z;cases z
    ·rw[y]at z;cases z
   ·have e3':Km (relabel scope X.env) x:=e3
    have fin:∀kk,kk= .cell\/kk= .free->(relabel scope X.env).names.lookup x=some kk->Zlm (X.block N' scope C s H fp).env h1 (fun _=>none) x u:=fun kk hkk hx=>by
     obtain⟨c',hc'⟩:=B7 (cells:=X.env.cells) (cs:=[]) (Ur S.nocell hkk hx)
     have:=sub x c' hc'
     rw[hc]at this;cases this
     obtain⟨oc,hoc,hocd⟩:=hcell
     refine .inr ⟨?_,c,hc',oc,hk c oc hoc,hocd⟩
     rcases hkk with y|y
     ·subst y;exact .inl hx
     ·subst y;exact .inr hx
    rcases e3' with z|z|z
    ·exfalso
     have z':(relabel scope X.env).names.lookup x=some .local:=z
     rcases O9 (env:=X.env) hfr with y|y
     ·have y':(relabel scope X.env).names.lookup x=some .cell:=y
      rw[z']at y';cases y'
     ·have y':(relabel scope X.env).names.lookup x=some .free:=y
      rw[z']at y';cases y'
    ·exact fin .cell (.inl rfl) z
    ·exact fin .free (.inr rfl) z
 ·obtain⟨v,oc,hoc,hocd⟩:=I.cell x c (sub x c e)
  exact⟨v,oc,hk c oc hoc,hocd⟩
 ·show H C=none
  rw[hC];exact I.hok.fresh (Nat.le_refl _)
 ·have hp':p∈([]:List (Addr×Obj)):=by simpa using hp
  exact nomatch hp'
 ·show(K6 src σ acc).length=N'.length
  unfold K6
  rw[List.length_map];exact S.len
noncomputable def Zgp(src:List BSrc)(wi:TI)(g:TG)(tt:TT)(te:TE):TE:=fun σ H Q=>wi σ H fun J H1=>∀acc,H1 acc=none->
 ∃W:Nat->Nat->St->Hp->Prop,(∃m,W 0 m (K6 src σ acc) (Ys H1 acc (.lst [])))/\∀i m σ' H,W i m σ' H->(J.stop i H/\Q (.ref acc) H)\/
  (J.go i H/\∀x H',J.yld i H x H'->g x σ' H' fun σ2 H2=>tt σ2 H2 fun b H3=>if b=true then te σ2 H3 fun y H4=>G5 (.ref acc) [y] H4 fun _ H5=>∃m',m'<m/\W (i+1) m' σ2 H5 else∃m',m'<m/\W (i+1) m' σ2 H3)
noncomputable def PTs(X:Cx)(ifs:List Expr)(t:TT):Prop:=
 ∀(pins:List (Addr×Obj)) (s:Shared) (σ:St) (H:Hp) (Q:Bool->Hp->Prop),Inv X pins σ H s->t σ H Q->
  wpAny (model X.prog X.w) X.A (forIn ifs true fun c r=>if r=true then do let ok<-isTrue c X.env (eval c X.env);pure (ForInStep.yield ok)else pure (ForInStep.yield r)) (TP X pins σ Q) X.xe s
noncomputable def Zma:TT:=fun _ H Q=>Q true H
theorem Zdj:PTs X [] Zma:=fun _ s σ H Q I h=>wpAny_tests_nil ⟨H,I,h⟩
theorem Vl{prog:Program}{w:World}{A:Around}{s:Shared}{elt target iter:Expr}{ifs:List Expr}{scope:Scope}{pos:Pos}{it acc:Value}{env:Env}{R:Result->Shared->Prop}(I:Nat->Shared->Prop)
  (turn:∀n s,I n s->wpAny (model prog w) A (pyNext it) (fun r s₁=>match r with
   |none=>R (.ok .next) s₁
   |some v=>wpAny (model prog w) A (letOwnedTupleGo target it v) (fun _ s₀=>wpAny (model prog w) A (assign target env v) (fun _ s₂=>
     wpAny (model prog w) A (forIn ifs true fun c r=>if r=true then do let ok<-isTrue c env (eval c env);pure (ForInStep.yield ok)else pure (ForInStep.yield r)) (fun ok s₃=>if ok=true then wpAny (model prog w) A (eval elt env) (fun x s₄=>
      wpAny (model prog w) A (call (.builtin "list.append") [acc,x]) (fun _ s₅=>∃m,m<n/\I m s₅) (fun _ _=>False) s₄) (fun _ _=>False) s₃
      else∃m,m<n/\I m s₃) (fun _ _=>False) s₂)
     (fun _ _=>False) s₀) (fun _ _=>False) s₁) (fun _ _=>False) s)
  (n:Nat) (h:I n s):codeAny (model prog w) A (.compLoop (.ListComp elt [⟨target,iter,ifs,0⟩] scope pos) 0 it acc env) R s:=by
 refine codeAny_loop rfl I (fun n s hI=>?_) n h
 show wpAny _ A ((compTurn (.ListComp elt [⟨target,iter,ifs,0⟩] scope pos) 0 it acc env).onRaise (fun x=>do noteFrame x env;theTreesLotGoes x)) _ _ s
 refine wpAny_noted ?_
 rw[compTurn_list]
 refine wpAny_bind (wpAny_standAt (wpAny_bind (wpAny_mono (turn n s hI) (fun r s₁ h₁=>?_) fun _ _ f=>f.elim)))
 cases r with
 |none=>exact wpAny_pure h₁
 |some v=>
  refine wpAny_bind (wpAny_mono h₁ (fun _ s₀ h₀'=>?_) fun _ _ f=>f.elim)
  refine wpAny_bind (wpAny_mono h₀' (fun _ s₂ h₂=>?_) fun _ _ f=>f.elim)
  refine wpAny_bind (wpAny_mono h₂ (fun okb s₃ h₃=>?_) fun _ _ f=>f.elim)
  cases okb with
  |false=>exact wpAny_pure ⟨rfl,h₃⟩
  |true=>exact wpAny_bind (wpAny_bind (wpAny_mono h₃ (fun x s₄ h₄=>wpAny_bind (wpAny_mono h₄ (fun _ s₅ h₅=>wpAny_pure (wpAny_pure ⟨rfl,h₅⟩)) fun _ _ f=>f.elim)) fun _ _ f=>f.elim))
theorem K7{tg elt iter:Expr}{ifs:List Expr}{pos:Pos}{g:TG}{tt:TT}{te:TE}{it:Addr}{tn:Nat->Heap->Prop}{J:It}{Q:VK}{RR:Value->Addr->Result->Shared->Prop}{E:Value->Shared->Prop}
  (hc:X.calm=true) (S:CompScope X N' scope src)
  (hg:∀(C:Addr) (s₀:Shared) (H₀:Hp) (ex:List Addr),PG (X.block N' scope C s₀ H₀ ex) tg g)
  (ht:∀(C:Addr) (s₀:Shared) (H₀:Hp) (ex:List Addr),PTs (X.block N' scope C s₀ H₀ ex) ifs tt)
  (he:∀(C:Addr) (s₀:Shared) (H₀:Hp) (ex:List Addr),PE (X.block N' scope C s₀ H₀ ex) elt te)
  (I:Inv X pins σ H s) (T:Turn X.prog X.w X.K tg J fp it tn) (st:tn 0 s.heap) (hf:∀b∈fp,Gv X pins H b)
  (q:∀acc,H acc=none->∃W:Nat->Nat->St->Hp->Prop,(∃m,W 0 m (K6 src σ acc) (Ys H acc (.lst [])))/\∀i m σ' H,W i m σ' H->(J.stop i H/\Q (.ref acc) H)\/
   (J.go i H/\∀x H',J.yld i H x H'->g x σ' H' fun σ2 H2=>tt σ2 H2 fun b H3=>if b=true then te σ2 H3 fun y H4=>G5 (.ref acc) [y] H4 fun _ H5=>∃m',m'<m/\W (i+1) m' σ2 H5 else∃m',m'<m/\W (i+1) m' σ2 H3))
  (hRR:∀(acc C:Addr) (s':Shared) (H':Hp) (m:Str->Option Value),Inv X pins σ H' s'->Q (.ref acc) H'->s'.heap.Ns C m->H' C=none->C≠X.env.locals->X.s₀.heap.objs.size<=C->(∀x c,X.env.cells.lookup x=some c->c≠C)->(∀p∈X.pn++pins,p.1≠C)->
   RR (.ref acc) C (.ok .next) s'):
  wpAny (model X.prog X.w) X.A (newList []) (fun acc s₃=>wpAny (model X.prog X.w) X.A (newFunctionEnv scope X.env.globals (Gx X.env.cells scope.names []) [] X.env.qual none .none (some X.env)) (fun cenv s₄=>
   codeAny (model X.prog X.w) X.A (.compStart (.ListComp elt [⟨tg,iter,ifs,0⟩] scope pos) 0 (.ref it) acc {cenv with scope:=relabel scope X.env}) (RR acc cenv.locals) s₄) E s₃) E s:=by
 have hfo:∀b∈fp,∃o,s.heap.get? b=some o:=fun b hb=>let⟨o,e,_⟩:=T.obj 0 _ st b hb;⟨o,e⟩
 refine wpAny_newObj_type (wpAny_newFunctionEnv S.nocell (by intro y hy;simp at hy) (fun h₁ hns₁ hsb₁=>?_) S.kind)
 dsimp only at hns₁ hsb₁⊢
 have hacc:H s.heap.objs.size=none:=I.hok.fresh (Nat.le_refl _)
 have I3:Inv X pins σ (Ys H s.heap.objs.size (.lst [])) {s with heap:=s.heap.push {cls:=.type "list",dict:=none,data:=.seq ([]:List Value).toArray}}:=I.lnew (t':=s.toks) (its:=[]) (ys:=[]) .nil (Nat.zero_le _)
 have hf3:∀b∈fp,Gv X pins (Ys H s.heap.objs.size (.lst [])) b:=fun b hb=>by
  obtain⟨f0,f⟩:=hf b hb
  obtain⟨o,ho⟩:=hfo b hb
  exact⟨by rw[Zl (Nat.ne_of_lt (Heap.lt_size ho))];exact f0,f⟩
 have hfo3:∀b∈fp,∃o,(s.heap.push {cls:=.type "list",dict:=none,data:=.seq ([]:List Value).toArray}).get? b=some o:=fun b hb=>let⟨o,e⟩:=hfo b hb;⟨o,Heap.get?_push_of_some _ e⟩
 obtain⟨W,⟨m0,w0⟩,turn⟩:=q _ hacc
 generalize hH2:s.heap.push {cls:=.type "list",dict:=none,data:=.seq ([]:List Value).toArray}=H2 at hns₁ hsb₁ I3 hfo3⊢
 have keep:∀b o,H2.get? b=some o->h₁.get? b=some o:=fun b o e=>hsb₁.extBut b o (Nat.ne_of_lt (Heap.lt_size e)) (Heap.get?_push_of_some _ e)
 have J0:=E9 (N':=N') (scope:=scope) (src:=src) (acc:=s.heap.objs.size) (tk:=s.toks+([]:List (Str×Value)).length) (C:=H2.objs.size) S I3 rfl hf3 hfo3 (show h₁.Ns H2.objs.size (fun _=>none)from hns₁) keep
 have st1:tn 0 h₁:=T.keep 0 s.heap h₁ st fun b hb o e=>keep b o (by rw[<-hH2];exact Heap.get?_push_of_some _ e)
 have cne:H2.objs.size≠X.env.locals:=Nat.ne_of_gt I3.lt
 have csz:X.s₀.heap.objs.size<=H2.objs.size:=I3.sz
 have ccell:∀x c,X.env.cells.lookup x=some c->c≠H2.objs.size:=fun x c e z=>by
  obtain⟨v,oc,hoc,_⟩:=I3.cell x c e
  exact absurd (Heap.lt_size hoc) (by rw[z];exact Nat.lt_irrefl _)
 have cpin:∀p∈X.pn++pins,p.1≠H2.objs.size:=fun p hp z=>absurd (Heap.lt_size (I3.pin p hp).1) (by rw[z];exact Nat.lt_irrefl _)
 have loop:∀s₃:Shared,s₃={s with heap:=h₁,toks:=s.toks+([]:List (Str×Value)).length}->
   codeAny (model X.prog X.w) X.A (.compLoop (.ListComp elt [⟨tg,iter,ifs,0⟩] scope pos) 0 (.ref it) (.ref s.heap.objs.size) (compEnvC scope (Gx X.env.cells scope.names []) H2.objs.size X.env)) (RR (.ref s.heap.objs.size) H2.objs.size) s₃:=by
  rintro s₃ rfl
  refine Vl (fun n s'=>∃i σ' H',Inv (X.block N' scope H2.objs.size {s with heap:=H2} (Ys H s.heap.objs.size (.lst [])) fp) [] σ' H' s'/\tn i s'.heap/\(∀b∈fp,H' b=none)/\W i n σ' H') ?_ m0 ⟨0,_,_,J0,st1,fun b hb=>(hf3 b hb).1,w0⟩
  rintro n s4 ⟨i,σ4,H4,J4,st4,fr4,w4⟩
  have fok:∀{H':Hp},(∀b∈fp,H' b=none)->∀b∈fp,Gv (X.block N' scope H2.objs.size {s with heap:=H2} (Ys H s.heap.objs.size (.lst [])) fp) [] H' b:=fun{H'} hn b hb=>by
   obtain⟨f0,f1,f2,f3,f4,f5⟩:=hf3 b hb
   refine⟨hn b hb,?_,fun z=>J4.ok.exfs b hb z,.inl hb,fun x c e=>(J4.ok.exf b hb).2 x c e,fun p hp=>?_⟩
   ·exact(J4.ok.exf b hb).1
   ·have hp':p∈([]:List (Addr×Obj)):=by simpa using hp
    exact nomatch hp'
  rcases turn i n σ4 H4 w4 with⟨stop,qn⟩|⟨go,step⟩
  ·refine Y3 (T.done (X.block N' scope H2.objs.size {s with heap:=H2} (Ys H s.heap.objs.size (.lst [])) fp) rfl rfl rfl hc i [] s4 σ4 H4 _ J4 (fok fr4) st4 stop) fun r s5 ⟨hr,J5⟩=>?_
   subst hr
   obtain⟨m5,hn5,_⟩:=J5.loc
   have I5:Inv X pins σ H4 s5:=I3.call' (ch:=fp) J5.os J5.base J5.hok J5.bare fun b hb=>by
    obtain⟨f0,f1,f2,f3,f4,f5⟩:=hf3 b hb
    exact⟨f3,f1,f4,f5⟩
   exact hRR _ _ s5 H4 m5 I5 qn hn5 J5.free cne csz ccell cpin
  ·refine Y3 (T.item (X.block N' scope H2.objs.size {s with heap:=H2} (Ys H s.heap.objs.size (.lst [])) fp) rfl rfl rfl hc i [] s4 σ4 H4 _ J4 (fok fr4) st4 go) fun r s5 ⟨u,hr,h5⟩=>?_
   subst hr
   refine Y3 h5 fun _ s6 zq9=>?_
   obtain⟨x,H6,J6,r6,y6,st6,fr6⟩:=zq9
   have J6':=J6.pinned (fok fr6) (T.obj _ _ st6)
   have again:∀{σ7:St} {H7:Hp} {s7:Shared},Inv (X.block N' scope H2.objs.size {s with heap:=H2} (Ys H s.heap.objs.size (.lst [])) fp) ([]++Ro fp s6.heap) σ7 H7 s7->(∃m',m'<n/\W (i+1) m' σ7 H7)->
     ∃m,m<n/\∃i σ' H',Inv (X.block N' scope H2.objs.size {s with heap:=H2} (Ys H s.heap.objs.size (.lst [])) fp) [] σ' H' s7/\tn i s7.heap/\(∀b∈fp,H' b=none)/\W i m σ' H':=fun{σ7 H7 s7} J7 ⟨m',hm,w7⟩=>by
    refine⟨m',hm,i+1,σ7,H7,J7.unpinned,T.keep _ _ _ st6 fun b hb o e=>(J7.pin (b,o) (List.mem_append_right _ (List.mem_append_right _ (Uo hb e)))).1,fun b hb=>?_,w7⟩
    obtain⟨o,e,d⟩:=T.obj _ _ st6 b hb
    exact(J7.pin (b,o) (List.mem_append_right _ (List.mem_append_right _ (Uo hb e)))).2.1
   refine Y3 (hg _ _ _ _ _ s6 σ4 H6 x u _ J6' r6 (step x H6 y6)) fun _ s7 zq9=>?_
   obtain⟨σ7,H7,J7,q7⟩:=zq9
   refine Y3 (ht _ _ _ _ _ s7 σ7 H7 _ J7 q7) fun b s8 zq9=>?_
   obtain⟨H8,J8,q8⟩:=zq9
   cases b with
   |false=>rw[if_neg Bool.false_ne_true]at q8⊢;exact again J8 q8
   |true=>
    rw[if_pos rfl]at q8⊢
    refine Y3 (he _ _ _ _ _ s8 σ7 H8 _ J8 q8) fun y s9 zq9=>?_
    obtain⟨vy,H9,J9,r9,q9⟩:=zq9
    refine Y3 (Te _ s9 σ7 H9 (.ref s.heap.objs.size) [vy] (.ref s.heap.objs.size) [y] _ J9 rfl (.cons r9 .nil) q9) fun _ s10 ⟨_,H10,J10,_,q10⟩=>again J10 q10
 exact codeAny_compStart_list (loop _ rfl) (T.self X.A 0 _ _ _ st1 (loop _ rfl))
theorem Zdk{tg elt iter:Expr}{ifs:List Expr}{pos:Pos}{wi:TI}{g:TG}{tt:TT}{te:TE}(hc:X.calm=true)(S:CompScope X N' scope src)(hi:PI X tg iter wi)
  (hg:∀(C:Addr) (s₀:Shared) (H₀:Hp) (ex:List Addr),PG (X.block N' scope C s₀ H₀ ex) tg g)
  (ht:∀(C:Addr) (s₀:Shared) (H₀:Hp) (ex:List Addr),PTs (X.block N' scope C s₀ H₀ ex) ifs tt)
  (he:∀(C:Addr) (s₀:Shared) (H₀:Hp) (ex:List Addr),PE (X.block N' scope C s₀ H₀ ex) elt te)
  (hs:∀x,foldedSetIterable iter X.env x=pure x:=by intro _;rfl):PE X (.ListComp elt [⟨tg,iter,ifs,0⟩] scope pos) (Zgp src wi g tt te):=by
 intro pins s σ H Q I h
 rw[eval_ListComp]
 refine wpAny_comprehension_free (use:=none) rfl hs (Mz fun y hy e=>I.ok.has y.1 (S.free y hy e)) S.kind S.names (Y3 (hi pins s σ H _ I h) fun v s1 h1=>Y3 h1 fun itv s2 h2=>?_)
 obtain⟨it,fp,tn,J,H2,e,I2,T,st2,f2,q⟩:=h2
 subst e
 refine K7 hc S hg ht he I2 T st2 f2 q fun acc C s' H' m I' q' hn hC c1 c2 c3 c4=>⟨m,hn,fun h' hs'=>?_⟩
 exact⟨.ref acc,H',I'.turned (t':=s'.toks) (fun b o hb e=>(hs'.2 b hb).trans e) hC c1 (.inr c2) c3 c4,rfl,q'⟩
end
noncomputable def without(h:Heap)(xs:List Addr):Heap:={objs:=(Array.range h.objs.size).map fun a=>if a∈xs then{cls:=.none,data:=.freed}else(h.objs[a]?).getD {cls:=.none,data:=.freed}}
structure Raised(h:Heap)(e:Addr)(cls:Value)(dx tb:Option Addr):Prop where
 obj:∃oe vs,h.get? e=some oe/\oe.cls=cls/\oe.dict=dx/\oe.data= .fields vs/\vs[1]? =some (match tb with|none=>.none|some T=>.ref T)
 tr:∀T,tb=some T->T≠e/\∃oT ts fl,h.get? T=some oT/\oT.data= .fields ts/\ts[3]? =some fl
noncomputable def Zio:Option Addr->List Addr
 |none=>[]
 |some T=>[T]
structure Noted(l:List Addr)(h h':Heap)(e:Addr)(cls:Value)(dx tb:Option Addr)(T:Addr):Prop where
 keep:∀b o,b≠e->b∉Zio tb->b∉l->h.get? b=some o->h'.get? b=some o
 slot:∀b o,b∈l->h.get? b=some o->∃sl,h'.get? b=some {o with slots:=sl}
 new:h.get? T=none\/some T=tb
 r:Raised h' e cls dx (some T)
section
variable{M:Model}{A:Around}{E:Value->Shared->Prop}{s:Shared}{base:Heap}{env:Env}{outer:List Env}{L e:Addr}{cls:Value}{dx tb:Option Addr}{Q:Unit->Shared->Prop}
theorem Dr(o:Obj)(f:Array Value->Array Value):(o.mapFields f).dict=o.dict:=by
 obtain⟨c,d,dt,sl⟩:=o
 cases dt<;> rfl
theorem Ti{oe:Obj}{vs:Array Value}{head:Value}{hadNext:Bool}(hf:A.frames=some (env::outer))(ff:s.heap.FunFrames base (env::outer))(hL:env.frame=some L)
  (h1:s.heap.get? e=some oe) (h3:oe.data= .fields vs) (hz:1<vs.size) (he:e∉Ox (env::outer))
  (h:∀h' T,(∀b o,b≠e->b∉Ox (env::outer)->s.heap.get? b=some o->h'.get? b=some o)->(∀b o,b≠e->b∈Ox (env::outer)->s.heap.get? b=some o->∃sl,h'.get? b=some {o with slots:=sl})->s.heap.get? T=none->T≠e->
   h'.get? e=some (oe.mapFields (·.setIfInBounds 1 (.ref T)))->(∃oT ts fl,h'.get? T=some oT/\oT.data= .fields ts/\ts[3]? =some fl)->Q () {s with heap:=h'}):
  wpAny M A (do let a<-frameOf env;let pl<-entryPlaceOf L hadNext;let b<-EntryCells.newEntry head a .none (rawInt L) .none pl;setField (.ref e) 1 b) Q E s:=by
 refine wpAny_bind (wpAny_frameOf_fun hf ff hL fun g1 sl1=>wpAny_bind (wpAny_entryPlaceOf fun pl ip=>?_))
 unfold EntryCells.newEntry newFields
 have e1:g1.get? e=some oe:=(sl1.2.1 e he).trans h1
 refine wpAny_bind (wpAny_newObj_type (wpAny_setField (Heap.get?_push_of_some _ e1) h3 hz ?_) (ip.sizeOk5 _ _ _ _ _))
 have ne:g1.objs.size≠e:=Nat.ne_of_gt (Heap.lt_size e1)
 have kp:∀b o,b≠e->g1.get? b=some o->((g1.push {cls:=.type "traceback",dict:=none,data:=.fields ([head,.ref L,.none,rawInt L,.none]++(if pl.isEmpty then List.replicate 6 Value.none else pl)).toArray}).update e (Obj.mapFields (·.setIfInBounds 1 (Value.ref g1.objs.size)))).get? b=some o:=fun b o nb q=>by
  rw[Heap.get?_update_other _ _ (Ne.symm nb)]
  exact Heap.get?_push_of_some _ q
 refine h _ g1.objs.size (fun b o nb nf q=>kp b o nb ((sl1.2.1 b nf).trans q)) (fun b o nb hb q=>?_) (Heap.get?_none_of_le (by rw[sl1.1];exact Nat.le_refl _)) ne ?_ ?_
 ·obtain⟨sl,q1⟩:=sl1.2.2 b o q
  exact⟨sl,kp b _ nb q1⟩
 ·exact Heap.get?_update_self _ (Heap.get?_push_of_some _ e1) (Obj.isFreed_of_fields (Obj.data_mapFields h3 _))
 ·refine⟨_,_,rawInt L,(Heap.get?_update_other _ _ (Ne.symm ne)).trans (Heap.get?_push_size g1 rfl),rfl,?_⟩
  simp
theorem Ia(hf:A.frames=some (env::outer))(ff:s.heap.FunFrames base (env::outer))(hL:env.frame=some L)(r:Raised s.heap e cls dx tb)
  (h:∀h' T,Noted (Ox (env::outer)) s.heap h' e cls dx tb T->Q () {s with heap:=h'}):wpAny M A (noteFrame (.ref e) env) Q E s:=by
 obtain⟨oe,vs,h1,h2,hd,h3,h5⟩:=r.obj
 have norec:∀b o ws,s.heap.get? b=some o->o.data= .fields ws->b∉Ox (env::outer):=fun b o ws q qd hm=>by
  obtain⟨_,o',q1,q2⟩:=ff.mem hm
  rw[q]at q1;cases q1
  exact q2 ws qd
 have he:=norec e oe vs h1 h3
 have hz:1<vs.size:=(Array.getElem?_eq_some_iff.mp h5).1
 have obj':∀(h':Heap) (T:Addr),h'.get? e=some (oe.mapFields (·.setIfInBounds 1 (.ref T)))->∃oe vs,h'.get? e=some oe/\oe.cls=cls/\oe.dict=dx/\oe.data= .fields vs/\vs[1]? =some (.ref T):=fun h' T q=>
  ⟨_,_,q,(Obj.cls_mapFields _ _).trans h2,(Dr _ _).trans hd,Obj.data_mapFields h3 _,by simp[hz]⟩
 unfold noteFrame
 simp only[hL]
 refine wpAny_bind (wpAny_field h1 h3 h5 ?_)
 cases tb with
 |none=>
  rw[if_neg (by decide)]
  exact Ti hf ff hL h1 h3 hz he fun h' T k1 k2 k3 k4 k5 k6=>h h' T ⟨fun b o n1 _ n3 q=>k1 b o n1 n3 q,fun b o hb q=>k2 b o (fun z=>he (z▸hb)) hb q,.inl k3,obj' h' T k5,fun T' z=>by cases z;exact⟨k4,k6⟩⟩
 |some T0=>
  obtain⟨r1,oT,ts,fl,r2,r3,r4⟩:=r.tr T0 rfl
  have hT:=norec T0 oT ts r2 r3
  rw[if_pos (show(Value.ref T0 !=Value.none)=true from by simp)]
  refine wpAny_bind (wpAny_field r2 r3 r4 ?_)
  by_cases hfl:(fl==rawInt L)=true
  ·rw[if_pos hfl]
   exact wpAny_pure (h s.heap T0 ⟨fun _ _ _ _ _ q=>q,fun b o _ q=>⟨o.slots,q⟩,.inr rfl,r⟩)
  ·rw[if_neg hfl]
   have oth:∀b,b≠T0->(s.heap.update T0 (Obj.mapFields (·.setIfInBounds 3 Value.none))).get? b=s.heap.get? b:=fun b hb=>Heap.get?_update_other _ _ (Ne.symm hb)
   have sz3:=(Array.getElem?_eq_some_iff.mp r4).1
   have atT:(s.heap.update T0 (Obj.mapFields (·.setIfInBounds 3 Value.none))).get? T0=some (oT.mapFields (·.setIfInBounds 3 Value.none)):=Heap.get?_update_self _ r2 (Obj.isFreed_of_fields (Obj.data_mapFields r3 _))
   refine wpAny_bind (wpAny_setField r2 r3 sz3 (Ti (base:=base) hf (ff.of_keeps fun b o q nf=>⟨o,(oth b fun z=>nf ts (by rw[z,r2]at q;cases q;exact r3)).trans q,rfl⟩) hL ((oth e (Ne.symm r1)).trans h1) h3 hz he fun h' T k1 k2 k3 k4 k5 k6=>?_))
   refine h h' T ⟨fun b o n1 n2 n3 q=>k1 b o n1 n3 ((oth b fun z=>n2 (by rw[z];exact List.mem_singleton.mpr rfl)).trans q),fun b o hb q=>k2 b o (fun z=>he (z▸hb)) hb ((oth b fun z=>hT (z▸hb)).trans q),?_,obj' h' T k5,fun T' z=>by cases z;exact⟨k4,k6⟩⟩
   by_cases z:T=T0
   ·exact .inr (by rw[z])
   ·exact .inl ((oth T z).symm.trans k3)
theorem Bj{T:Addr}{fr:Option Addr}{l:List Addr}(r:Raised s.heap e cls dx (some T))(hn:∀b o ws,s.heap.get? b=some o->o.data= .fields ws->b∉l)
  (h:∀h',Noted l s.heap h' e cls dx (some T) T->Q () {s with heap:=h'}):wpAny M A (setFlight (.ref e) fr) Q E s:=by
 obtain⟨oe,vs,h1,h2,hd,h3,h5⟩:=r.obj
 obtain⟨r1,oT,ts,fl,r2,r3,r4⟩:=r.tr T rfl
 have sz3:=(Array.getElem?_eq_some_iff.mp r4).1
 unfold setFlight
 refine wpAny_bind (wpAny_field h1 h3 h5 ?_)
 rw[if_pos (show(Value.ref T !=Value.none)=true from by simp)]
 have oth:∀b,b≠T->(s.heap.update T (Obj.mapFields (·.setIfInBounds 3 (fr.elim .none fun f=>rawInt f)))).get? b=s.heap.get? b:=fun b hb=>Heap.get?_update_other _ _ (Ne.symm hb)
 refine wpAny_setField r2 r3 sz3 (h _ ⟨fun b o n1 n2 n3 q=>(oth b fun z=>n2 (by rw[z];exact List.mem_singleton.mpr rfl)).trans q,fun b o hb q=>⟨o.slots,(oth b fun z=>hn T oT ts r2 r3 (z▸hb)).trans q⟩,.inr rfl,⟨oe,vs,(oth e (Ne.symm r1)).trans h1,h2,hd,h3,h5⟩,fun T' z=>?_⟩)
 cases z
 exact⟨r1,_,_,fr.elim .none fun f=>rawInt f,Heap.get?_update_self _ r2 (Obj.isFreed_of_fields (Obj.data_mapFields r3 _)),Obj.data_mapFields r3 _,by simp[sz3]⟩
theorem Noted.trans{l:List Addr}{h h1 h2:Heap}{T T':Addr}(a:Noted l h h1 e cls dx tb T)(b:Noted l h1 h2 e cls dx (some T) T')(hT:T∉l)(hT0:∀T0,tb=some T0->h.get? T=none\/T=T0):Noted l h h2 e cls dx tb T':=by
 have nT:∀b o,b∉Zio tb->h.get? b=some o->b≠T:=fun b o n q z=>by
  rcases a.new with k|k
  ·rw[z,k]at q;cases q
  ·rw[<-k]at n;exact n (by rw[z];exact List.mem_singleton.mpr rfl)
 refine⟨fun c o n1 n2 n3 q=>b.keep c o n1 (fun z=>nT c o n2 q (List.mem_singleton.mp z)) n3 (a.keep c o n1 n2 n3 q),fun c o hc q=>?_,?_,b.r⟩
 ·obtain⟨sl,q1⟩:=a.slot c o hc q
  obtain⟨sl',q2⟩:=b.slot c _ hc q1
  exact⟨sl',q2⟩
 ·rcases b.new with k|k
  ·by_cases hm:some T'=tb
   ·exact .inr hm
   ·refine .inl ?_
    cases z:h.get? T' with
    |none=>rfl
    |some o=>
     exfalso
     by_cases hl:T'∈l
     ·obtain⟨sl,q1⟩:=a.slot T' o hl z
      rw[k]at q1;cases q1
     ·by_cases he:T'=e
      ·obtain⟨oe,vs,q1,_⟩:=a.r.obj
       rw[<-he,k]at q1;cases q1
      ·have:=a.keep T' o he (fun y=>hm (by cases tb with
        |none=>cases y
        |some T0=>rw[List.mem_singleton.mp y])) hl z
       rw[k]at this;cases this
  ·cases k
   rcases a.new with k|k
   ·exact .inl k
   ·exact .inr k
theorem Rr(hf:A.frames=some (env::outer))(ff:s.heap.FunFrames base (env::outer))(hL:env.frame=some L)(r:Raised s.heap e cls dx tb)
  (h:∀h' T,Noted (Ox (env::outer)) s.heap h' e cls dx tb T->Q () {s with heap:=h'}):wpAny M A (leaving env (.ref e)) Q E s:=by
 have norec:∀b o ws,s.heap.get? b=some o->o.data= .fields ws->b∉Ox (env::outer):=fun b o ws q qd hm=>by
  obtain⟨_,o',q1,q2⟩:=ff.mem hm
  rw[q]at q1;cases q1
  exact q2 ws qd
 unfold leaving
 refine wpAny_bind (Ia hf ff hL r fun h1 T1 n1=>?_)
 have norec1:∀b o ws,h1.get? b=some o->o.data= .fields ws->b∉Ox (env::outer):=fun b o ws q qd hm=>by
  obtain⟨_,o',q1,q2⟩:=ff.mem hm
  obtain⟨sl,q3⟩:=n1.slot b o' hm q1
  rw[q]at q3;cases q3
  exact q2 ws qd
 refine Bj (s:={s with heap:=h1}) n1.r norec1 fun h2 n2=>?_
 obtain⟨_,oT,ts,fl,r2,r3,_⟩:=n1.r.tr T1 rfl
 exact h h2 T1 (n1.trans n2 (norec1 T1 oT ts r2 r3) fun T0 z=>by
  rcases n1.new with k|k
  ·exact .inl k
  ·rw[z]at k;cases k;exact .inr rfl)
end
noncomputable def Oc(P:Program)(w:World):Nt:=fun outer H s E e s'=>∃(a:Addr) (cls:Value) (dx:Option Addr) (T:Addr) (H':Hp),e= .ref a/\s'.os=s.os/\AllBare s'.gens/\Un (Ox outer) [] H H' s.heap s'.heap/\Oe P w H' s'.heap/\
 Raised s'.heap a cls dx (some T)/\s.heap.get? a=none/\s.heap.get? T=none/\H' a=none/\H' T=none/\E cls dx H'
noncomputable def Rs(X:Cx)(EX:XK):Prop:=∀(pins:List (Addr×Obj)) (σ:St) (H:Hp) (s:Shared) (e:Addr) (cls:Value) (dx tb:Option Addr),Inv X pins σ H s->Raised s.heap e cls dx tb->X.s₀.heap.get? e=none->H e=none->
 (∀T,tb=some T->X.s₀.heap.get? T=none/\H T=none)->EX cls dx H->X.xe (.ref e) s
theorem Y4.has{P:Program}{w:World}{H:Hp}{h:Heap}{a:Addr}:∀{o:HO},Y4 P w H h a o->∃u,h.get? a=some u:=by
 intro o
 induction o with
 |lst xs=>intro⟨_,_,_,_,e⟩;exact⟨_,e⟩
 |tup xs=>intro⟨_,_,_,_,e,_⟩;exact⟨_,e⟩
 |dK kvs ep=>intro⟨_,_,_,_,o,_,e,_⟩;exact⟨_,e⟩
 |dT kvs ep bs=>intro⟨_,_,_,_,o,_,e,_⟩;exact⟨_,e⟩
 |dN kvs ep bs=>intro⟨_,_,_,_,o,_,e,_⟩;exact⟨_,e⟩
 |set S n=>intro⟨o,_,_,_,e,_⟩;exact⟨_,e⟩
 |ins C dx fs=>intro⟨_,_,_,e,_⟩;exact⟨_,e⟩
 |own y=>intro⟨_,e⟩;exact⟨_,e⟩
 |xd fs=>intro⟨_,⟨_,_,_,e,_⟩,_⟩;exact⟨_,e⟩
 |rng lo hi=>intro⟨_,_,_,e⟩;exact⟨_,e⟩
 |frz ob u _=>intro⟨e,_⟩;exact⟨_,e⟩
 |tbl ps=>intro e;exact⟨_,(show h.get? a=some _ from e)⟩
 |met f y=>intro e;exact⟨_,(show h.get? a=some _ from e)⟩
 |tab q=>intro⟨_,e,_⟩;exact⟨_,e⟩
 |ext φ=>intro⟨_,⟨_,e⟩,_⟩;exact⟨_,e⟩
theorem Oe.gone{P:Program}{w:World}{H:Hp}{h:Heap}(ok:Oe P w H h){a:Addr}(n:h.get? a=none):H a=none:=by
 cases e:H a with
 |none=>rfl
 |some o=>
  obtain⟨u,q⟩:=(ok a o e).has
  rw[n]at q;cases q
theorem Ny{P:Program}{w:World}{H:Hp}{h h':Heap}(ok:Oe P w H h)(k:∀b o,H b≠none->h.get? b=some o->h'.get? b=some o):Oe P w H h':=fun a o e=>
 (ok a o e).stay (fun b u hb q=>k b u (by rcases hb with hb|hb<;> rw[hb]<;> simp[e]) q) (fun _ z=>z) fun _ _ z=>z
theorem Ds{env:Env}{l:List Env}{b:Addr}(h:b∈Ox l):b∈Ox (env::l):=by
 unfold Ox at h⊢
 obtain⟨x,hx,e⟩:=List.mem_filterMap.mp h
 exact List.mem_filterMap.mpr ⟨x,List.mem_cons_of_mem _ hx,e⟩
theorem Tj{P:Program}{w:World}{K:PySem.W.Frag}{mg:Str->Option Value}{base:Heap}{N:List Str}{qual:Str}{scope:Scope}{f:Addr}{cd:Value}{A:Around}{outer:List Env}{s:Shared}{H:Hp}{E:XK}:
  Rs (O7 (Oc P w) P w K mg base N qual scope f cd A outer s H E) E:=by
 intro pins σ H1 s1 e cls dx tb I r he heH hT q
 have hf:=I.ok.frames
 have ff:=I.stack
 have hfr:(O7 (Oc P w) P w K mg base N qual scope f cd A outer s H E).env.frame=some (O7 (Oc P w) P w K mg base N qual scope f cd A outer s H E).env.locals:=by
  rcases I.ok.stk with z|z
  ·have:=congrArg List.length z
   exact absurd this (by show outer.length+1≠outer.length;omega)
  ·exact z.2
 have sf:=I.stkFree
 have he':s.heap.get? e=none:=he
 have up:Un (Ox outer) [] H H1 s.heap s1.heap:=I.base
 refine Rr hf ff hfr r fun h' T zq9=>?_
 obtain⟨k1,k2,k3,r'⟩:=zq9
 have hT':s.heap.get? T=none/\H1 T=none:=by
  rcases k3 with k3|k3
  ·refine⟨?_,I.hok.gone k3⟩
   cases z:s.heap.get? T with
   |none=>rfl
   |some o=>
    obtain⟨o',q'⟩:=up.there T o z (by simp)
    rw[k3]at q';cases q'
  ·exact hT T k3.symm
 have old:∀b o,s.heap.get? b=some o->b≠e/\b∉Zio tb:=fun b o qb=>by
  refine⟨(fun z=>by rw[z,he']at qb;cases qb),fun z=>?_⟩
  cases tb with
  |none=>cases z
  |some T0=>
   have:=(hT T0 rfl).1
   rw[List.mem_singleton.mp z]at qb
   have this':s.heap.get? T0=none:=this
   rw[this']at qb;cases qb
 have loc:∀b o,s.heap.get? b=some o->b∉Ox outer->b∉Ox ((O7 (Oc P w) P w K mg base N qual scope f cd A outer s H E).env::outer):=fun b o qb hb hm=>by
  unfold Ox at hm
  rw[List.filterMap_cons,hfr]at hm
  rcases List.mem_cons.mp hm with z|z
  ·have:=I.ok.above
   have h2:=Heap.lt_size qb
   rw[z]at h2
   exact absurd h2 (Nat.not_lt.mpr this)
  ·exact hb z
 refine⟨e,cls,dx,T,H1,rfl,I.os,I.bare,⟨fun b o qb n hb hx=>?_,fun b o qb n hb hx=>?_,fun b o qb n hx=>up.free b o qb n hx,fun b o qb hx=>?_,up.tups,up.frzs,up.tbls⟩,?_,r',he',hT'.1,heH,hT'.2,q⟩
 ·obtain⟨o1,o2⟩:=old b o qb
  exact k1 b o o1 o2 (loc b o qb hb) (up.keep b o qb n hb hx)
 ·obtain⟨sl,q1⟩:=up.slot b o qb n hb hx
  obtain⟨sl',q2⟩:=k2 b _ (Ds hb) q1
  exact⟨sl',q2⟩
 ·obtain⟨o',q1⟩:=up.there b o qb hx
  obtain⟨o1,o2⟩:=old b o qb
  by_cases b1:b∈Ox ((O7 (Oc P w) P w K mg base N qual scope f cd A outer s H E).env::outer)
  ·obtain⟨sl,z⟩:=k2 b o' b1 q1;exact⟨_,z⟩
  ·exact⟨o',k1 b o' o1 o2 b1 q1⟩
 ·refine Ny I.hok fun b o hb qb=>k1 b o (fun z=>hb (by rw[z];exact heH)) (fun z=>?_) (fun z=>hb (sf b z)) qb
  cases tb with
  |none=>cases z
  |some T0=>exact hb (by rw[List.mem_singleton.mp z];exact(hT T0 rfl).2)
abbrev VEB:List Value:=[.type "ValueError",.type "Exception",.type "BaseException",.type "object"]
theorem K8{h h':Heap}{bmB:List Value}(k:∀b o,h.get? b=some o->h'.get? b=some o):∀{bm:List Value},OwnTail h bmB bm->OwnTail h' bmB bm:=by
 intro bm t
 induction t with
 |base=>exact .base
 |own e n m _ ih=>exact .own (k _ _ e) (n.keeps k) m ih
noncomputable abbrev Ib:=Value->Option Addr->St->Hp->Prop
noncomputable def Us(X:Cx)(EX:Ib):Prop:=∀(pins:List (Addr×Obj)) (σ:St) (H:Hp) (s:Shared) (e:Addr) (cls:Value) (dx:Option Addr) (T:Addr),Inv X pins σ H s->Raised s.heap e cls dx (some T)->X.s₀.heap.get? e=none->H e=none->
 X.s₀.heap.get? T=none->H T=none->(∀p∈X.pn++pins,p.1≠e/\p.1≠T)->(e≠X.env.locals/\T≠X.env.locals)->(∀x c,X.env.cells.lookup x=some c->c≠e/\c≠T)->EX cls dx σ H->X.xe (.ref e) s
theorem Rs.t{X:Cx}{EX:XK}(h:Rs X EX):Us X fun cls od _ H=>EX cls od H:=fun pins σ H s e cls dx T I r h1 h2 h3 h4 _ _ _ q=>h pins σ H s e cls dx (some T) I r h1 h2 (fun T' z=>by cases z;exact⟨h3,h4⟩) q
theorem Zdl{X:Cx}{EX:Ib}(th:Us X EX)(hex:X.ex=[]){pins:List (Addr×Obj)}{σ:St}{H:Hp}{s s':Shared}{e:Value}(I:Inv X pins σ H s)(h:Oc X.prog X.w X.stack H s (fun cls od H'=>EX cls od σ H') e s'):X.xe e s':=by
 obtain⟨a,cls,dx,T,H',he,os,bare,un,hok,r,n1,n2,n3,n4,q⟩:=h
 subst he
 have I':Inv X pins σ H' s':=I.call' (ch:=[]) os un hok bare (fun b hb=>nomatch hb)
 have old:∀b,s.heap.get? b=none->X.s₀.heap.get? b=none:=fun b hb=>by
  cases z:X.s₀.heap.get? b with
  |none=>rfl
  |some o=>
   obtain⟨o',z'⟩:=I.base.there b o z (by rw[hex];simp)
   rw[hb]at z';cases z'
 have pin:∀b,s.heap.get? b=none->∀p∈X.pn++pins,p.1≠b:=fun b hb p hp z=>by
  have:=(I.pin p hp).1
  rw[z,hb]at this;cases this
 have loc:∀b,s.heap.get? b=none->b≠X.env.locals:=fun b hb z=>by
  obtain⟨m,⟨o,es,ep,ho,_⟩,_⟩:=id I.loc
  rw[z,ho]at hb;cases hb
 have cel:∀b,s.heap.get? b=none->∀x c,X.env.cells.lookup x=some c->c≠b:=fun b hb x c hc z=>by
  obtain⟨v,o,ho,_⟩:=I.cell x c hc
  rw[z,hb]at ho;cases ho
 exact th pins σ H' s' a cls dx T I' r (old a n1) n3 (old T n2) n4 (fun p hp=>⟨pin a n1 p hp,pin T n2 p hp⟩) ⟨loc a n1,loc T n2⟩ (fun x c hc=>⟨cel a n1 x c hc,cel T n2 x c hc⟩) q
noncomputable def Ub(X:Cx)(EX:Ib):Prop:=∀(pins:List (Addr×Obj)) (σ:St) (H:Hp) (s:Shared) (e:Value) (s':Shared),Inv X pins σ H s->Oc X.prog X.w X.stack H s (fun cls od H'=>EX cls od σ H') e s'->X.xe e s'
theorem Us.pass{X:Cx}{EX:Ib}(th:Us X EX)(hex:X.ex=[]):Ub X EX:=fun _ _ _ _ _ _ I h=>Zdl th hex I h
noncomputable def Bk(sp:Sp)(EX:Ib)(t:TA):TE:=fun σ H Q=>t σ H fun vs H1=>sp vs H1 Q fun cls od H'=>EX cls od σ H'
theorem Rt{X:Cx}{EX:Ib}{k:Nat}{f:Addr}{fd:FuncData}{ps:List Str}{sp:Sp}{x:Str}{p pos:Pos}{e:Expr}{es:List Expr}{t:TA}(F:FnOk X.prog X.w X.K X.mg X.base (Oc X.prog X.w) k f fd ps sp)(hr:Room k X.A)(hg:Gl X x)(hm:X.mg x=some (.ref f))(hk:PySem.W.keepIn X.K (.ref f)=true)(hb:Qf X.K fd ps [])
  (th:Ub X EX) (ha:PA X (e::es) t) (hdb:(x==("__debug__":Str))=false:=by decide) (he:starEach (e::es) X.env=(false,eval e X.env)::starEach es X.env:=by rfl) (hpl:(backTo pos (starEach es X.env)).any (·.1)=false:=by rfl):
  PE X (.Call (.Name x p) (e::es) [] pos) (Bk sp EX t):=by
 intro pins s σ H Q I h
 refine wpAny_Call_Name_kw (Jj I hg hm ?_ hdb)
 refine PySem.W.callWith_K (h₀:=X.base) I.ok.mod.kin hk (Y3 (ha pos pins s σ H _ I h) fun us s1 ⟨vs,H1,I1,r,q⟩=>⟨I1.kIn,?_⟩) he hpl
 have hl:(us++[]).length=ps.length:=by rw[List.append_nil,<-r.length];exact F.len _ _ _ _ q
 have bb:=hb s1 us I1.kIn hl
 rw[List.append_nil]at bb
 refine wpAny_call (codeAny_mono (F.run X.A X.stack s1 H1 ⟨us,[]⟩ us vs Q _ hr I1.env0 bb r q) fun r' s' hq=>?_)
 cases r' with
 |error e=>exact th _ _ _ _ _ _ I1 hq
 |ok fl=>
  cases fl with
  |ret u=>exact I1.after hq
  |next=>exact False.elim hq
  |brk=>exact False.elim hq
  |cont=>exact False.elim hq
structure Air(X:Cx)(pins:List (Addr×Obj))(H:Hp)(s:Shared)(e:Addr)(cls:Value)(dx:Option Addr)(T:Addr):Prop where
 r:Raised s.heap e cls dx (some T)
 e0:X.s₀.heap.get? e=none
 eH:H e=none
 t0:X.s₀.heap.get? T=none
 tH:H T=none
 pe:∀p∈X.pn++pins,p.1≠e/\p.1≠T
 le:e≠X.env.locals/\T≠X.env.locals
 ce:∀x c,X.env.cells.lookup x=some c->c≠e/\c≠T
section
variable{X:Cx}{pins:List (Addr×Obj)}{σ:St}{H:Hp}{s:Shared}{e T:Addr}{cls:Value}{dx:Option Addr}
theorem Inv.air{h':Heap}{T':Addr}(I:Inv X pins σ H s)(a:Air X pins H s e cls dx T)(hex:X.ex=[])(k1:∀b o,b≠e->b≠T->b∉Ox X.stack->s.heap.get? b=some o->h'.get? b=some o)
  (k2:∀b o,b∈Ox X.stack->s.heap.get? b=some o->∃sl,h'.get? b=some {o with slots:=sl}) (r':Raised h' e cls dx (some T')) (hT:s.heap.get? T'=none\/T'=T):
  Inv X pins σ H {s with heap:=h'}/\Air X pins H {s with heap:=h'} e cls dx T':=by
 have old:∀b o,X.s₀.heap.get? b=some o->b≠e/\b≠T:=fun b o q=>⟨(fun z=>by rw[z,a.e0]at q;cases q),(fun z=>by rw[z,a.t0]at q;cases q)⟩
 have nl:∀b o,X.s₀.heap.get? b=some o->b≠X.env.locals:=fun b o q=>Nat.ne_of_lt (Nat.lt_of_lt_of_le (Heap.lt_size q) I.ok.above)
 have nst:∀b,b≠X.env.locals->b∉X.fs->b∉Ox X.stack:=fun b h1 h2 z=>(List.mem_cons.mp (I.stkSub b z)).elim h1 h2
 have any:∀b o,b≠e->b≠T->s.heap.get? b=some o->∃sl,h'.get? b=some {o with slots:=sl}:=fun b o n1 n2 q=>by
  by_cases hb:b∈Ox X.stack
  ·exact k2 b o hb q
  ·exact⟨o.slots,k1 b o n1 n2 hb q⟩
 have cellK:∀x c,X.env.cells.lookup x=some c->∀v,s.heap.IsCell c v->h'.IsCell c v:=fun x c ec v ⟨o,ho,hd⟩=>by
  obtain⟨sl,q⟩:=any c o (a.ce x c ec).1 (a.ce x c ec).2 ho
  exact⟨_,q,hd⟩
 refine⟨⟨I.ok,I.os,I.bare,⟨fun b o q n hb hx=>?_,fun b o q n hb hx=>?_,I.base.free,fun b o q hx=>?_,I.base.tups,I.base.frzs,I.base.tbls⟩,?_,fun x c ec=>?_,I.free,I.freeC,fun p hp=>?_,?_,I.len⟩,⟨r',a.e0,a.eH,?_,?_,fun p hp=>⟨(a.pe p hp).1,?_⟩,⟨a.le.1,?_⟩,fun x c ec=>⟨(a.ce x c ec).1,?_⟩⟩⟩
 ·exact k1 b o (old b o q).1 (old b o q).2 (nst b (nl b o q) hb) (I.base.keep b o q n hb hx)
 ·obtain⟨sl,q1⟩:=I.base.slot b o q n hb hx
  obtain⟨sl',q2⟩:=any b _ (old b o q).1 (old b o q).2 q1
  exact⟨sl',q2⟩
 ·obtain⟨o',q1⟩:=I.base.there b o q hx
  obtain⟨sl',q2⟩:=any b _ (old b o q).1 (old b o q).2 q1
  exact⟨_,q2⟩
 ·obtain⟨m,⟨o,es,ep,ho,rr⟩,hl⟩:=I.loc
  obtain⟨sl,q2⟩:=any _ o (Ne.symm a.le.1) (Ne.symm a.le.2) ho
  refine⟨m,⟨_,es,ep,q2,rr⟩,fun i x v e1 e2 e3=>?_⟩
  obtain⟨u,r,l⟩:=hl i x v e1 e2 e3
  refine⟨u,r,?_⟩
  rcases l with l|⟨k,c,ec,z⟩
  ·exact .inl l
  ·exact .inr ⟨k,c,ec,cellK x c ec _ z⟩
 ·obtain⟨v,z⟩:=I.cell x c ec
  exact⟨v,cellK x c ec v z⟩
 ·obtain⟨q,n,ne,nf,d⟩:=I.pin p hp
  exact⟨k1 p.1 p.2 (a.pe p hp).1 (a.pe p hp).2 (nst _ ne nf) q,n,ne,nf,d⟩
 ·exact Ny I.hok fun b o hb q=>k1 b o (fun z=>hb (by rw[z];exact a.eH)) (fun z=>hb (by rw[z];exact a.tH)) (fun z=>hb (I.stkFree b z)) q
 ·rcases hT with hT|hT
  ·cases z:X.s₀.heap.get? T' with
   |none=>rfl
   |some o=>
    obtain⟨o',q⟩:=I.base.there T' o z (by rw[hex];simp)
    rw[hT]at q;cases q
  ·rw[hT];exact a.t0
 ·rcases hT with hT|hT
  ·exact I.hok.gone hT
  ·rw[hT];exact a.tH
 ·rcases hT with hT|hT
  ·intro z
   have:=(I.pin p hp).1
   rw[z,hT]at this;cases this
  ·rw[hT];exact(a.pe p hp).2
 ·rcases hT with hT|hT
  ·intro z
   obtain⟨m,⟨o,es,ep,ho,_⟩,_⟩:=I.loc
   rw[<-z,hT]at ho;cases ho
  ·rw[hT];exact a.le.2
 ·rcases hT with hT|hT
  ·intro z
   obtain⟨v,o,ho,_⟩:=I.cell x c ec
   rw[z,hT]at ho;cases ho
  ·rw[hT];exact(a.ce x c ec).2
theorem Inv.noted{h':Heap}{T':Addr}(I:Inv X pins σ H s)(a:Air X pins H s e cls dx T)(hex:X.ex=[])(n:Noted (Ox X.stack) s.heap h' e cls dx (some T) T'):Inv X pins σ H {s with heap:=h'}/\Air X pins H {s with heap:=h'} e cls dx T':=
 I.air a hex (fun b o n1 n2 n3 q=>n.keep b o n1 (fun z=>n2 (List.mem_singleton.mp z)) n3 q) n.slot n.r (by
  rcases n.new with k|k
  ·exact .inl k
  ·cases k;exact .inr rfl)
theorem Jw{M:Model}{A:Around}{E:Value->Shared->Prop}{Q:Shared->Prop}(I:Inv X pins σ H s)(a:Air X pins H s e cls dx T)(hex:X.ex=[])(hA:A.frames=some X.stack)(hst:X.stack=X.env::X.outer)(hfr:X.env.frame=some X.env.locals)
  (k:∀h' T',Inv X pins σ H {s with heap:=h'}->Air X pins H {s with heap:=h'} e cls dx T'->Q {s with heap:=h'}):
  wpAny M A (noteFrame (.ref e) X.env) (fun _ s2=>wpAny M A (setFlight (.ref e) none) (fun _ s3=>Q s3) E s2) E s/\wpAny M A (setFlight (.ref e) none) (fun _ s3=>Q s3) E s:=by
 have nor:∀{σ:St} {H:Hp} {s:Shared},Inv X pins σ H s->∀b o ws,s.heap.get? b=some o->o.data= .fields ws->b∉Ox X.stack:=fun{σ H s} I b o ws q qd hm=>by
  obtain⟨_,o',q1,q2⟩:=I.stack.mem hm
  rw[q]at q1;cases q1
  exact q2 ws qd
 constructor
 ·have ff:s.heap.FunFrames X.base (X.env::X.outer):=by rw[<-hst];exact I.stack
  refine Ia (by rw[hA,hst]) ff hfr a.r fun h1 T1 n1=>?_
  rw[<-hst]at n1
  obtain⟨I1,a1⟩:=I.noted a hex n1
  refine Bj (s:={s with heap:=h1}) a1.r (nor I1) fun h2 n2=>?_
  obtain⟨I2,a2⟩:=I1.noted a1 hex n2
  exact k h2 T1 I2 a2
 ·refine Bj a.r (nor I) fun h2 n2=>?_
  obtain⟨I2,a2⟩:=I.noted a hex n2
  exact k h2 T I2 a2
end
noncomputable abbrev Cx.inTry(X:Cx)(pn:List (Addr×Obj))(xe:Value->Shared->Prop):Cx:={X with pn:=pn,xe:=xe}
noncomputable abbrev Cx.inSuite(X:Cx)(a:Addr):Cx:={X with A:=X.A.mark (some (.ref a)),calm:=false,xe:=fun _ _=>False}
section
variable{X:Cx}{pins:List (Addr×Obj)}{σ:St}{H:Hp}{s:Shared}{e T:Addr}{cls:Value}{dx:Option Addr}{xe:Value->Shared->Prop}
theorem Cx.Ok.tryIn{pn:List (Addr×Obj)}(k:X.Ok):(X.inTry pn xe).Ok:=⟨k.mod,k.kind,k.glob,k.blt,k.above,k.inj,k.has,k.cab,k.hd,k.frames,k.stk,k.exf,k.bs,k.bsz,k.noex,k.exfs,k.funs,k.frf⟩
theorem Cx.Ok.suiteIn(k:X.Ok):(X.inSuite e).Ok:=⟨k.mod,k.kind,k.glob,k.blt,k.above,k.inj,k.has,k.cab,(fun h=>nomatch h),k.frames,k.stk,k.exf,k.bs,k.bsz,k.noex,k.exfs,k.funs,k.frf⟩
theorem Inv.tryIn(I:Inv X pins σ H s):Inv (X.inTry (X.pn++pins) xe) [] σ H s:=⟨I.ok.tryIn,I.os,I.bare,I.base,I.loc,I.cell,I.free,I.freeC,(fun p hp=>I.pin p (by simpa using hp)),I.hok,I.len⟩
theorem Inv.tryOut{pins':List (Addr×Obj)}(k:X.Ok)(I:Inv (X.inTry (X.pn++pins) xe) pins' σ H s):Inv X pins σ H s:=⟨k,I.os,I.bare,I.base,I.loc,I.cell,I.free,I.freeC,(fun p hp=>I.pin p (List.mem_append_left _ hp)),I.hok,I.len⟩
theorem Inv.suiteIn(I:Inv X pins σ H s):Inv (X.inSuite e) pins σ H s:=⟨I.ok.suiteIn,I.os,I.bare,I.base,I.loc,I.cell,I.free,I.freeC,I.pin,I.hok,I.len⟩
theorem Inv.suiteOut(k:X.Ok)(I:Inv (X.inSuite e) pins σ H s):Inv X pins σ H s:=⟨k,I.os,I.bare,I.base,I.loc,I.cell,I.free,I.freeC,I.pin,I.hok,I.len⟩
theorem SP.out{D:Ends}{f:Flow}(k:X.Ok)(h:SP (X.inSuite e) pins D f s):SP X pins D f s:=by
 cases f with
 |next=>obtain⟨σ',H',I,q⟩:=h;exact⟨σ',H',I.suiteOut k,q⟩
 |brk=>obtain⟨σ',H',I,q⟩:=h;exact⟨σ',H',I.suiteOut k,q⟩
 |cont=>obtain⟨σ',H',I,q⟩:=h;exact⟨σ',H',I.suiteOut k,q⟩
 |ret u=>obtain⟨v,σ',H',I,q⟩:=h;exact⟨v,σ',H',I.suiteOut k,q⟩
theorem SP.outT{D:Ends}{f:Flow}(k:X.Ok)(h:SP (X.inTry (X.pn++pins) xe) [] D f s):SP X pins D f s:=by
 cases f with
 |next=>obtain⟨σ',H',I,q⟩:=h;exact⟨σ',H',I.tryOut k,q⟩
 |brk=>obtain⟨σ',H',I,q⟩:=h;exact⟨σ',H',I.tryOut k,q⟩
 |cont=>obtain⟨σ',H',I,q⟩:=h;exact⟨σ',H',I.tryOut k,q⟩
 |ret u=>obtain⟨v,σ',H',I,q⟩:=h;exact⟨v,σ',H',I.tryOut k,q⟩
noncomputable def We(a C:Addr)(dx:Option Addr):Heap->Prop:=fun h=>∃o,h.get? a=some o/\o.cls= .ref C/\o.dict=dx/\PySem.W.notCls o=true
theorem Inv.track{C:Addr}(I:Inv X pins σ H s)(a:Air X pins H s e (.ref C) dx T):Inv X pins σ (Ys H e (.ext (We e C dx))) s:=by
 obtain⟨oe,vs,h1,h2,hdx,h3,h5⟩:=a.r.obj
 have hnc:PySem.W.notCls oe=true:=by unfold PySem.W.notCls;rw[h3]
 refine⟨I.ok,I.os,I.bare,⟨I.base.keep,I.base.slot,fun b o q n hx=>?_,I.base.there,fun b xs q=>?_,fun b o u q=>?_,fun b ps q=>?_⟩,I.loc,I.cell,?_,fun x c ec=>?_,fun p hp=>?_,fun b u q=>?_,I.len⟩
 ·rw[Zl (fun z=>by rw[z,a.e0]at q;cases q)];exact I.base.free b o q n hx
 ·have:=I.base.tups b xs q
  rw[Zl (fun z=>by rw[z,a.eH]at this;cases this)];exact this
 ·have:=I.base.frzs b o u q
  rw[Zl (fun z=>by rw[z,a.eH]at this;cases this)];exact this
 ·obtain⟨m,this⟩:=I.base.tbls b ps q
  exact⟨m,by rw[Zl (fun z=>by rw[z,a.eH]at this;cases this)];exact this⟩
 ·rw[Zl (Ne.symm a.le.1)];exact I.free
 ·rw[Zl (a.ce x c ec).1];exact I.freeC x c ec
 ·obtain⟨q,n,r⟩:=I.pin p hp
  exact⟨q,by rw[Zl (a.pe p hp).1];exact n,r⟩
 ·by_cases hb:b=e
  ·subst hb
   rw[Zu]at q;cases q
   exact⟨⟨oe,h1,h2,hdx,hnc⟩,⟨oe,h1⟩,fun g1 g2 ⟨o,z1,z2⟩ k=>⟨o,k o z1,z2⟩⟩
  ·rw[Zl hb]at q
   exact(I.hok b u q).stay (fun c v _ z=>z) (fun c z=>by rw[Zl (fun y=>by rw[y,a.eH]at z;cases z)];exact z) (fun c xs z=>by rw[Zl (fun y=>by rw[y,a.eH]at z;cases z)];exact z) fun c o z=>by rw[Zl (fun y=>by rw[y,a.eH]at z;cases z)];exact z
theorem G6{M:Model}{A:Around}{E:Value->Shared->Prop}{i:Nat}{n:Str}{pos:Pos}{Q:Unit->Shared->Prop}(I:Inv X pins σ H s)(hN:X.N.Nodup)(hi:X.N[i]? =some n)(hk:X.env.kindOf n=some .local)
  (h:∀s',Inv X pins (σ.set i none) H s'->Q () s'):wpAny M A (do bindName X.env n .none;unbindBehindTheSuite X.env n pos) Q E s:=by
 obtain⟨m,hn,hl⟩:=id I.loc
 have hcls:(X.env.scope.kind== .class|| (X.env.scope.kind== .module&&X.env.locals !=X.env.globals))=false:=by rw[I.ok.kind];rfl
 refine wpAny_nameGoes_keeps hk hn hcls fun h' u hn' hs=>?_
 obtain⟨oL,_,_,hoL,_⟩:=id hn
 have cne:=I.cne
 have nl:∀b o,X.s₀.heap.get? b=some o->b≠X.env.locals:=fun b o q=>Nat.ne_of_lt (Nat.lt_of_lt_of_le (Heap.lt_size q) I.ok.above)
 refine h _ ⟨I.ok,I.os,I.bare,⟨fun b o q n hb hx=>?_,fun b o q n hb hx=>?_,I.base.free,fun b o q hx=>?_,I.base.tups,I.base.frzs,I.base.tbls⟩,⟨_,hn',fun j y v' e1 e2 e3=>?_⟩,fun y c ec=>?_,I.free,I.freeC,fun p hp=>?_,fun b ob q=>?_,by simpa using I.len⟩
 ·exact(hs.2 b (nl b o q)).trans (I.base.keep b o q n hb hx)
 ·obtain⟨sl,e1⟩:=I.base.slot b o q n hb hx
  exact⟨sl,(hs.2 b (nl b o q)).trans e1⟩
 ·obtain⟨o',e1⟩:=I.base.there b o q hx
  exact⟨o',(hs.2 b (nl b o q)).trans e1⟩
 ·by_cases hj:j=i
  ·subst hj
   have:j<σ.length:=by
    have:=(List.getElem?_eq_some_iff.mp e2).1
    simpa using this
   rw[List.getElem?_set_self this]at e2;cases e2
  ·rw[List.getElem?_set_ne (Ne.symm hj)]at e2
   obtain⟨u',r',q⟩:=hl j y v' e1 e2 e3
   refine⟨u',r',?_⟩
   rcases q with⟨k,z⟩|⟨k,c,z,z'⟩
   ·refine .inl ⟨k,?_⟩
    have:y≠n:=fun z=>hj (Rk hN e1 (z▸hi))
    simp[this,z]
   ·exact .inr ⟨k,c,z,z'.sameBut hs (cne y c z)⟩
 ·obtain⟨w',z⟩:=I.cell y c ec
  exact⟨w',z.sameBut hs (cne y c ec)⟩
 ·obtain⟨q,n,ne,nf,d⟩:=I.pin p hp
  exact⟨(hs.2 p.1 ne).trans q,n,ne,nf,d⟩
 ·refine(I.hok b ob q).stay (fun c w' hc z=>(hs.2 c ?_).trans z) (fun _ z=>z) fun _ _ z=>z
  rintro rfl
  rcases hc with hc|hc
  ·rw[<-hc,I.free]at q;cases q
  ·rw[I.free]at hc;cases hc
end
theorem Tk{M:Model}{A:Around}{E:Value->Shared->Prop}{s:Shared}{K:PySem.W.Frag}{e C B:Addr}{b:Bool}{Q:Bool->Shared->Prop}(X:K.In s.heap){dx:Option Addr}(he:We e C dx s.heap)(hty:PySem.W.typeIn K (.ref B)=some (.type "type"))
  (hcl:PySem.W.isClsIn K B=true) (hB:PySem.W.mroIn K B (.type "BaseException")=some true) (hm:PySem.W.mroIn K C (.ref B)=some b) (h:Q b s):wpAny M A (excMatches (.ref e) (.ref B)) Q E s:=by
 obtain⟨hp,g,d,tk,os⟩:=s
 obtain⟨o,h1,h2,_⟩:=he
 have lt:PySem.W.Looks M hp (typeOf (.ref B)) (.type "type"):=PySem.W.looks_typeIn X hty
 have li:PySem.W.Looks M hp (isType (.ref B)) true:=by
  unfold PySem.W.isClsIn PySem.W.clsIn at hcl
  split at hcl
  ·rename_i ho
   intro A' Q' E' s' k q
   unfold isType loadHead
   exact wpAny_bind (wpAny_loadPart (k _ _ (X _ _ ho)) (wpAny_pure q))
  ·cases hcl
 have lb:=PySem.W.looks_mroIn (M:=M) X hB
 have lm:=PySem.W.looks_mroIn (M:=M) X hm
 have le:PySem.W.Looks M hp (typeOf (.ref e)) (.ref C):=h2▸(PySem.W.Looks.ld h1).andThen .now
 have lx:PySem.W.Looks M hp (isExcClass (.ref B)) true:=by
  unfold isExcClass
  exact li.andThen lb
 have l0:PySem.W.Looks M hp (isInstance (.ref B) (.type "tuple")) false:=by
  unfold isInstance
  exact lt.andThen (.of_pure tc_notTuple)
 unfold excMatches
 refine wpAny_bind (l0.at ?_)
 dsimp only
 rw[if_neg Bool.false_ne_true]
 refine wpAny_bind (wpAny_pure ?_)
 refine wpAny_bind ?_
 rw[List.forIn_cons]
 refine wpAny_bind (wpAny_bind (lx.at ?_))
 rw[if_neg (by decide)]
 refine wpAny_pure ?_
 dsimp only
 rw[List.forIn_nil]
 refine wpAny_pure ?_
 refine wpAny_bind (le.at ?_)
 refine wpAny_bind ?_
 rw[List.forIn_cons]
 refine wpAny_bind (wpAny_bind (lm.at ?_))
 cases b with
 |true=>
  rw[if_pos rfl]
  exact wpAny_pure (wpAny_pure (wpAny_pure h))
 |false=>
  rw[if_neg Bool.false_ne_true]
  refine wpAny_pure ?_
  dsimp only
  rw[List.forIn_nil]
  exact wpAny_pure (wpAny_pure h)
set_option genInjectivity false in
structure Hd where
 x:Str
 np:Pos
 nm:Option (Str×Nat)
 b0:Stmt
 suite:List Stmt
 pos:Pos
 B:Addr
 t:TS
noncomputable def Hd.ast(h:Hd):ExceptHandler:=.ExceptHandler (some (.Name h.x h.np)) (h.nm.map (·.1)) (h.b0::h.suite) h.pos
noncomputable def Ends.but(D:Ends)(i:Nat):Ends:={nx:=fun σ H=>D.nx (σ.set i none) H,bk:=fun σ H=>D.bk (σ.set i none) H,ct:=fun σ H=>D.ct (σ.set i none) H,rt:=D.rt}
noncomputable def Hd.run(h:Hd)(C:Addr)(dx:Option Addr)(D:Ends)(σ:St)(H:Hp):Prop:=match h.nm with
 |none=>h.t D σ H
 |some (_,i)=>∀a,H a=none->h.t (D.but i) (σ.set i (some (.ref a))) (Ys H a (.ext (We a C dx)))
noncomputable def Tl(K:PySem.W.Frag)(C:Addr):List Hd->Option Hd
 | []=>none
 |h::r=>match PySem.W.mroIn K C (.ref h.B)with
  |some true=>some h
  |some false=>Tl K C r
  |none=>none
set_option genInjectivity false in
structure Hd.Ok(X:Cx)(h:Hd):Prop where
 gl:Gl X h.x
 mg:X.mg h.x=some (.ref h.B)
 ty:PySem.W.typeIn X.K (.ref h.B)=some (.type "type")
 cl:PySem.W.isClsIn X.K h.B=true
 bs:PySem.W.mroIn X.K h.B (.type "BaseException")=some true
 db:(h.x==("__debug__":Str))=false
 nm:∀n i,h.nm=some (n,i)->X.N.Nodup/\X.N[i]? =some n/\Loc X.env.scope n/\X.env.kindOf n=some .local/\X.env.scope.names.lookup n=some .local
 su:∀a,Ob (X.inSuite a) (h.b0::h.suite) h.t
section
variable{X:Cx}{pins:List (Addr×Obj)}{σ:St}{H:Hp}{s:Shared}{e T C:Addr}{dx:Option Addr}{D:Ends}
theorem Air.at'(a:Air X pins H s e (.ref C) dx T):We e C dx s.heap:=by
 obtain⟨oe,vs,h1,h2,h3,h4,_⟩:=a.r.obj
 exact⟨oe,h1,h2,h3,by unfold PySem.W.notCls;rw[h4]⟩
theorem Tn(hex:X.ex=[])(hst:X.stack=X.env::X.outer)(hfr:X.env.frame=some X.env.locals){h:Hd}(I:Inv X pins σ H s)(a:Air X pins H s e (.ref C) dx T)(q:h.run C dx D σ H):
  ∀{hs:List Hd},(∀h∈hs,h.Ok X)->Tl X.K C hs=some h->wpAny (model X.prog X.w) X.A (handleBy (.ref e) X.env (hs.map Hd.ast)) (SP X pins D) X.xe s
 | [],_,p=>nomatch p
 |g::r,ok,p=>by
  have kg:=ok g List.mem_cons_self
  show wpAny _ _ (handleBy (.ref e) X.env (.ExceptHandler (some (.Name g.x g.np)) (g.nm.map (·.1)) (g.b0::g.suite) g.pos::r.map Hd.ast)) _ _ s
  have Is:Inv (X.inSuite e) pins σ H s:=I.suiteIn
  refine wpAny_handleBy_cons (codeAny_handlers_test (Jj (X:=X.inSuite e) Is kg.gl kg.mg ?_ kg.db)) (by intro z;cases z)
  unfold Tl at p
  split at p
  ·rename_i hm
   cases p
   refine Tk I.kIn a.at' kg.ty kg.cl kg.bs hm ?_
   show codeAny _ _ _ _ s
   unfold Hd.run at q
   split at q
   ·rename_i hn
    rw[hn]
    refine codeAny_handlers_suite ?_
    refine(Jw (M:=model X.prog X.w) (A:=X.A.mark (some (.ref e))) I a hex I.ok.frames hst hfr fun h' T' I' a'=>?_).2
    refine wpAny_mono (kg.su e pins _ σ H D I'.suiteIn q) (fun f s2 z=>?_) fun _ _ z=>z.elim
    exact SP.out I.ok z
   ·rename_i n i hn
    rw[hn]
    obtain⟨n1,n2,n3,n4,n5⟩:=kg.nm n i hn
    refine codeAny_handlers_suite_as ?_
    refine(Jw (M:=model X.prog X.w) (A:=X.A.mark (some (.ref e))) I a hex I.ok.frames hst hfr fun h' T' I' a'=>?_).2
    refine Rl (X:=X.inSuite e) (v:=.ref e) (i:=i) (I'.track a').suiteIn n1 n2 n3 rfl (fun s2 I2=>?_) (.inr n5)
    refine wpAny_mono (kg.su e pins _ _ _ (D.but i) I2 (q e a.eH)) (fun f s3 z=>?_) fun _ _ z=>z.elim
    show wpAny _ X.A _ _ _ s3
    cases f with
    |next=>
     obtain⟨σ',H',I3,z⟩:=z
     exact G6 (I3.suiteOut I.ok) n1 n2 n4 fun s4 I4=>⟨_,H',I4,z⟩
    |brk=>
     obtain⟨σ',H',I3,z⟩:=z
     exact G6 (I3.suiteOut I.ok) n1 n2 n4 fun s4 I4=>⟨_,H',I4,z⟩
    |cont=>
     obtain⟨σ',H',I3,z⟩:=z
     exact G6 (I3.suiteOut I.ok) n1 n2 n4 fun s4 I4=>⟨_,H',I4,z⟩
    |ret u=>
     obtain⟨v,σ',H',I3,z⟩:=z
     exact G6 (I3.suiteOut I.ok) n1 n2 n4 fun s4 I4=>⟨v,_,H',I4,z⟩
  ·rename_i hm
   refine Tk I.kIn a.at' kg.ty kg.cl kg.bs hm ?_
   exact Tn hex hst hfr I a q (fun h hh=>ok h (List.mem_cons_of_mem _ hh)) p
  ·cases p
noncomputable def Zmb(K:PySem.W.Frag)(tb:Ib->TS)(hs:List Hd):TS:=fun D σ H=>tb (fun cls dx σ' H'=>∃C h,cls= .ref C/\Tl K C hs=some h/\h.run C dx D σ' H') D σ H
theorem Zip{body:List Stmt}{tb:Ib->TS}{h0:Hd}{hs:List Hd}{pos:Pos}(hb:∀pn xe EX,Us (X.inTry pn xe) EX->Ob (X.inTry pn xe) body (tb EX))(ok:∀h∈h0::hs,h.Ok X)(hex:X.ex=[])
  (hst:X.stack=X.env::X.outer) (hfr:X.env.frame=some X.env.locals):PS X (.Try body ((h0::hs).map Hd.ast) [] [] pos) (Zmb X.K tb (h0::hs)):=by
 intro pins s σ H D I h
 refine wpAny_Try_except (h₀:=h0.ast) (hs:=hs.map Hd.ast) ?_
 refine wpAny_mono (hb (X.pn++pins) _ _ ?_ [] s σ H D I.tryIn h) (fun f s1 z=>?_) fun _ _ z=>z
 ·intro pins' σ' H' s' e cls dx T I' r e0 eH t0 tH pe le ce ⟨C,g,ec,hp,q⟩
  subst ec
  have I2:Inv X pins σ' H' s':=I'.tryOut I.ok
  have a:Air X pins H' s' e (.ref C) dx T:=⟨r,e0,eH,t0,tH,fun p hp=>pe p (List.mem_append_left _ hp),le,ce⟩
  exact(Jw (M:=model X.prog X.w) (A:=X.A) I2 a hex I.ok.frames hst hfr fun h' T' I3 a3=>Tn hex hst hfr I3 a3 q ok hp).1
 ·have z':=SP.outT I.ok z
  cases f with
  |next=>exact PySem.wpAny_execs_nil z'
  |brk=>exact z'
  |cont=>exact z'
  |ret u=>exact z'
end
end L2
namespace L2
open PySem PySem.Spec PySem.Calls PyProof.Rows Builtin.ObjectAttr Builtin.Getset_descriptor
structure ExcKit(K:PySem.W.Frag)(C:Addr):Prop where
 cl:PySem.W.isClsIn K C=true
 ga:PySem.W.findIn K (.ref C) "__getattribute__"=some (some (.builtin "BaseException.__getattribute__"))
 gt:PySem.W.findIn K (.ref C) "__getattr__"=some none
 ca:PySem.W.findIn K (.ref C) "__class__"=some (some (.builtin "object.__class__"))
 gs:PySem.W.specialIn K (.builtin "object.__class__") "__get__"=some (some (.builtin "getset_descriptor.__get__"))
 tk:PySem.W.takesIn K (.builtin "object.__class__")=some true
 ob:PySem.W.mroIn K C (.type "object")=some true
 be:PySem.W.mroIn K C (.type "BaseException")=some true
section
variable{prog:Program}{w:World}{A:Around}{E:Value->Shared->Prop}{s:Shared}{K:PySem.W.Frag}{x C:Addr}{dx:Option Addr}
theorem Uc{M:Model}{h:Heap}(p:We x C dx h):PySem.W.Looks M h (typeOf (.ref x)) (.ref C):=by
 obtain⟨o,h1,h2,_⟩:=p
 exact h2▸(PySem.W.Looks.ld h1).andThen .now
theorem Dt{M:Model}{h:Heap}(X:K.In h)(k:ExcKit K C):PySem.W.Looks M h (find (.ref x) (.ref C) "__class__") (.bind (.builtin "getset_descriptor.__get__") (.builtin "object.__class__")):=by
 have l1:=PySem.W.looks_findIn (M:=M) X k.ca
 have l2:PySem.W.Looks M h (getOf (some (.builtin "object.__class__"))) (some (.builtin "getset_descriptor.__get__")):=PySem.W.looks_specialIn X k.gs
 have l3:=PySem.W.looks_takesIn (M:=M) X k.tk
 have l4:PySem.W.Looks M h (dataDescriptor? (some (.builtin "object.__class__")) (some (.builtin "getset_descriptor.__get__"))) (some (.builtin "getset_descriptor.__get__",.builtin "object.__class__")):=l3.andThen .now
 exact l1.andThen (l2.andThen (l4.andThen (PySem.W.Looks.tag .now)))
theorem Zdm{R:Result->Shared->Prop}{tp:Value}(X:K.In s.heap)(p:We x C dx s.heap)(k:ExcKit K C)(h:R (.ok (.ret (.ref C))) s):
  codeAny (model prog w) A (.call (.builtin "getset_descriptor.__get__") ⟨[.builtin "object.__class__",.ref x,tp],[]⟩) R s:=by
 obtain⟨hh,g,dr,t,os⟩:=s
 have l0:=Uc (M:=model prog w) p
 have l1:=PySem.W.looks_mroIn (M:=model prog w) X k.ob
 refine codeAny_call_builtin PySem.W.KF.slot_gs.plain
  PySem.W.KF.entry_gs (PySem.W.KF.slot_gs.check _ _ _ _ _ _ _ _
   PySem.W.KF.type_class (PySem.W.KF.args_gs _ _ _) ?_)
 unfold Builtin.«getset_descriptor.__get__» descrGet
 rw[PySem.W.dga_obj]
 refine wpAny_bind (wpAny_pure ?_)
 unfold descrGetter descrCheckInstance descrNameAndClass isInstance
 simp only[PySem.W.KF.owner_class]
 repeat lk
 refine⟨Code.quiet_builtin _ (by decide+kernel),
  codeAny_builtin PySem.W.KF.entry_class ?_⟩
 unfold Builtin.«object.__class__» shownTypeOf
 repeat lk
 exact h
theorem Vm{tk:Tok}{Q:Fin->Shared->Prop}(X:K.In s.heap)(p:We x C dx s.heap)(k:ExcKit K C)(h:Q (.done (.ret (.ref C))) s):
  wpAny (model prog w) A (Builtin.«object.__getattribute__» ⟨[.ref x,.str "__class__" tk],[]⟩) Q E s:=by
 obtain⟨hh,g,dr,t,os⟩:=s
 have l0:=Uc (M:=model prog w) p
 have l1:=Dt (M:=model prog w) (x:=x) X k
 refine wpAny_bind (wpAny_pure (wpAny_bind (wpAny_pure (wpAny_bind (l0.at (wpAny_bind (l1.at ?_)))))))
 show wpAny _ _ (holding [.builtin "object.__class__"] (call (.builtin "getset_descriptor.__get__") [.builtin "object.__class__",.ref x,.ref C]) >>=ret) _ _ _
 exact wpAny_bind (wpAny_holding (wpAny_call (Zdm (s:=⟨hh,g,dr,t,os⟩) X p k (wpAny_pure h))))
theorem To{M:Model}{nv:Value}{Q:Unit->Shared->Prop}(X:K.In s.heap)(p:We x C dx s.heap)(k:ExcKit K C)(h:Q () s):wpAny M A (checkBuiltinCall "BaseException.__getattribute__" ⟨[.ref x,nv],[]⟩) Q E s:=by
 obtain⟨hh,g,dr,t,os⟩:=s
 have l0:=Uc (M:=M) p
 have l1:=PySem.W.looks_mroIn (M:=M) X k.be
 have li:PySem.W.Looks M hh (isInstance (.ref x) (.type "BaseException")) true:=l0.andThen l1
 have e1:builtinKind "BaseException.__getattribute__"=some .slot:=by decide+kernel
 have e2:splitId "BaseException.__getattribute__"=some ("BaseException","__getattribute__"):=by decide+kernel
 have e3:=PySem.F.args_bexc_ga (.ref x) nv
 simp only[checkBuiltinCall,e1,e2]
 refine wpAny_bind (li.at ?_)
 rw[if_neg (by decide)]
 unfold argsOk at e3
 split
 ·rename_i sig hs
  rw[hs]at e3
  have e4:Bind.checkArgs "BaseException.__getattribute__" sig {pos:=[Value.ref x,nv]}=pure ():=e3
  rw[e4]
  exact wpAny_pure h
 ·exact wpAny_pure h
theorem Vn{Q:Option Value->Shared->Prop}(X:K.In s.heap)(p:We x C dx s.heap)(k:ExcKit K C)(h:Q (some (.ref C)) {s with toks:=s.toks+1}):wpAny (model prog w) A (getAttr? (.ref x) "__class__") Q E s:=by
 obtain⟨hh,g,d,t,os⟩:=s
 have l0:=Uc (M:=model prog w) p
 have l1:=PySem.W.looks_findIn (M:=model prog w) X k.ga
 have l2:=PySem.W.looks_findIn (M:=model prog w) X k.gt
 unfold getAttr? getAttrBy? getAttrBy
 refine wpAny_bind (wpAny_mkText (wpAny_bind (wpAny_attempt (wpAny_holding (wpAny_bind (l0.at (wpAny_bind (l1.at ?_))))))))
 dsimp only
 have hb:(Value.builtin "BaseException.__getattribute__"==Value.builtin "object.__getattribute__")=false:=by decide+kernel
 rw[if_neg (by rw[hb,Bool.and_false];exact Bool.false_ne_true)]
 unfold getAttrByItsOwn hookBefore
 refine wpAny_bind ?_
 rw[if_pos (show onTheHeap (Value.ref C)=true from rfl)]
 refine l2.at ?_
 refine wpAny_bind (wpAny_attempt (wpAny_holding ?_))
 unfold callGetattribute
 rw[if_neg (by decide)]
 unfold boundAndCalled
 rw[PySem.F.excAttr_ValueError.ga.bind (.ref x)]
 refine wpAny_bind (wpAny_pure ?_)
 refine wpAny_call (codeAny_call_builtin PySem.F.excAttr_ValueError.ga.plain PySem.F.entry_bexc_ga (To X p k (Vm (s:=⟨hh,g,d,t+1,os⟩) X p k ?_)))
 show wpAny (model prog w) A (handedOut (.ref C)) _ _ _
 exact wpAny_pure (wpAny_pure h)
theorem Du(k:ExcKit K C):PySem.W.KitX K (.ref x) (.ref C) (We x C dx)where
 ty:=fun M h _ p=>Uc p
 it:=fun _ _ X _=>by
  have hc:=k.cl
  unfold PySem.W.isClsIn PySem.W.clsIn at hc
  split at hc
  ·rename_i ho
   intro A' Q' E' s' kk q
   unfold isType loadHead
   exact wpAny_bind (wpAny_loadPart (kk _ _ (X _ _ ho)) (wpAny_pure q))
  ·cases hc
 ne:=fun h tp dd its n sl X htp=>by
  have hc:=k.cl
  refine Bool.eq_false_iff.mpr fun q=>?_
  have e:C=tp:=Value.ref.inj (beq_iff_eq.mp q)
  subst e
  unfold PySem.W.isClsIn PySem.W.clsIn at hc
  split at hc
  ·rename_i ho
   have z:=(X _ _ ho).symm.trans htp
   cases z
  ·cases hc
 ca:=fun X p kk=>Vn X p k kk
end
section
variable{X:Cx}
noncomputable def Zmc(K:PySem.W.Frag)(c:V)(cv:Value):List V->Hp->VK->Prop:=fun xs H Q=>∃a C dx b,xs=[.ref a,c]/\H a=some (.ext (We a C dx))/\ExcKit K C/\PySem.W.kitOne K (.ref C) cv=some b/\Q (.bl b) H
theorem Ic{c:V}{cv:Value}(hc:∀u,Zw c u->u=cv):Jl X (.builtin "isinstance") (Zmc X.K c cv):=by
 intro pins s σ H xs us Q I r h
 obtain⟨a,C,dx,b,rfl,ha,k,e,q⟩:=h
 obtain⟨u,w',rfl,r1,r2⟩:=Hn r
 cases r1
 cases hc _ r2
 have p:We a C dx s.heap:=(I.hok a _ ha).1
 exact PySem.W.kia_one (Du k) I.kIn p e (fun z=>nomatch z) fun tk=>⟨.bl b,H,I.tok _,rfl,q⟩
end
end L2
namespace PySem
open Sem (wp)
section
variable{prog:Program}{w:World}{A:Around}{E:Value->Shared->Prop}{h:Heap}{g:Array GenState}{d:Drawn}{t:Nat}{os:OsState}
variable{nm q:Str}{C N fI:Addr}{oI:Obj}{bs bm bmB bmN:List Value}{hdct:Bool}{sn:List Str}{sub:List Value}{ab:Bool}{col:Option Bool}{dd:Option Addr}{k0 k1 k2 k3 k5:Option Value}{B Bn newId nid initId inN:String}{mN:Str->Option Value}{rest:List Value}
theorem Dv{Q:Fin->Shared->Prop}(Fn:ExcBaseFacts Bn newId inN bmN)(hBn:bmB.contains (.type Bn)=true)(F:ExcBaseFacts B nid initId bmB)(T:OwnTail h bmB bm)(hC:h.get? C=some (excClassObj nm q C N bs bm hdct sn sub ab col dd k0 k1 k2 k3 k5 newId))(hn:h.Ns N mN)(hi:mN "__init__"=some (.ref fI))(hfI:h.get? fI=some oI)(hfc:oI.cls= .type "function")(hl:rest.length<=sizeLine)
  (k:∀h' e,Heap.MadeExcOf h h' e (.ref C) rest->h.objs.size<=e->wpAny (model prog w) A (call (.ref fI) (.ref e::rest)) (fun r s'=>r= .none/\Q (.done (.ret (.ref e))) s') E ⟨h',g,d,t,os⟩):wpAny (model prog w) A (Builtin.«type.__call__» ⟨.ref C::rest,[]⟩) Q E ⟨h,g,d,t,os⟩:=by
 repeat (first|with_reducible refine wpAny_loadPart_at hC ?_|with_reducible refine wpAny_madeBy_exc hC ?_|wp_step)
 refine codeAny_call_builtin_code (Code.quiet_builtin _ Fn.quiet) (wpAny_check_new_subU Fn hBn T hC ?_);refine codeAny_exc_new_subU Fn hBn F T hC ?_ hl;show wpAny _ _ _ _ _ _
 let h2:Heap:=(h.push {cls:=.type "tuple",data:=.seq rest.toArray}).push {cls:=.ref C,data:=.fields #[.ref h.objs.size,.none,.none,.none,.bool false,.none]}
 have up:∀b o,h.get? b=some o->h2.get? b=some o:=fun b o z=>Heap.get?_push_of_some _ (Heap.get?_push_of_some _ z)
 have c2:h2.get? C=_:=up _ _ hC
 have f2:=up _ _ hfI
 have n2:h2.Ns N mN:=by obtain⟨o,es,ep,e,r⟩:=hn;exact⟨o,es,ep,up _ _ e,r⟩
 have T2:OwnTail h2 bmB bm:=T.keeps (h':=h2) up
 have at2:h2.get? (h.objs.size+1)=some {cls:=.ref C,data:=.fields #[.ref h.objs.size,.none,.none,.none,.bool false,.none]}:=by
  show Heap.get? ((h.push {cls:=.type "tuple",data:=.seq rest.toArray}).push {cls:=.ref C,data:=.fields #[.ref h.objs.size,.none,.none,.none,.bool false,.none]}) (h.objs.size+1)=_;heap_get
 have has:(Value.ref C::bm).contains (.ref C)=true:=by simp
 unfold isInstance
 repeat (first|with_reducible refine wpAny_loadPart_at at2 ?_| (with_reducible refine wpAny_isSubtype_exc c2 ?_;rw[has])|wp_step)
 show wpAny _ _ (typeLookup (.ref C) _) _ _ _
 refine wpAny_typeLookup_tail c2 n2 T2 F.mroIs F.init.lookup ?_
 rw[hi];refine wpAny_holding (wpAny_bind ?_);unfold bindSpecial
 refine wpAny_bind (wpAny_typeOf (T:="function") ⟨_,f2,hfc⟩ ?_);rw[if_pos (by decide)]
 refine wpAny_pure (wpAny_bind (wpAny_mono (k h2 (h.objs.size+1) ⟨up,Heap.get?_none_of_le (Nat.le_succ _),h.objs.size,at2,Heap.get?_none_of_le (Nat.le_refl _),?_⟩ (Nat.le_succ _)) (fun r s' hr=>?_) fun _ _ z=>z))
 ·exact Heap.get?_push_of_some _ (Heap.get?_push_at rfl rfl)
 ·obtain⟨rfl,z⟩:=hr;wp_walk;exact z
theorem K9{Q:Value->Shared->Prop}(Fn:ExcBaseFacts Bn newId inN bmN)(hBn:bmB.contains (.type Bn)=true)(F:ExcBaseFacts B nid initId bmB)(T:OwnTail h bmB bm)(hC:h.get? C=some (excClassObj nm q C N bs bm hdct sn sub ab col dd k0 k1 k2 k3 k5 newId))(hn:h.Ns N mN)(hi:mN "__init__"=some (.ref fI))(hfI:h.get? fI=some oI)(hfc:oI.cls= .type "function")(hl:rest.length<=sizeLine)
  (k:∀h' e,Heap.MadeExcOf h h' e (.ref C) rest->h.objs.size<=e->wpAny (model prog w) (A.under (.builtin "type.__call__" ⟨.ref C::rest,[]⟩)) (call (.ref fI) (.ref e::rest)) (fun r s'=>r= .none/\Q (.ref e) s') E ⟨h',g,d,t,os⟩):wpAny (model prog w) A (call (.ref C) rest) Q E ⟨h,g,d,t,os⟩:=by
 have z1:=tc_lookup;have z2:=tc_bind (.ref C);have hT:(⟨h,g,d,t,os⟩:Shared).TypeIs (.ref C) "type":=⟨_,hC,rfl⟩
 refine wpAny_call (codeAny_of_tree ?_);show wpAny _ _ (callAny (.ref C) _) _ _ _
 repeat (any_goals (first|assumption|with_reducible refine wpAny_loadPart_at hC ?_|wp_step))
 exact⟨rfl,codeAny_call_builtin_at (Code.quiet_builtin _ (by decide+kernel)) entry_typeCall (wpAny_check_type_call_sub hC (Dv Fn hBn F T hC hn hi hfI hfc hl k))⟩
end
section
variable{prog:Program}{w:World}{A:Around}{E:Value->Shared->Prop}{s:Shared}{env:Env}
variable{nm q:Str}{C N fI:Addr}{bs bm bmB bmN:List Value}{hdct:Bool}{sn:List Str}{sub:List Value}{ab:Bool}{col:Option Bool}{dd:Option Addr}{k0 k1 k2 k3 k5:Option Value}{B Bn newId nid initId inN:String}{mN:Str->Option Value}
theorem La{x:Sem Value}{Q:Flow->Shared->Prop}(hbase:bm.contains (.type "BaseException")=true)(hh:A.handled=none)
  (k:wpAny (model prog w) A x (fun v s₁=>∃e oe,v= .ref e/\s₁.heap.get? C=some (excClassObj nm q C N bs bm hdct sn sub ab col dd k0 k1 k2 k3 k5 newId)/\s₁.heap.get? e=some oe/\oe.cls= .ref C/\(∃vs,oe.data= .fields vs/\vs[1]? =some .none)/\E (.ref e) s₁) E s):wpAny (model prog w) A (raiseStmt env (some x) none) Q E s:=by
 have has:(Value.ref C::bm).contains (.type "BaseException")=true:=by rw[List.contains_cons,hbase,Bool.or_true]
 unfold raiseStmt
 refine wpAny_bind (wpAny_mono k (fun v s₁ h₁=>?_) fun _ _ z=>z);obtain⟨e,oe,rfl,hC,he,hc,⟨vs,hnc,hv⟩,hE⟩:=h₁
 obtain⟨hp,g,d,tk,os⟩:=s₁
 obtain⟨oc,od,oda,osl⟩:=oe
 dsimp only at hc hnc
 subst hc hnc
 repeat (first|with_reducible refine wpAny_loadPart_at he ?_|with_reducible refine wpAny_loadPart_at hC ?_| (with_reducible refine wpAny_isSubtype_exc hC ?_;rw[has])|wp_step)
 rw[hv]
 refine wpAny_pure ?_
 rw[if_neg (by decide)]
 exact wpAny_pure (wpAny_raiseNew_none hh hE)
theorem Ie{x:Str}{np cpos pos:Pos}{args:List Expr}{Q:Flow->Shared->Prop}(Fn:ExcBaseFacts Bn newId inN bmN)(hBn:bmB.contains (.type Bn)=true)(F:ExcBaseFacts B nid initId bmB)(hbase:bm.contains (.type "BaseException")=true)(hh:A.handled=none)(hpl:(backTo cpos (starEach args env)).any (·.1)=false)(hi:mN "__init__"=some (.ref fI))
  (k:wpAny (model prog w) A (eval (.Name x np) env) (fun f s₁=>f= .ref C/\wpAny (model prog w) A (evalArgs (.ref C) true (backTo cpos (starEach args env)) []) (fun a s₂=>a.kw=[]/\a.pos.length<=sizeLine/\s₂.heap.get? C=some (excClassObj nm q C N bs bm hdct sn sub ab col dd k0 k1 k2 k3 k5 newId)/\s₂.heap.Ns N mN/\OwnTail s₂.heap bmB bm/\(∃oI,s₂.heap.get? fI=some oI/\oI.cls= .type "function")/\
    ∀h' e,Heap.MadeExcOf s₂.heap h' e (.ref C) a.pos->s₂.heap.objs.size<=e->wpAny (model prog w) (A.under (.builtin "type.__call__" ⟨.ref C::a.pos,[]⟩)) (call (.ref fI) (.ref e::a.pos)) (fun r s'=>r= .none/\s'.heap.get? C=some (excClassObj nm q C N bs bm hdct sn sub ab col dd k0 k1 k2 k3 k5 newId)/\(∃oe,s'.heap.get? e=some oe/\oe.cls= .ref C/\∃vs,oe.data= .fields vs/\vs[1]? =some .none)/\E (.ref e) s') E {s₂ with heap:=h'}) E s₁) E s):
  wpAny (model prog w) A (exec (.Raise (some (.Call (.Name x np) args [] cpos)) none pos) env) Q E s:=by
 rw[arm_exec_Raise]
 simp only[evalOpt,Option.map]
 refine wpAny_bind (wpAny_standAt (La (C:=C) (nm:=nm) (q:=q) (N:=N) (bs:=bs) (bm:=bm) (hdct:=hdct) (sn:=sn) (sub:=sub) (ab:=ab) (col:=col) (dd:=dd) (k0:=k0) (k1:=k1) (k2:=k2) (k3:=k3) (k5:=k5) (newId:=newId) hbase hh ?_));refine wpAny_bind (wpAny_mono (wpAny_Call_ofName (wpAny_mono k (fun f s₁ h₁=>?_) fun _ _ z=>z)) (fun v s₃ h₃=>wpAny_bind (wpAny_standAt (wpAny_pure h₃))) fun _ _ z=>z)
 obtain⟨rfl,h₁⟩:=h₁;unfold callWith
 refine wpAny_bind (wpAny_holding (wpAny_mono h₁ (fun a s₂ h₂=>wpAny_bind (wpAny_standAt ?_)) fun _ _ z=>z));obtain⟨ap,akw⟩:=a
 obtain⟨hkw,hlen,hC,hn,T,⟨oI,hfI,hfc⟩,h₂⟩:=h₂;obtain rfl:akw=[]:=hkw
 obtain⟨hp,g,d,tk,os⟩:=s₂;simp only[hpl]
 refine wpAny_bind (wpAny_keeperOf_exc hC ?_)
 refine wpAny_bind (K9 Fn hBn F T hC hn hi hfI hfc hlen fun h' e hm hz=>wpAny_mono (h₂ h' e hm hz) (fun r s' ⟨r1,r2,⟨oe,r3,r4,r5⟩,r6⟩=>⟨r1,wpAny_bind (wpAny_holding (wpAny_point (wpAny_pure ⟨e,oe,rfl,r2,r3,r4,r5,r6⟩)))⟩) fun _ _ z=>z)
end
end PySem
namespace L2
open PySem PySem.Spec PySem.Calls PyProof.Rows Builtin.ObjectAttr
noncomputable def A0:List Value->Bool
 | .ref _::r=>A0 r
 |l=>l==VEB
theorem Lb(self:Value):∀{l:List Value},A0 l=true->refuseLoop self "__setattr__" l=pure ():=by
 intro l
 induction l with
 |nil=>intro e;exact absurd e (by decide)
 |cons v r ih=>
  intro e
  by_cases hv:∃c,v= .ref c
  ·obtain⟨c,rfl⟩:=hv
   rw[refuseLoop_ref];exact ih e
  ·have e':(v::r)=VEB:=by
    cases v<;> first|exact beq_iff_eq.mp e|exact absurd ⟨_,rfl⟩ hv
   rw[e'];exact PySem.F.store_ValueError.passes self
structure ExcSet(K:PySem.W.Frag)(C:Addr)(name:Str):Prop where
 sa:PySem.W.findIn K (.ref C) "__setattr__"=some (some (.builtin "object.__setattr__"))
 ob:PySem.W.mroIn K C (.type "object")=some true
 na:PySem.W.findIn K (.ref C) name=some none
 mr:((PySem.W.clsIn K C).any fun cd=>A0 cd.mro&&cd.hasDict)=true
noncomputable def W2(a C:Addr)(dx:Option Addr):Heap->Prop:=fun h=>∃o t,h.get? a=some o/\o.cls= .ref C/\o.dict=dx/\o.data= .fields #[.ref t,.none,.none,.none,.bool false,.none]
section
variable{prog:Program}{w:World}{A:Around}{E:Value->Shared->Prop}{s:Shared}{K:PySem.W.Frag}{x C:Addr}{name:Str}{v:Value}
theorem Dw{M:Model}{h:Heap}{dx:Option Addr}(p:W2 x C dx h):PySem.W.Looks M h (typeOf (.ref x)) (.ref C):=by
 obtain⟨o,t,h1,h2,_⟩:=p
 exact h2▸(PySem.W.Looks.ld h1).andThen .now
theorem Zdn{Q:Unit->Shared->Prop}(X:K.In s.heap)(p:W2 x C none s.heap)(k:ExcSet K C name)
  (hq:∀h' dx tk,W2 x C (some dx) h'->h'.Ns1 dx (fun y=>if y=name then some v else none)->s.heap.objs.size<=dx->dx≠x->(∀b ob,b≠x->s.heap.get? b=some ob->h'.get? b=some ob)->Q () {s with heap:=h',toks:=tk}):wpAny (model prog w) A (setAttr (.ref x) name v) Q E s:=by
 obtain⟨h,g,d,t,os⟩:=s
 have l0:=Dw (M:=model prog w) p
 have l1:=PySem.W.looks_findIn (M:=model prog w) X k.sa
 have SF:=PySem.F.store_object
 obtain⟨cd,hc,ho⟩:=PySem.W.any_some k.mr
 rw[Bool.and_eq_true]at ho
 have sub:PySem.W.Looks (model prog w) h (isInstance (.ref x) (.type "object")) true:=l0.andThen (PySem.W.looks_mroIn X k.ob)
 have hm:PySem.W.Looks (model prog w) h (mroOf (.ref C)) cd.mro:=(PySem.W.looks_clsIn X hc).andThen .now
 have l2:=PySem.W.looks_findIn (M:=model prog w) X k.na
 refine wpAny_bind (wpAny_mkText (wpAny_bind (wpAny_bind (wpAny_bind (l0 _ _ _ _ (fun _ _ e=>e) (l1 _ _ _ _ (fun _ _ e=>e) (wpAny_holding ?_)))))));rw[SF.slot.bind]
 refine wpAny_bind (wpAny_pure (wpAny_bind (wpAny_call (codeAny_call_builtin SF.slot.plain SF.entry (@PySem.W.check_slot (model prog w) _ _ ⟨h,g,d,t+1,os⟩ "object.__setattr__" "object" "__setattr__" (.ref x) [.str name t,v] [] _ SF.kind SF.split sub (SF.args (.ref x) (.str name t) v) ?_)))))
 show wpAny _ _ (Builtin.«object.__setattr__» ⟨[.ref x,.str name t,v],[]⟩) _ _ _
 rw[PySem.W.osa_eq,refuse_eq]
 refine wpAny_bind (wpAny_bind (l0.at (wpAny_bind (hm.at ?_))));rw[Lb _ ho.1]
 refine wpAny_pure (wpAny_bind (l0.at (wpAny_bind (l2.at (wpAny_bind (wpAny_pure ?_))))))
 obtain⟨o,ta,hx,hcl,hdn,hda⟩:=p
 obtain⟨oc,od,oda,osl⟩:=o
 dsimp only at hcl hdn hda hx
 subst hcl hdn hda
 dsimp only
 unfold storeInOwnDict
 repeat (first|with_reducible refine wpAny_loadPart_at hx ?_|wp_step)
 have hC:∃oC,h.get? C=some oC/\oC.data= .cls cd:=by
  unfold PySem.W.clsIn at hc
  split at hc
  ·rename_i hl;cases hc;exact⟨_,X _ _ hl,rfl⟩
  ·cases hc
 obtain⟨oC,hC1,hC2⟩:=hC
 refine wpAny_load hC1 ?_
 rw[hC2]
 refine wpAny_pure ?_
 rw[ho.2]
 dsimp only
 rw[if_neg (by decide),if_neg (by simp[typeHasDict])]
 have hx1:(h.push {cls:=.type "dict",data:=.dict #[]}).get? x=_:=Heap.get?_push_of_some _ hx
 have hxs:x≠h.objs.size:=Nat.ne_of_lt (Heap.lt_size hx)
 refine wpAny_bind (wpAny_alloc' (wpAny_bind (wpAny_update' hx1 (wpAny_pure ?_))))
 have gd:((h.push {cls:=.type "dict",data:=.dict #[]}).update x fun o=>{cls:=o.cls,dict:=some h.objs.size,data:=o.data,slots:=o.slots}).get? h.objs.size=some {cls:=.type "dict",data:=.dict #[]}:=(Heap.get?_update_ne _ _ _ _ hxs.symm).trans (Heap.get?_push_at rfl rfl)
 have nd:((h.push {cls:=.type "dict",data:=.dict #[]}).update x fun o=>{cls:=o.cls,dict:=some h.objs.size,data:=o.data,slots:=o.slots}).Ns h.objs.size (fun _=>none):=⟨_, #[],_,gd,rfl,(fun e he=>absurd he (by simp)),fun _=>rfl⟩
 show wpAny _ _ (storeInDict h.objs.size (.str name t) name v) _ _ _
 unfold storeInDict newKeyGuard
 refine wpAny_bind (wpAny_pure (wpAny_bind (wpAny_nsSet1 (Heap.Ns1.of_empty nd) fun h' hn' hs=>?_)));obtain⟨oD,esD,epD,hoD,hdD,hcD⟩:=hn'.count (Within.cons name v Within.nil)
 refine wpAny_bind (wpAny_lookBehind hoD (by rw[hdD];exact pastItsLine_dict (Nat.le_trans hcD (by rw[List.length_cons,List.length_nil,sizeLine_eq];omega))) ?_)
 have hx2:h'.get? x=some {cls:=.ref C,dict:=some h.objs.size,data:=Data.fields #[Value.ref ta,Value.none,Value.none,Value.none,Value.bool false,Value.none],slots:=osl}:=(hs.2 x hxs).trans (Heap.get?_update_self _ hx1 rfl)
 refine wpAny_pure (wpAny_pure (wpAny_pure (hq h' h.objs.size _ ⟨_,ta,hx2,rfl,rfl,rfl⟩ ?_ (Nat.le_refl _) hxs.symm fun b ob hb hbo=>?_)))
 ·obtain⟨o',es,ep,e1,e2,e3,eu,e4⟩:=hn'
  exact⟨o',es,ep,e1,e2,e3,eu,fun y=>by rw[e4 y]⟩
 ·exact(hs.2 b (Nat.ne_of_lt (Heap.lt_size hbo))).trans ((Heap.get?_update_ne _ _ _ _ hb).trans (Heap.get?_push_of_some _ hbo))
theorem Dx{M:Model}{h:Heap}{dx:Addr}{mA:Str->Option Value}(X:K.In h)(p:We x C (some dx) h)(hn:h.Ns1 dx mA)(hv:mA name=some v)(na:PySem.W.findIn K (.ref C) name=some none)(mr:((PySem.W.clsIn K C).any fun cd=>cd.hasDict)=true):
  PySem.W.Looks M h (find (.ref x) (.ref C) name) (.value v):=by
 obtain⟨cd,hc,hd⟩:=PySem.W.any_some mr
 have l1:=PySem.W.looks_findIn (M:=M) X na
 obtain⟨o,h1,h2,h3,h4⟩:=p
 have l2:PySem.W.Looks M h (instanceDict x false) (some dx):=by
  refine(PySem.W.Looks.ld h1).andThen ?_
  rw[h2,h3]
  refine(PySem.W.looks_clsIn X hc).andThen ?_
  rw[hd]
  exact .now
 have l3:PySem.W.Looks M h (nsGet dx name) (some v):=fun A Q E s k q=>by
  obtain⟨od,es,ep,e,r⟩:=hn.ns
  exact wpAny_nsGet ⟨od,es,ep,k _ _ e,r⟩ (by rw[hv];exact q)
 have l4:PySem.W.Looks M h (ownDict x) (some dx):=by
  refine(PySem.W.Looks.ld h1).andThen ?_
  unfold PySem.W.notCls at h4
  cases hda:o.data with
  |cls cd'=>rw[hda]at h4;cases h4
  |_=>exact l2
 have l5:PySem.W.Looks M h (inOwnDict name (.ref x)) (some v):=l4.andThen l3
 have l6:PySem.W.Looks M h (ownThenClass (.ref x) name none none) (.value v):=l5.andThen (PySem.W.Looks.tag .now)
 exact l1.andThen ((show PySem.W.Looks M h (getOf none) none from .now).andThen ((show PySem.W.Looks M h (dataDescriptor? none none) none from .now).andThen l6))
theorem Zdo{dx:Addr}{mA:Str->Option Value}{Q:Value->Shared->Prop}(X:K.In s.heap)(p:We x C (some dx) s.heap)(k:ExcKit K C)(hn:s.heap.Ns1 dx mA)(hv:mA name=some v)(na:PySem.W.findIn K (.ref C) name=some none)(mr:((PySem.W.clsIn K C).any fun cd=>cd.hasDict)=true)(hh:handedOut v=pure v)
  (hq:Q v {s with toks:=s.toks+1}):wpAny (model prog w) A (getAttr (.ref x) name true) Q E s:=by
 obtain⟨h,g,d,t,os⟩:=s
 have l0:=Uc (M:=model prog w) p
 have l1:=PySem.W.looks_findIn (M:=model prog w) X k.ga
 have l2:=PySem.W.looks_findIn (M:=model prog w) X k.gt
 have l3:=Dx (M:=model prog w) X p hn hv na mr
 unfold getAttr getAttrBy
 refine wpAny_bind (wpAny_mkText (wpAny_holding (wpAny_bind (l0.at (wpAny_bind (l1.at ?_))))))
 dsimp only
 have hb:(Value.builtin "BaseException.__getattribute__"==Value.builtin "object.__getattribute__")=false:=by decide+kernel
 rw[if_neg (by rw[hb,Bool.and_false];exact Bool.false_ne_true)]
 unfold getAttrByItsOwn hookBefore
 refine wpAny_bind ?_
 rw[if_pos (show onTheHeap (Value.ref C)=true from rfl)]
 refine l2.at ?_
 refine wpAny_bind (wpAny_attempt (wpAny_holding ?_))
 unfold callGetattribute
 rw[if_neg (by rw[show onTheHeap (Value.builtin "BaseException.__getattribute__")=false from rfl,Bool.and_false];exact Bool.false_ne_true)]
 unfold boundAndCalled
 rw[PySem.F.excAttr_ValueError.ga.bind (.ref x)]
 refine wpAny_bind (wpAny_pure (wpAny_call (codeAny_call_builtin PySem.F.excAttr_ValueError.ga.plain PySem.F.entry_bexc_ga (To (s:=⟨h,g,d,t+1,os⟩) X p k ?_))))
 show wpAny (model prog w) _ (Builtin.«object.__getattribute__» ⟨[.ref x,.str name t],[]⟩) _ _ _
 refine wpAny_bind (wpAny_pure (wpAny_bind (wpAny_pure (wpAny_bind (l0.at (wpAny_bind (l3.at (wpAny_pure ?_))))))))
 show wpAny (model prog w) A (handedOut v) _ _ _
 rw[hh]
 exact wpAny_pure hq
end
end L2
namespace L2
open PySem PySem.Spec PyProof.Rows
theorem Lc{K:PySem.W.Frag}{h:Heap}{N:Addr}{m:Str->Option Value}{n:Str}{v:Value}(X:K.In h)(G:h.Ns N m)(e:PySem.W.nsIn K N n=some (some v)):m n=some v:=by
 obtain⟨ob,ee,ep,hob,hdd,_,hfd⟩:=G
 unfold PySem.W.nsIn at e
 split at e
 ·rename_i qq
  have z:=X _ _ qq
  rw[hob]at z;cases z;cases hdd
  split at e
  ·rename_i hee
   cases e;rw[<-hfd];unfold nsFind findBy
   rw[<-Array.find?_toList,hee];rfl
  ·split at e<;> cases e
 ·cases e
noncomputable def Ld(K:PySem.W.Frag)(C f:Addr):Bool:=match K.lookup C with
 |some ⟨.type "type",_,.cls cd,sl⟩=>(match cd.mro,sl.toList with
  | .ref B::r,[_,_,_,_,some (.builtin i),_]=>B==C&&i=="ValueError.__new__" && !cd.hasDel&&PySem.W.tailIn K VEB r&&PySem.W.nsOkIn K cd.ns&&PySem.W.nsIn K cd.ns "__init__"==some (some (.ref f))
  |_,_=>false)
 |_=>false
noncomputable def A1(C f:Addr)(h:Heap):Prop:=∃(bm:List Value) (N:Addr) (nm q:Str) (bs:List Value) (hdct:Bool) (sn:List Str) (sub:List Value) (ab:Bool) (col:Option Bool) (dd:Option Addr) (k0 k1 k2 k3 k5:Option Value) (mN:Str->Option Value),
 h.get? C=some (excClassObj nm q C N bs bm hdct sn sub ab col dd k0 k1 k2 k3 k5 "ValueError.__new__")/\h.Ns N mN/\mN "__init__"=some (.ref f)/\OwnTail h VEB bm
theorem Zdp{K:PySem.W.Frag}{h:Heap}{C f:Addr}(X:K.In h)(q:Ld K C f=true):A1 C f h:=by
 unfold Ld at q
 split at q
 ·rename_i dd cd sl ho
  split at q
  ·rename_i C2 bm s0 s1 s2 s3 id s5 hm hs
   simp only[Bool.and_eq_true,beq_iff_eq,Bool.not_eq_true']at q
   obtain⟨⟨⟨⟨⟨rfl,rfl⟩,hdl⟩,ht⟩,hok⟩,hin⟩:=q
   obtain⟨nm,bs,mro,ns,qn,hd,sn,sub,ab,col,del⟩:=cd
   dsimp only at hm hdl hok hin
   subst hm hdl
   obtain⟨l⟩:=sl
   simp only at hs
   subst hs
   have nz:h.Ns ns (h.nsMap ns):=.of_isNs (PySem.W.isNs_of_in X hok)
   exact⟨bm,ns,nm,qn,bs,hd,sn,sub,ab,col,dd,s0,s1,s2,s3,s5,_,X _ _ ho,nz,Lc X nz hin,PySem.W.tail_of_in X ht⟩
  ·cases q
 ·cases q
noncomputable def drop(H:Hp)(e:Addr):Hp:=fun b=>if b=e then none else H b
theorem A2{H:Hp}{e:Addr}:drop H e e=none:=if_pos rfl
theorem Ql{H:Hp}{e b:Addr}(h:b≠e):drop H e b=H b:=if_neg h
section
variable{X:Cx}{pins:List (Addr×Obj)}{σ:St}{H:Hp}{s:Shared}{e C:Addr}
theorem Inv.untrack{φ:Heap->Prop}(I:Inv X pins σ H s)(he:H e=some (.ext φ)):Inv X pins σ (drop H e) s:=by
 have ne:∀{b:Addr} {o:HO},H b=some o->(∀ψ,o≠.ext ψ)->b≠e:=fun{b o} q n z=>by rw[z,he]at q;cases q;exact n _ rfl
 have no:∀{b:Addr},H b=none->drop H e b=none:=fun{b} q=>by
  by_cases z:b=e
  ·rw[z];exact A2
  ·rw[Ql z];exact q
 refine⟨I.ok,I.os,I.bare,⟨I.base.keep,I.base.slot,fun b o q n hx=>no (I.base.free b o q n hx),I.base.there,fun b xs q=>?_,fun b o u q=>?_,fun b ps q=>?_⟩,I.loc,I.cell,no I.free,fun x c ec=>no (I.freeC x c ec),fun p hp=>?_,fun b u q=>?_,I.len⟩
 ·have z:=I.base.tups b xs q
  rw[Ql (ne z fun ψ y=>nomatch y)];exact z
 ·have z:=I.base.frzs b o u q
  rw[Ql (ne z fun ψ y=>nomatch y)];exact z
 ·obtain⟨m,z⟩:=I.base.tbls b ps q
  exact⟨m,by rw[Ql (ne z fun ψ y=>nomatch y)];exact z⟩
 ·obtain⟨q,n,r⟩:=I.pin p hp
  exact⟨q,no n,r⟩
 ·by_cases hb:b=e
  ·rw[hb,A2]at q;cases q
  ·rw[Ql hb]at q
   exact(I.hok b u q).stay (fun c v _ z=>z) (fun c z=>by rw[Ql (ne z fun ψ y=>nomatch y)];exact z) (fun c xs z=>by rw[Ql (ne z fun ψ y=>nomatch y)];exact z) fun c o z=>by rw[Ql (ne z fun ψ y=>nomatch y)];exact z
end
structure ExcGet(K:PySem.W.Frag)(C:Addr)(f:Str):Prop where
 kit:ExcKit K C
 na:PySem.W.findIn K (.ref C) f=some none
 mr:((PySem.W.clsIn K C).any fun cd=>cd.hasDict)=true
noncomputable def Ziq(K:PySem.W.Frag)(ta:TE)(f:Str):TE:=fun σ H Q=>ta σ H fun x H1=>∃a C dx fs v,x= .ref a/\H1 a=some (.ext (We a C (some dx)))/\H1 dx=some (.xd fs)/\ExcGet K C f/\fs.lookup f=some v/\Q v H1
section
variable{X:Cx}{e o value:Expr}{f:Str}{pos pos':Pos}{ta tv:TE}
theorem Dy(he:PE X e ta)(hb:attributeBase e f X.env (eval e X.env)=eval e X.env):PE X (.Attribute e f pos) (Ziq X.K ta f):=by
 intro pins s σ H Q I h
 refine Nr hb (Y3 (he pins s σ H _ I h) fun u s1 zq9=>?_)
 obtain⟨x,H1,I1,rx,a,C,dx,fs,v,ex,ea,ed,k,l,q⟩:=zq9
 subst ex
 obtain rfl:u=Value.ref a:=rx
 obtain⟨mA,hn,r⟩:=(show Y4 X.prog X.w H1 s1.heap dx (.xd fs)from I1.hok dx _ ed)
 obtain⟨u,hu,ru⟩:=Jf.some_of (v:=v) (o:=mA f) (by rw[<-l];exact r f)
 exact Zdo I1.kIn (I1.hok a _ ea).1 k.kit hn hu k.na k.mr (PySem.W.handedOut_of (M7 ru)) ⟨v,H1,I1.tok _,ru,q⟩
noncomputable def A3(K:PySem.W.Frag)(ta tv:TE)(f:Str):TS:=fun D σ H=>tv σ H fun y H1=>ta σ H1 fun x H2=>∃a C,x= .ref a/\H2 a=some (.ext (W2 a C none))/\ExcSet K C f/\
 ∀dx,H2 dx=none->D.nx σ (Ys (Ys H2 dx (.xd [(f,y)])) a (.ext (W2 a C (some dx))))
theorem Ig{a C:Addr}{dx:Option Addr}:∀h1 h2:Heap,W2 a C dx h1->(∀o,h1.get? a=some o->h2.get? a=some o)->W2 a C dx h2:=fun h1 h2 ⟨o,t,z1,z2⟩ k=>⟨o,t,k o z1,z2⟩
theorem Dz(ha:PE X o ta)(hv:PE X value tv)(hs:swapsWith value (some (.Attribute o f pos')) pos.line X.env=pure false):PS X (.Assign [.Attribute o f pos'] value pos) (A3 X.K ta tv f):=by
 intro pins s σ H D I h
 refine plainObj_wpAny_Assign_Attribute (Y3 (hv pins s σ H _ I h) fun u s1 ⟨y,H1,I1,ry,q⟩=>Y3 (ha pins s1 σ H1 _ I1 q) fun ov s2 ⟨x,H2,I2,rx,a,C,ex,ea,k,q2⟩=>?_) hs
 subst ex
 obtain rfl:ov=Value.ref a:=rx
 have p:=(I2.hok a _ ea).1
 refine Zdn I2.kIn p k fun h' dx tk p' n' hz hne kp=>?_
 obtain⟨oa,ta',hoa,c1,c2,c3⟩:=id p
 obtain⟨ob,tb',hob,_⟩:=id p'
 have hdx:H2 dx=none:=I2.hok.fresh hz
 have g1:(h'.update a fun _=>oa).get? a=some oa:=Heap.get?_update_self _ hob (Obj.isFreed_of_fields c3)
 have g2:∀b,b≠a->(h'.update a fun _=>oa).get? b=h'.get? b:=fun b hb=>Heap.get?_update_other _ _ (Ne.symm hb)
 have n1:(h'.update a fun _=>oa).Ns1 dx (fun z=>if z=f then some u else none):=n'.at fun o z=>(g2 dx hne).trans z
 have I3:=I2.laid (a:=dx) (o:=.xd [(f,y)]) (h':=h'.update a fun _=>oa) (t':=tk) (fun b w z=>by
  by_cases hb:b=a
  ·rw[hb]at z⊢;rw[g1];rw[hoa]at z;exact z
  ·rw[g2 b hb];exact kp b w hb z) hz ⟨_,n1,fun z=>by
   show Jf (List.lookup z [(f,y)]) _
   by_cases hzf:z=f
   ·subst hzf;simp;exact ry
   ·have:(z==f)=false:=by simpa using hzf
    simp[List.lookup,this,hzf];exact True.intro⟩
 have I4:=I3.write (x:=a) (e:=a) (o:=.ext (W2 a C (some dx))) (h':=h') (t':=tk) (by rw[Zl hne.symm,ea];exact True.intro) (.inl rfl) (fun b w hb z=>by rw[<-g2 b hb];exact z) ⟨_,hob⟩ ⟨p',⟨_,hob⟩,Ig⟩
 exact⟨σ,_,I4,q2 dx hdx⟩
end
noncomputable def Nz(EX:XK)(C:Addr)(sp:Sp)(t:TA):TS:=fun _ σ H=>t σ H fun vs H1=>vs.length<=sizeLine/\∀e,H1 e=none->sp (.ref e::vs) (Ys H1 e (.ext (W2 e C none))) (fun v H2=>v= .non/\∃dx,H2 e=some (.ext (W2 e C dx))/\EX (.ref C) dx (drop H2 e)) E0
theorem Vo{X:Cx}{EX:XK}{x:Str}{C fI:Addr}{fd:FuncData}{ps:List Str}{sp:Sp}{k:Nat}{np cpos pos:Pos}{a:Expr}{t:TA}(th:Rs X EX)(hc:X.calm=true)(hex:X.ex=[])(hm:X.mg x=some (.ref C))(oc:A1 C fI X.base)(fn:PySem.W.isFn X.K (.ref fI)=true)(F:FnOk X.prog X.w X.K X.mg X.base Cw k fI fd ps sp)(hr:Room (k+1) X.A)(hb:Qf X.K fd ps [])(hg:Gl X x)(ha:PA X [a] t)
  (he:starEach [a] X.env=(false,eval a X.env)::starEach [] X.env:=by rfl) (hpl:((backTo cpos (starEach [a] X.env)).any fun x=>x.1)=false:=by rfl)
  (hbk:∃y rest,backTo cpos (starEach [a] X.env)=(false,y)::rest:=by exact⟨_,_,rfl⟩) (hd:(x==("__debug__":Str))=false:=by decide):PS X (.Raise (some (.Call (.Name x np) [a] [] cpos)) none pos) (Nz EX C sp t):=by
 intro pins s σ H D I h
 obtain⟨bm,N,nm,q,bs,hdct,sn,sub,ab,col,dd,k0,k1,k2,k3,k5,mN,o1,o2,o3,o4⟩:=oc
 have hbm:bm.contains (.type "BaseException")=true:=o4.hasType (by decide)
 refine Ie (C:=C) (fI:=fI) (Bn:="ValueError") (B:="ValueError") (nm:=nm) (q:=q) (N:=N) (bs:=bs) (bm:=bm) (hdct:=hdct) (sn:=sn) (sub:=sub) (ab:=ab) (col:=col) (dd:=dd) (k0:=k0) (k1:=k1) (k2:=k2) (k3:=k3) (k5:=k5) (mN:=mN) PySem.F.excBase_ValueError (by decide) PySem.F.excBase_ValueError hbm (I.ok.hd hc) hpl o3 ?_
 refine Jj I hg hm ⟨rfl,?_⟩ hd
 obtain⟨y,rest,hy⟩:=hbk
 rw[hy]
 refine Calls.evalArgs_plain ?_
 rw[<-hy]
 refine Y3 (ha cpos pins s σ H _ I h) fun us s2 ⟨vs,H2,I2,r2,zl,q2⟩=>⟨rfl,(by rw[<-r2.length];exact zl),I2.bk _ _ o1,o2.keeps I2.bk,K8 I2.bk o4,?_,fun h' e m hz=>?_⟩
 ·have fn':=beq_iff_eq.mp fn
  unfold PySem.W.typeIn at fn'
  obtain⟨oI,z1,z2⟩:=Option.map_eq_some_iff.mp fn'
  exact⟨oI,I2.kIn _ _ z1,z2⟩
 ·obtain⟨T,m1,m2,m3⟩:=m.there
  have hH:H2 e=none:=I2.hok.fresh hz
  have I3:Inv X pins σ (Ys H2 e (.ext (W2 e C none))) {s2 with heap:=h'}:=I2.laid (t':=s2.toks) m.keeps hz ⟨⟨_,T,m1,rfl,rfl,rfl⟩,⟨_,m1⟩,Ig⟩
  have hq:=q2 e hH
  have rr:Yb (V.ref e::vs) (Value.ref e::us):=.cons rfl r2
  have hl:(Value.ref e::us++[]).length=ps.length:=by
   have z:=rr.length
   rw[F.len _ _ _ _ hq]at z
   rw[List.append_nil];exact z.symm
  have hb':=hb _ (Value.ref e::us) I3.kIn hl
  rw[List.append_nil]at hb'
  refine wpAny_call (codeAny_mono (F.run _ X.stack _ _ ⟨Value.ref e::us,[]⟩ (Value.ref e::us) _ _ E0 (hr.make C us []) (I3.env0.make C us []) hb' rr hq) fun r s' hq'=>?_)
  cases r with
  |error z=>exact False.elim hq'
  |ok fl=>
   cases fl with
   |ret u=>
    obtain⟨v,H',I4,rv,ev,dx,hE,q3⟩:=I3.after hq'
    subst ev
    obtain⟨oe,te,e1,e2,e3,e4⟩:=(I4.hok e _ hE).1
    refine⟨rv,I4.bk _ _ o1,⟨oe,e1,e2,_,e4,rfl⟩,?_⟩
    refine th pins σ (drop H' e) s' e (.ref C) dx none (I4.untrack hE) ⟨⟨oe,_,e1,e2,e3,e4,rfl⟩,fun T' z=>nomatch z⟩ ?_ A2 (fun T' z=>nomatch z) q3
    cases z:X.s₀.heap.get? e with
    |none=>rfl
    |some o=>
     obtain⟨o',z'⟩:=I2.base.there e o z (by rw[hex];simp)
     rw[m.new]at z';cases z'
   |next=>exact False.elim hq'
   |brk=>exact False.elim hq'
   |cont=>exact False.elim hq'
end L2
namespace DL
open PySem L2
variable{K:PySem.W.Frag}
inductive D where
 |non|bl (b:Bool)|int (i:Int)|str (x:Str)
 |tup (xs:List D)|lst (xs:List D)
 |dK (ks:List Key) (vs:List D)|dT (ks:List (List Key)) (vs:List D)|dX (ks:List Wn) (vs:List D)
 |exc (c:Str) (ks:List Str) (vs:List D)
 |fn (x:Str)|row (n:Int) (w x:Str)|ob (c:Str) (fs:List Str) (vs:List D)
noncomputable def Yf(K:PySem.W.Frag)(c:Str)(C:Addr):Prop:=PySem.W.nsIn K mainGlobals c=some (some (.ref C))
noncomputable def KB(F:Hp)(kvs:List (List Key×V))(bs:List Addr):Prop:=Paired (fun(p:List Key×V) (b:Addr)=>F b=some (.tup (p.1.map kV))) kvs bs
noncomputable def KN(F:Hp)(kvs:List (Wn×V))(bs:List Addr):Prop:=Paired (fun(p:Wn×V) (b:Addr)=>X2 F p.1 b) kvs bs
mutual
inductive Rep(K:PySem.W.Frag)(F:Hp):D->V->Prop where
 |non:Rep K F .non .non
 |bl (b:Bool):Rep K F (.bl b) (.bl b)
 |int (i:Int):Rep K F (.int i) (.int i)
 |str (x:Str):Rep K F (.str x) (.str x)
 |tup {a:Addr} {xs:List D} {vs:List V} (h:F a=some (.tup vs)) (r:Reps K F xs vs):Rep K F (.tup xs) (.ref a)
 |lst {a:Addr} {xs:List D} {vs:List V} (h:Of K F a vs) (o:F a=some (.lst vs)\/∀d∈xs,∃i,d= .int i) (r:Reps K F xs vs):Rep K F (.lst xs) (.ref a)
 |dK {a:Addr} {ks:List Key} {ds:List D} {kvs:List (Key×V)} {ep:Nat} (h:F a=some (.dK kvs ep)) (e:kvs.map (·.1)=ks) (r:Reps K F ds (kvs.map (·.2))):Rep K F (.dK ks ds) (.ref a)
 |dT {a:Addr} {ks:List (List Key)} {ds:List D} {kvs:List (List Key×V)} {ep:Nat} {bs:List Addr} (h:F a=some (.dT kvs ep bs)) (kb:KB F kvs bs) (e:kvs.map (·.1)=ks) (r:Reps K F ds (kvs.map (·.2))):Rep K F (.dT ks ds) (.ref a)
 |dX {a:Addr} {ks:List Wn} {ds:List D} {kvs:List (Wn×V)} {ep:Nat} {bs:List Addr} (h:F a=some (.dN kvs ep bs)) (kb:KN F kvs bs) (e:kvs.map (·.1)=ks) (r:Reps K F ds (kvs.map (·.2))):Rep K F (.dX ks ds) (.ref a)
 |exc {a C:Addr} {c:Str} (cl:Yf K c C) (h:F a=some (.ext (We a C none))):Rep K F (.exc c [] []) (.ref a)
 |exd {a C dx:Addr} {c:Str} {ks:List Str} {ds:List D} {fs:List (Str×V)} (cl:Yf K c C) (h:F a=some (.ext (We a C (some dx)))) (hx:F dx=some (.xd fs)) (e:fs.map (·.1)=ks) (r:Reps K F ds (fs.map (·.2))):Rep K F (.exc c ks ds) (.ref a)
 |fn {f:Addr} {x:Str} (cl:Yf K x f):Rep K F (.fn x) (.ref f)
 |row {a f:Addr} {n:Int} {w x:Str} (h:Mu K (fun _=>none) a [.int n,.str w,.ref f]) (cl:Yf K x f):Rep K F (.row n w x) (.ref a)
 |ob {a C dx:Addr} {c:Str} {fs:List Str} {ds:List D} {fvs:List (Str×V)} (cl:Yf K c C) (h:F a=some (.ins C dx fvs)) (e:fvs.map (·.1)=fs) (r:Reps K F ds (fvs.map (·.2))):Rep K F (.ob c fs ds) (.ref a)
inductive Reps(K:PySem.W.Frag)(F:Hp):List D->List V->Prop where
 |nil:Reps K F [] []
 |cons {d:D} {v:V} {ds:List D} {vs:List V} (h:Rep K F d v) (t:Reps K F ds vs):Reps K F (d::ds) (v::vs)
end
theorem KB.mono{F F':Hp}(s:Zh F F'){kvs:List (List Key×V)}{bs:List Addr}(h:KB F kvs bs):KB F' kvs bs:=Paired.mapP h fun _ _ z=>s _ _ z
theorem KN.mono{F F':Hp}(s:Zh F F'){kvs:List (Wn×V)}{bs:List Addr}(h:KN F kvs bs):KN F' kvs bs:=Paired.mapP h fun _ _ z=>z.mono fun _ _ q=>s _ _ q
theorem D1{F F':Hp}(s:Zh F F'){a:Addr}{u:HO}(h:Rd F a u):Rd F' a u:=by
 rcases h with h|⟨o,h⟩
 ·exact .inl (s _ _ h)
 ·exact .inr ⟨o,s _ _ h⟩
theorem Wu{F F':Hp}(s:Zh F F'){a:Addr}{xs:List V}(h:Of K F a xs):Of K F' a xs:=by
 rcases h with h|h
 ·exact .inl (D1 s h)
 ·exact .inr h
theorem Qq{F F':Hp}(s:Zh F F'){a:Addr}{xs:List V}(h:Mu K F a xs):Mu K F' a xs:=by
 rcases h with h|h
 ·exact .inl (D1 s h)
 ·exact .inr h
theorem Gj{F:Hp}{a:Addr}{vs:List V}(h:F a=some (.tup vs)):Mu K F a vs:=.inl (.inl h)
theorem Rep.mono{F F':Hp}(s:Zh F F'){d:D}{v:V}(h:Rep K F d v):Rep K F' d v:=
 Rep.rec (motive_1:=fun d v _=>Rep K F' d v) (motive_2:=fun ds vs _=>Reps K F' ds vs) .non .bl .int .str (fun h _ r=>.tup (s _ _ h) r) (fun h o _ r=>.lst (Wu s h) (o.imp (fun z=>s _ _ z) id) r) (fun h e _ r=>.dK (s _ _ h) e r) (fun h kb e _ r=>.dT (s _ _ h) (kb.mono s) e r) (fun h kb e _ r=>.dX (s _ _ h) (kb.mono s) e r) (fun cl h=>.exc cl (s _ _ h)) (fun cl h hx e _ r=>.exd cl (s _ _ h) (s _ _ hx) e r) (fun cl=>.fn cl) (fun h cl=>.row h cl) (fun cl h e _ r=>.ob cl (s _ _ h) e r) .nil (fun _ _ h t=>.cons h t) h
theorem Reps.mono{F F':Hp}(s:Zh F F'){ds:List D}{vs:List V}(h:Reps K F ds vs):Reps K F' ds vs:=by
 induction ds generalizing vs with
 |nil=>cases h;exact .nil
 |cons d ds ih=>
  cases h with
  |cons a t=>exact .cons (Rep.mono s a) (ih t)
theorem Reps.length{F:Hp}{ds:List D}:∀{vs:List V},Reps K F ds vs->ds.length=vs.length:=by
 induction ds with
 |nil=>intro vs h;cases h;rfl
 |cons d ds ih=>
  intro vs h
  cases h with
  |cons _ t=>rw[List.length_cons,List.length_cons,ih t]
theorem Reps.append{F:Hp}{ds es:List D}{vs us:List V}(h:Reps K F ds vs)(q:Reps K F es us):Reps K F (ds++es) (vs++us):=by
 induction ds generalizing vs with
 |nil=>cases h;exact q
 |cons d ds ih=>
  cases h with
  |cons h t=>exact .cons h (ih t)
theorem Reps.snoc{F:Hp}{ds:List D}{vs:List V}{d:D}{v:V}(r:Reps K F ds vs)(h:Rep K F d v):Reps K F (ds++[d]) (vs++[v]):=r.append (.cons h .nil)
theorem Reps.get{F:Hp}:∀{ds:List D} {vs:List V} {i:Nat} {d:D},Reps K F ds vs->ds[i]? =some d->∃v,vs[i]? =some v/\Rep K F d v
 |_,_,_,_,.nil,e=>by simp at e
 |_,_,0,_,.cons h t,e=>by simp at e;subst e;exact⟨_,rfl,h⟩
 |_,_,i+1,d,.cons h t,e=>by
  obtain⟨v,h1,h2⟩:=Reps.get (i:=i) (d:=d) t (by simpa using e)
  exact⟨v,by simpa using h1,h2⟩
theorem Reps.take{F:Hp}:∀{ds:List D} {vs:List V} (n:Nat),Reps K F ds vs->Reps K F (ds.take n) (vs.take n)
 |_,_,0,_=>.nil
 |_,_,_+1,.nil=>.nil
 |_,_,n+1,.cons h t=>.cons h (t.take n)
theorem Reps.drop{F:Hp}:∀{ds:List D} {vs:List V} (n:Nat),Reps K F ds vs->Reps K F (ds.drop n) (vs.drop n)
 |_,_,0,r=>r
 |_,_,_+1,.nil=>.nil
 |_,_,n+1,.cons h t=>t.drop n
inductive Tr where
 |lf (d:D)|dc (ks:List Key) (ts:List Tr)|tp (ts:List Tr)|ls (ts:List Tr)|ob (c:Str) (fs:List Str) (ts:List Tr)
mutual
@[simp] noncomputable def Tr.toD:Tr->D
 | .lf d=>d
 | .dc ks ts=>.dK ks (Tr.toDs ts)
 | .tp ts=>.tup (Tr.toDs ts)
 | .ls ts=>.lst (Tr.toDs ts)
 | .ob c fs ts=>.ob c fs (Tr.toDs ts)
@[simp] noncomputable def Tr.toDs:List Tr->List D
 | []=>[]
 |t::ts=>t.toD::Tr.toDs ts
end
inductive SV where
 |fz (d:D)|ol (xs:List D)|oK (ks:List Key) (vs:List D)|oT (ks:List (List Key)) (vs:List D)|oN (ks:List Key) (xss:List (List D))|oL (pin:Option Addr) (xss:List (List D))|oQ (pin:Addr) (ks:List Key) (vs:List D)|oX (ks:List Wn) (xss:List (List D))|oD (dss:List (List Key×List D))|oM (ks:List Wn) (vs:List D)|oR (pin:Addr) (ks:List Key) (xss:List (List D))|oG (pin:Option Addr) (t:Tr)
@[simp] noncomputable def SV.toD:SV->D
 | .fz d=>d
 | .ol xs=>.lst xs
 | .oK ks vs=>.dK ks vs
 | .oT ks vs=>.dT ks vs
 | .oN ks xss=>.dK ks (xss.map D.lst)
 | .oL _ xss=>.lst (xss.map D.lst)
 | .oQ _ ks vs=>.dK ks vs
 | .oX ks xss=>.dX ks (xss.map D.lst)
 | .oD dss=>.lst (dss.map fun p=>.dK p.1 p.2)
 | .oM ks vs=>.dX ks vs
 | .oR _ ks xss=>.dK ks (xss.map D.lst)
 | .oG _ t=>t.toD
noncomputable abbrev Zg:=List (Addr×HO)
inductive Kids(K:PySem.W.Frag)(F:Hp):List (List D)->List V->Zg->Prop where
 |nil:Kids K F [] [] []
 |cons {xs:List D} {xss:List (List D)} {b:Addr} {vs:List V} {ws:List V} {ns:Zg} (r:Reps K F xs vs) (t:Kids K F xss ws ns):Kids K F (xs::xss) (.ref b::ws) ((b,.lst vs)::ns)
inductive KidD(K:PySem.W.Frag)(F:Hp):List (List Key×List D)->List V->Zg->Prop where
 |nil:KidD K F [] [] []
 |cons {ds:List D} {dss:List (List Key×List D)} {b:Addr} {kvs:List (Key×V)} {ep:Nat} {ws:List V} {ns:Zg} (r:Reps K F ds (kvs.map (·.2))) (t:KidD K F dss ws ns):KidD K F ((kvs.map (·.1),ds)::dss) (.ref b::ws) ((b,.dK kvs ep)::ns)
mutual
inductive TrOk(K:PySem.W.Frag)(F:Hp):Tr->V->Zg->Prop where
 |lf {d:D} {v:V} (h:Rep K F d v):TrOk K F (.lf d) v []
 |dc {a:Addr} {ks:List Key} {ts:List Tr} {kvs:List (Key×V)} {ns:Zg} {ep:Nat} (nd:ks.Nodup) (e:kvs.map (·.1)=ks) (r:TrsOk K F ts (kvs.map (·.2)) ns):TrOk K F (.dc ks ts) (.ref a) ((a,.dK kvs ep)::ns)
 |tp {a:Addr} {ts:List Tr} {vs:List V} {ns:Zg} (h:F a=some (.tup vs)) (r:TrsOk K F ts vs ns):TrOk K F (.tp ts) (.ref a) ns
 |ls {a:Addr} {ts:List Tr} {vs:List V} {ns:Zg} (r:TrsOk K F ts vs ns):TrOk K F (.ls ts) (.ref a) ((a,.lst vs)::ns)
 |ob {a C dx:Addr} {c:Str} {fs:List Str} {ts:List Tr} {fvs:List (Str×V)} {ns:Zg} (cl:Yf K c C) (e:fvs.map (·.1)=fs) (r:TrsOk K F ts (fvs.map (·.2)) ns):TrOk K F (.ob c fs ts) (.ref a) ((a,.ins C dx fvs)::ns)
inductive TrsOk(K:PySem.W.Frag)(F:Hp):List Tr->List V->Zg->Prop where
 |nil:TrsOk K F [] [] []
 |cons {t:Tr} {v:V} {ts:List Tr} {vs:List V} {n1 n2:Zg} (h:TrOk K F t v n1) (r:TrsOk K F ts vs n2):TrsOk K F (t::ts) (v::vs) (n1++n2)
end
inductive Shape(K:PySem.W.Frag)(F:Hp):SV->V->Zg->Prop where
 |fz {d:D} {v:V} (h:Rep K F d v):Shape K F (.fz d) v []
 |ol {a:Addr} {xs:List D} {vs:List V} (r:Reps K F xs vs):Shape K F (.ol xs) (.ref a) [(a,.lst vs)]
 |oK {a:Addr} {ks:List Key} {ds:List D} {kvs:List (Key×V)} {ep:Nat} (e:kvs.map (·.1)=ks) (r:Reps K F ds (kvs.map (·.2))):Shape K F (.oK ks ds) (.ref a) [(a,.dK kvs ep)]
 |oT {a:Addr} {ks:List (List Key)} {ds:List D} {kvs:List (List Key×V)} {ep:Nat} {bs:List Addr} (kb:KB F kvs bs) (e:kvs.map (·.1)=ks) (r:Reps K F ds (kvs.map (·.2))):Shape K F (.oT ks ds) (.ref a) [(a,.dT kvs ep bs)]
 |oN {a:Addr} {ks:List Key} {xss:List (List D)} {kvs:List (Key×V)} {ns:Zg} {ep:Nat} (e:kvs.map (·.1)=ks) (r:Kids K F xss (kvs.map (·.2)) ns):Shape K F (.oN ks xss) (.ref a) ((a,.dK kvs ep)::ns)
 |oR {a:Addr} {ks:List Key} {xss:List (List D)} {kvs:List (Key×V)} {ns:Zg} {ep:Nat} (e:kvs.map (·.1)=ks) (r:Kids K F xss (kvs.map (·.2)) ns):Shape K F (.oR a ks xss) (.ref a) ((a,.dK kvs ep)::ns)
 |oL {pin:Option Addr} {a:Addr} {xss:List (List D)} {ws:List V} {ns:Zg} (hp:∀b,pin=some b->b=a) (r:Kids K F xss ws ns):Shape K F (.oL pin xss) (.ref a) ((a,.lst ws)::ns)
 |oQ {a:Addr} {ks:List Key} {ds:List D} {kvs:List (Key×V)} {ep:Nat} (e:kvs.map (·.1)=ks) (r:Reps K F ds (kvs.map (·.2))):Shape K F (.oQ a ks ds) (.ref a) [(a,.dK kvs ep)]
 |oX {a:Addr} {ks:List Wn} {xss:List (List D)} {kvs:List (Wn×V)} {ns:Zg} {ep:Nat} {bs:List Addr} (kb:KN F kvs bs) (e:kvs.map (·.1)=ks) (r:Kids K F xss (kvs.map (·.2)) ns):Shape K F (.oX ks xss) (.ref a) ((a,.dN kvs ep bs)::ns)
 |oD {a:Addr} {dss:List (List Key×List D)} {ws:List V} {ns:Zg} (r:KidD K F dss ws ns):Shape K F (.oD dss) (.ref a) ((a,.lst ws)::ns)
 |oM {a:Addr} {ks:List Wn} {ds:List D} {kvs:List (Wn×V)} {ep:Nat} {bs:List Addr} (kb:KN F kvs bs) (e:kvs.map (·.1)=ks) (r:Reps K F ds (kvs.map (·.2))):Shape K F (.oM ks ds) (.ref a) [(a,.dN kvs ep bs)]
 |oG {pin:Option Addr} {t:Tr} {v:V} {ns:Zg} (hp:∀b,pin=some b->v= .ref b) (r:TrOk K F t v ns):Shape K F (.oG pin t) v ns
theorem TrOk.mono{F F':Hp}(s:Zh F F'){t:Tr}{v:V}{ns:Zg}(h:TrOk K F t v ns):TrOk K F' t v ns:=
 TrOk.rec (motive_1:=fun t v ns _=>TrOk K F' t v ns) (motive_2:=fun ts vs ns _=>TrsOk K F' ts vs ns) (fun h=>.lf (h.mono s)) (fun nd e _ r=>.dc nd e r) (fun h _ r=>.tp (s _ _ h) r) (fun _ r=>.ls r) (fun cl e _ r=>.ob cl e r) .nil (fun _ _ h r=>.cons h r) h
theorem TrsOk.mono{F F':Hp}(s:Zh F F'){ts:List Tr}{vs:List V}{ns:Zg}(h:TrsOk K F ts vs ns):TrsOk K F' ts vs ns:=
 TrsOk.rec (motive_1:=fun t v ns _=>TrOk K F' t v ns) (motive_2:=fun ts vs ns _=>TrsOk K F' ts vs ns) (fun h=>.lf (h.mono s)) (fun nd e _ r=>.dc nd e r) (fun h _ r=>.tp (s _ _ h) r) (fun _ r=>.ls r) (fun cl e _ r=>.ob cl e r) .nil (fun _ _ h r=>.cons h r) h
theorem TrOk.rep{F F':Hp}(s:Zh F F'){t:Tr}{v:V}{ns:Zg}(h:TrOk K F t v ns):(∀p∈ns,F' p.1=some p.2)->Rep K F' t.toD v:=
 TrOk.rec (motive_1:=fun t v ns _=>(∀p∈ns,F' p.1=some p.2)->Rep K F' t.toD v) (motive_2:=fun ts vs ns _=>(∀p∈ns,F' p.1=some p.2)->Reps K F' (Tr.toDs ts) vs) (fun h _=>h.mono s) (fun _ e _ r q=>.dK (q _ List.mem_cons_self) e (r fun p hp=>q p (List.mem_cons_of_mem _ hp))) (fun h _ r q=>.tup (s _ _ h) (r q))
  (fun _ r q=>.lst (.inl (.inl (q _ List.mem_cons_self))) (.inl (q _ List.mem_cons_self)) (r fun p hp=>q p (List.mem_cons_of_mem _ hp))) (fun cl e _ r q=>.ob cl (q _ List.mem_cons_self) e (r fun p hp=>q p (List.mem_cons_of_mem _ hp))) (fun _=>.nil) (fun _ _ h r q=>.cons (h fun p hp=>q p (List.mem_append_left _ hp)) (r fun p hp=>q p (List.mem_append_right _ hp))) h
theorem KidD.mono{F F':Hp}(s:Zh F F'):∀{dss:List (List Key×List D)} {ws:List V} {ns:Zg},KidD K F dss ws ns->KidD K F' dss ws ns
 |_,_,_,.nil=>.nil
 |_,_,_,.cons r t=>.cons (r.mono s) (t.mono s)
theorem Kids.mono{F F':Hp}(s:Zh F F'){xss:List (List D)}{ws:List V}{ns:Zg}(h:Kids K F xss ws ns):Kids K F' xss ws ns:=by
 induction h with
 |nil=>exact .nil
 |cons r _ ih=>exact .cons (r.mono s) ih
theorem Shape.mono{F F':Hp}(s:Zh F F'){sv:SV}{v:V}{ns:Zg}(h:Shape K F sv v ns):Shape K F' sv v ns:=by
 cases h with
 |fz h=>exact .fz (h.mono s)
 |ol r=>exact .ol (r.mono s)
 |oK e r=>exact .oK e (r.mono s)
 |oT kb e r=>exact .oT (kb.mono s) e (r.mono s)
 |oN e r=>exact .oN e (r.mono s)
 |oR e r=>exact .oR e (r.mono s)
 |oG hp r=>exact .oG hp (r.mono s)
 |oL hp r=>exact .oL hp (r.mono s)
 |oQ e r=>exact .oQ e (r.mono s)
 |oX kb e r=>exact .oX (kb.mono s) e (r.mono s)
 |oD r=>exact .oD (r.mono s)
 |oM kb e r=>exact .oM (kb.mono s) e (r.mono s)
noncomputable def Qa(F:Hp):Zg->Hp
 | []=>F
 |p::r=>Ys (Qa F r) p.1 p.2
noncomputable abbrev Yi(ns:Zg):List Addr:=ns.map (·.1)
theorem Q9{F:Hp}{b:Addr}:∀{ns:Zg},b∉Yi ns->Qa F ns b=F b
 | [],_=>rfl
 |p::r,h=>by
  have h1:b≠p.1:=fun e=>h (by rw[e];exact List.mem_cons_self)
  have h2:b∉Yi r:=fun e=>h (List.mem_cons_of_mem _ e)
  show Ys (Qa F r) p.1 p.2 b=F b
  rw[Zl h1,Q9 h2]
theorem B8{F:Hp}{p:Addr×HO}:∀{ns:Zg},(Yi ns).Nodup->p∈ns->Qa F ns p.1=some p.2
 | [],_,h=>nomatch h
 |q::r,nd,h=>by
  obtain⟨n1,n2⟩:=List.nodup_cons.mp nd
  show Ys (Qa F r) q.1 q.2 p.1=some p.2
  rcases List.mem_cons.mp h with e|e
  ·subst e;exact Zu
  ·rw[Zl fun z=>n1 (List.mem_map.mpr ⟨p,e,z⟩)]
   exact B8 n2 e
theorem Wo{F:Hp}{ns:Zg}(h:∀p∈ns,F p.1=none):Zh F (Qa F ns):=fun b o e=>by
 by_cases hb:b∈Yi ns
 ·obtain⟨p,hp,ep⟩:=List.mem_map.mp hb
  subst ep
  rw[h p hp]at e;cases e
 ·rw[Q9 hb];exact e
theorem N0{F H:Hp}{ns:Zg}(nd:(Yi ns).Nodup)(le:Zh F H)(h:∀p∈ns,H p.1=some p.2):Zh (Qa F ns) H:=fun b o e=>by
 by_cases hb:b∈Yi ns
 ·obtain⟨p,hp,ep⟩:=List.mem_map.mp hb
  subst ep
  rw[B8 nd hp]at e
  cases e
  exact h p hp
 ·rw[Q9 hb]at e;exact le b o e
theorem Ih{Z:Hp×Hp}{F:Hp}{ns:Zg}(nd:(Yi ns).Nodup)(fro:∀(b:Addr) (o:HO),F b=some o->Z.2 b=some o\/Z.1 b=none)(hz:∀p∈ns,Z.1 p.1=none):∀(b:Addr) (o:HO),Qa F ns b=some o->Z.2 b=some o\/Z.1 b=none:=fun b o e=>by
 by_cases hb:b∈Yi ns
 ·obtain⟨p,hp,ep⟩:=List.mem_map.mp hb
  subst ep
  exact .inr (hz p hp)
 ·rw[Q9 hb]at e;exact fro b o e
theorem Kids.rep{F F':Hp}(s:Zh F F'):∀{xss:List (List D)} {ws:List V} {ns:Zg},Kids K F xss ws ns->(∀p∈ns,F' p.1=some p.2)->Reps K F' (xss.map D.lst) ws
 |_,_,_,.nil,_=>.nil
 |_,_,_,.cons r t,h=>.cons (.lst (.inl (.inl (h _ List.mem_cons_self))) (.inl (h _ List.mem_cons_self)) (r.mono s)) (t.rep s fun p hp=>h p (List.mem_cons_of_mem _ hp))
theorem KidD.rep{F F':Hp}(s:Zh F F'):∀{dss:List (List Key×List D)} {ws:List V} {ns:Zg},KidD K F dss ws ns->(∀p∈ns,F' p.1=some p.2)->Reps K F' (dss.map fun p=>.dK p.1 p.2) ws
 |_,_,_,.nil,_=>.nil
 |_,_,_,.cons r t,h=>.cons (.dK (h _ List.mem_cons_self) rfl (r.mono s)) (t.rep s fun p hp=>h p (List.mem_cons_of_mem _ hp))
theorem Shape.rep{F:Hp}{sv:SV}{v:V}{ns:Zg}(h:Shape K F sv v ns)(nd:(Yi ns).Nodup)(hn:∀p∈ns,F p.1=none):Rep K (Qa F ns) sv.toD v:=by
 have s:=Wo hn
 have a:∀p∈ns,Qa F ns p.1=some p.2:=fun p hp=>B8 nd hp
 cases h with
 |fz h=>exact h
 |ol r=>exact .lst (.inl (.inl (a (_,_) List.mem_cons_self))) (.inl (a (_,_) List.mem_cons_self)) (r.mono s)
 |oK e r=>exact .dK (a (_,_) List.mem_cons_self) e (r.mono s)
 |oT kb e r=>exact .dT (a (_,_) List.mem_cons_self) (kb.mono s) e (r.mono s)
 |oN e r=>exact .dK (a (_,_) List.mem_cons_self) e (r.rep s fun p hp=>a p (List.mem_cons_of_mem _ hp))
 |oR e r=>exact .dK (a (_,_) List.mem_cons_self) e (r.rep s fun p hp=>a p (List.mem_cons_of_mem _ hp))
 |oG hp r=>exact r.rep s a
 |oL _ r=>exact .lst (.inl (.inl (a (_,_) List.mem_cons_self))) (.inl (a (_,_) List.mem_cons_self)) (r.rep s fun p hp=>a p (List.mem_cons_of_mem _ hp))
 |oQ e r=>exact .dK (a (_,_) List.mem_cons_self) e (r.mono s)
 |oX kb e r=>exact .dX (a (_,_) List.mem_cons_self) (kb.mono s) e (r.rep s fun p hp=>a p (List.mem_cons_of_mem _ hp))
 |oD r=>exact .lst (.inl (.inl (a (_,_) List.mem_cons_self))) (.inl (a (_,_) List.mem_cons_self)) (r.rep s fun p hp=>a p (List.mem_cons_of_mem _ hp))
 |oM kb e r=>exact .dX (a (_,_) List.mem_cons_self) (kb.mono s) e (r.mono s)
noncomputable abbrev Ya:=List (Option SV)
set_option genInjectivity false in
structure Ent(K:PySem.W.Frag)where
 h:Hp
 f:Hp
 x:Ib
noncomputable abbrev ent(H F:Hp):Ent K:=⟨H,F,fun _ _ _ _=>False⟩
set_option genInjectivity false in
structure Exn where
 c:Str
 ks:List Str:=[]
 vs:List D:=[]
noncomputable def A4(K:PySem.W.Frag)(F:Hp)(e:Exn)(cls:Value)(od:Option Addr):Prop:=∃C,Yf K e.c C/\cls= .ref C/\match od with
 |none=>e.ks=[]/\e.vs=[]
 |some dx=>∃fs:List (Str×V),F dx=some (.xd fs)/\fs.map (·.1)=e.ks/\Reps K F e.vs (fs.map (·.2))
structure SR(Z:Ent K)(F H:Hp)(σ:St)(δ:Ya)(own:Nat->Zg):Prop where
 le:Zh F H
 fro:∀(b:Addr) (o:HO),F b=some o->Z.f b=some o\/Z.h b=none
 old:Zh Z.h H
 len:σ.length=δ.length
 at':∀(i:Nat) (sv:SV),δ[i]? =some (some sv)->∃v,σ[i]? =some (some v)/\Shape K F sv v (own i)
 nod:∀i:Nat,(Yi (own i)).Nodup
 ok:∀(i:Nat) (p:Addr×HO),p∈own i->F p.1=none/\Z.h p.1=none/\H p.1=some p.2
 sep:∀(i j:Nat) (p q:Addr×HO),i≠j->p∈own i->q∈own j->p.1≠q.1
inductive RV where
 |tmp (sv:SV)|bw (i:Nat)
structure TmpOk(Z:Ent K)(F H:Hp)(own:Nat->Zg)(sv:SV)(v:V)(ns:Zg):Prop where
 sh:Shape K F sv v ns
 nd:(Yi ns).Nodup
 ok:∀p∈ns,F p.1=none/\Z.h p.1=none/\H p.1=some p.2
 sep:∀(i:Nat) (p q:Addr×HO),p∈ns->q∈own i->p.1≠q.1
noncomputable def Tp(Z:Ent K)(F H:Hp)(σ:St)(own:Nat->Zg):RV->V->Prop
 | .tmp sv,v=>∃ns,TmpOk Z F H own sv v ns
 | .bw i,v=>σ[i]? =some (some v)
theorem TmpOk.fz{Z:Ent K}{F H:Hp}{own:Nat->Zg}{d:D}{v:V}(h:Rep K F d v):TmpOk Z F H own (.fz d) v []:=
 ⟨.fz h,List.nodup_nil,fun _ h=>(nomatch h),fun _ _ _ h=>(nomatch h)⟩
theorem Wg{H:Hp}{p:Addr}{o:HO}(h:H p=none):Zh H (Ys H p o):=fun b u e=>by
 rw[Zl fun z=>by rw[z,h]at e;cases e];exact e
theorem SR.grow{Z:Ent K}{F H H':Hp}{σ:St}{δ:Ya}{own:Nat->Zg}(s:SR Z F H σ δ own)(h:Zh H H'):SR Z F H' σ δ own:=
 ⟨s.le.trans h,s.fro,s.old.trans h,s.len,s.at',s.nod,fun i p hp=>let⟨a,b,c⟩:=s.ok i p hp;⟨a,b,h _ _ c⟩,s.sep⟩
theorem SR.addF{Z:Ent K}{F H:Hp}{σ:St}{δ:Ya}{own:Nat->Zg}{ns:Zg}(s:SR Z F H σ δ own)(nd:(Yi ns).Nodup)(hn:∀p∈ns,F p.1=none)(hH:∀p∈ns,H p.1=some p.2)(hz:∀p∈ns,Z.h p.1=none)
  (hs:∀(i:Nat) (p q:Addr×HO),p∈ns->q∈own i->p.1≠q.1):SR Z (Qa F ns) H σ δ own:=by
 have sm:=Wo hn
 refine⟨N0 nd s.le hH,Ih (Z:=(Z.h,Z.f)) nd s.fro hz,s.old,s.len,fun i sv e=>?_,s.nod,fun i p hp=>?_,s.sep⟩
 ·obtain⟨v,h1,h2⟩:=s.at' i sv e
  exact⟨v,h1,h2.mono sm⟩
 ·obtain⟨a,b,c⟩:=s.ok i p hp
  refine⟨?_,b,c⟩
  rw[Q9 fun hb=>?_]
  ·exact a
  ·obtain⟨q,hq,e⟩:=List.mem_map.mp hb
   exact hs i q p hq hp e
theorem SR.settle{Z:Ent K}{F H:Hp}{σ:St}{δ:Ya}{own:Nat->Zg}{sv:SV}{v:V}{ns:Zg}(s:SR Z F H σ δ own)(t:TmpOk Z F H own sv v ns):
  ∃F1,Zh F F1/\SR Z F1 H σ δ own/\Rep K F1 sv.toD v:=
 ⟨Qa F ns,Wo fun p hp=>(t.ok p hp).1,s.addF t.nd (fun p hp=>(t.ok p hp).1) (fun p hp=>(t.ok p hp).2.2) (fun p hp=>(t.ok p hp).2.1) t.sep,t.sh.rep t.nd fun p hp=>(t.ok p hp).1⟩
noncomputable def put(own:Nat->Zg)(i:Nat)(ns:Zg):Nat->Zg:=fun j=>if j=i then ns else own j
theorem Zy{own:Nat->Zg}{i:Nat}{ns:Zg}:put own i ns i=ns:=if_pos rfl
theorem Z4{own:Nat->Zg}{i j:Nat}{ns:Zg}(h:j≠i):put own i ns j=own j:=if_neg h
theorem SR.freeze{Z:Ent K}{F H:Hp}{σ:St}{δ:Ya}{own:Nat->Zg}{i:Nat}{sv:SV}(s:SR Z F H σ δ own)(e:δ[i]? =some (some sv)):
  ∃F1 v,Zh F F1/\σ[i]? =some (some v)/\Rep K F1 sv.toD v/\SR Z F1 H σ (δ.set i (some (.fz sv.toD))) (put own i []):=by
 obtain⟨v,h1,h2⟩:=s.at' i sv e
 have hn:∀p∈own i,F p.1=none:=fun p hp=>(s.ok i p hp).1
 have sm:=Wo hn
 have hi:i<δ.length:=(List.getElem?_eq_some_iff.mp e).1
 refine⟨Qa F (own i),v,sm,h1,h2.rep (s.nod i) hn,⟨N0 (s.nod i) s.le fun p hp=>(s.ok i p hp).2.2,Ih (Z:=(Z.h,Z.f)) (s.nod i) s.fro fun p hp=>(s.ok i p hp).2.1,s.old,by rw[List.length_set];exact s.len,fun j sw ej=>?_,fun j=>?_,fun j p hp=>?_,fun j k p q hjk hp hq=>?_⟩⟩
 ·by_cases hj:j=i
  ·subst hj
   rw[List.getElem?_set_self hi]at ej
   cases ej
   rw[Zy]
   exact⟨v,h1,.fz (h2.rep (s.nod j) hn)⟩
  ·rw[List.getElem?_set_ne (Ne.symm hj)]at ej
   obtain⟨w,g1,g2⟩:=s.at' j sw ej
   rw[Z4 hj]
   exact⟨w,g1,g2.mono sm⟩
 ·by_cases hj:j=i
  ·subst hj;rw[Zy];exact List.nodup_nil
  ·rw[Z4 hj];exact s.nod j
 ·by_cases hj:j=i
  ·subst hj;rw[Zy]at hp;exact nomatch hp
  ·rw[Z4 hj]at hp
   obtain⟨a,b,c⟩:=s.ok j p hp
   refine⟨?_,b,c⟩
   rw[Q9 fun hb=>?_]
   ·exact a
   ·obtain⟨q,hq,z⟩:=List.mem_map.mp hb
    exact s.sep i j q p (Ne.symm hj) hq hp z
 ·by_cases hj:j=i
  ·subst hj;rw[Zy]at hp;exact nomatch hp
  ·by_cases hk:k=i
   ·subst hk;rw[Zy]at hq;exact nomatch hq
   ·rw[Z4 hj]at hp
    rw[Z4 hk]at hq
    exact s.sep j k p q hjk hp hq
theorem SR.store{Z:Ent K}{F H:Hp}{σ:St}{δ:Ya}{own:Nat->Zg}{i:Nat}{sv:SV}{v:V}{ns:Zg}(s:SR Z F H σ δ own)(t:TmpOk Z F H own sv v ns)(hi:i<σ.length):
  SR Z F H (σ.set i (some v)) (δ.set i (some sv)) (put own i ns):=by
 refine⟨s.le,s.fro,s.old,by rw[List.length_set,List.length_set];exact s.len,fun j sw ej=>?_,fun j=>?_,fun j p hp=>?_,fun j k p q hjk hp hq=>?_⟩
 ·by_cases hj:j=i
  ·subst hj
   have hd:j<δ.length:=by
    have:=(List.getElem?_eq_some_iff.mp ej).1
    simpa using this
   rw[List.getElem?_set_self hd]at ej
   cases ej
   rw[Zy,List.getElem?_set_self hi]
   exact⟨v,rfl,t.sh⟩
  ·rw[List.getElem?_set_ne (Ne.symm hj)]at ej
   rw[Z4 hj,List.getElem?_set_ne (Ne.symm hj)]
   exact s.at' j sw ej
 ·by_cases hj:j=i
  ·subst hj;rw[Zy];exact t.nd
  ·rw[Z4 hj];exact s.nod j
 ·by_cases hj:j=i
  ·subst hj;rw[Zy]at hp;exact t.ok p hp
  ·rw[Z4 hj]at hp;exact s.ok j p hp
 ·by_cases hj:j=i
  ·subst hj
   rw[Zy]at hp
   rw[Z4 (Ne.symm hjk)]at hq
   exact t.sep k p q hp hq
  ·by_cases hk:k=i
   ·subst hk
    rw[Zy]at hq
    rw[Z4 hj]at hp
    exact Ne.symm (t.sep j q p hq hp)
   ·rw[Z4 hj]at hp
    rw[Z4 hk]at hq
    exact s.sep j k p q hjk hp hq
theorem SR.change{Z:Ent K}{F H:Hp}{σ:St}{δ:Ya}{own:Nat->Zg}{i:Nat}{sv sv':SV}{a:Addr}{o o':HO}{v:V}{ns':Zg}(s:SR Z F H σ δ own)(e:δ[i]? =some (some sv))(hv:σ[i]? =some (some v))
  (ha:(a,o)∈own i) (hs:Shape K F sv' v ns') (hns:∀p∈ns',p=(a,o')\/(p∈own i/\p.1≠a)) (nd:(Yi ns').Nodup):SR Z F (Ys H a o') σ (δ.set i (some sv')) (put own i ns'):=by
 obtain⟨fa,ha0,hHa⟩:=s.ok i (a,o) ha
 have hi:i<δ.length:=(List.getElem?_eq_some_iff.mp e).1
 refine⟨fun b u eb=>?_,s.fro,fun b u eb=>?_,by rw[List.length_set];exact s.len,fun j sw ej=>?_,fun j=>?_,fun j p hp=>?_,fun j k p q hjk hp hq=>?_⟩
 ·rw[Zl fun z=>by rw[z]at eb;rw[fa]at eb;cases eb];exact s.le b u eb
 ·rw[Zl fun z=>by rw[z]at eb;rw[ha0]at eb;cases eb];exact s.old b u eb
 ·by_cases hj:j=i
  ·subst hj
   rw[List.getElem?_set_self hi]at ej
   cases ej
   rw[Zy]
   exact⟨v,hv,hs⟩
  ·rw[List.getElem?_set_ne (Ne.symm hj)]at ej
   rw[Z4 hj]
   exact s.at' j sw ej
 ·by_cases hj:j=i
  ·subst hj;rw[Zy];exact nd
  ·rw[Z4 hj];exact s.nod j
 ·by_cases hj:j=i
  ·subst hj
   rw[Zy]at hp
   rcases hns p hp with z|⟨z,ne⟩
   ·subst z;exact⟨fa,ha0,Zu⟩
   ·obtain⟨x,y,w⟩:=s.ok j p z
    exact⟨x,y,by rw[Zl ne];exact w⟩
  ·rw[Z4 hj]at hp
   obtain⟨x,y,w⟩:=s.ok j p hp
   exact⟨x,y,by rw[Zl (s.sep j i p (a,o) hj hp ha)];exact w⟩
 ·have own':∀r∈ns',∃r'∈own i,r.1=r'.1:=fun r hr=>by
   rcases hns r hr with z|⟨z,_⟩
   ·subst z;exact⟨(a,o),ha,rfl⟩
   ·exact⟨r,z,rfl⟩
  by_cases hj:j=i
  ·subst hj
   rw[Zy]at hp
   rw[Z4 (Ne.symm hjk)]at hq
   obtain⟨r',hr',er⟩:=own' p hp
   rw[er]
   exact s.sep j k r' q hjk hr' hq
  ·by_cases hk:k=i
   ·subst hk
    rw[Zy]at hq
    rw[Z4 hj]at hp
    obtain⟨r',hr',er⟩:=own' q hq
    rw[er]
    exact s.sep j k p r' hjk hp hr'
   ·rw[Z4 hj]at hp
    rw[Z4 hk]at hq
    exact s.sep j k p q hjk hp hq
end DL
namespace DL
open PySem L2
variable{K:PySem.W.Frag}
noncomputable abbrev FE:=Ya->Option (RV×Ya)
noncomputable abbrev FT:=Ya->Option (Bool×Ya)
noncomputable abbrev FA:=Ya->Option (List RV×Ya)
noncomputable abbrev FD:=Ya->Option (List D×Ya)
@[simp] noncomputable def SV.nested:SV->Bool
 | .oN _ _=>true
 | .oR _ _ _=>true
 | .oG _ _=>true
 | .oL _ _=>true
 | .oX _ _=>true
 | .oD _=>true
 | .oM _ _=>true
 |_=>false
@[simp] noncomputable def N1:RV->Ya->Option D
 | .tmp sv,_=>some sv.toD
 | .bw i,δ=>(δ[i]?.join).bind fun sv=>if sv.nested then none else some sv.toD
@[simp] noncomputable def frz:RV->Ya->Option (D×Ya)
 | .tmp sv,δ=>some (sv.toD,δ)
 | .bw i,δ=>(δ[i]?.join).bind fun sv=>some (sv.toD,δ.set i (some (.fz sv.toD)))
theorem Ud{δ:Ya}{i:Nat}{sv:SV}(h:δ[i]?.join=some sv):δ[i]? =some (some sv):=by
 cases e:δ[i]? with
 |none=>rw[e]at h;cases h
 |some o=>rw[e]at h;cases o with
  |none=>cases h
  |some s=>cases h;rfl
noncomputable def Zb(Z:Ent K)(f:FE):TE:=fun σ H Q=>∃F δ own rv δ',SR Z F H σ δ own/\f δ=some (rv,δ')/\
 ∀v H' F' own',Zh H H'->Zh F F'->SR Z F' H' σ δ' own'->Tp Z F' H' σ own' rv v->Q v H'
noncomputable def Z5(Z:Ent K)(f:FT):TT:=fun σ H Q=>∃F δ own b δ',SR Z F H σ δ own/\f δ=some (b,δ')/\
 ∀H' F' own',Zh H H'->Zh F F'->SR Z F' H' σ δ' own'->Q b H'
noncomputable def RVS(K:PySem.W.Frag)(F:Hp)(σ:St):RV->V->Prop
 | .tmp sv,v=>Rep K F sv.toD v
 | .bw i,v=>σ[i]? =some (some v)
inductive RVSs(K:PySem.W.Frag)(F:Hp)(σ:St):List RV->List V->Prop where
 |nil:RVSs K F σ [] []
 |cons {rv:RV} {v:V} {rvs:List RV} {vs:List V} (h:RVS K F σ rv v) (t:RVSs K F σ rvs vs):RVSs K F σ (rv::rvs) (v::vs)
noncomputable def Jo(Z:Ent K)(f:FA):TA:=fun σ H Q=>∃F δ own rvs δ',SR Z F H σ δ own/\f δ=some (rvs,δ')/\
 ∀vs H' F' own',Zh H H'->Zh F F'->SR Z F' H' σ δ' own'->RVSs K F' σ rvs vs->Q vs H'
noncomputable def Wd(Z:Ent K)(f:FD):TA:=fun σ H Q=>∃F δ own ds δ',SR Z F H σ δ own/\f δ=some (ds,δ')/\
 ∀vs H' F' own',Zh H H'->Zh F F'->SR Z F' H' σ δ' own'->Reps K F' ds vs->Q vs H'
section
variable{Z:Ent K}{F H F' H':Hp}{σ:St}{δ δ':Ya}{own:Nat->Zg}{rv:RV}{v:V}{d:D}{Q:VK}
theorem RVS.mono(s:Zh F F')(h:RVS K F σ rv v):RVS K F' σ rv v:=by
 cases rv with
 |tmp sv=>exact Rep.mono s h
 |bw i=>exact h
theorem SR.settleR(s:SR Z F H σ δ own)(h:Tp Z F H σ own rv v):∃F1,Zh F F1/\SR Z F1 H σ δ own/\RVS K F1 σ rv v:=by
 cases rv with
 |tmp sv=>obtain⟨ns,t⟩:=h;exact s.settle t
 |bw i=>exact⟨F,Zh.refl F,s,h⟩
theorem SR.frzR(s:SR Z F H σ δ own)(h:RVS K F σ rv v)(e:frz rv δ=some (d,δ')):∃F1 own1,Zh F F1/\SR Z F1 H σ δ' own1/\Rep K F1 d v:=by
 cases rv with
 |tmp sv=>cases e;exact⟨F,own,Zh.refl F,s,h⟩
 |bw i=>
  refine bnd1 e fun sv e1 e2=>?_
  cases e2
  obtain⟨F1,w,h1,h2,h3,h4⟩:=s.freeze (Ud e1)
  have h':σ[i]? =some (some v):=h
  rw[h']at h2;cases h2
  exact⟨F1,_,h1,h4,h3⟩
noncomputable def Yc(K:PySem.W.Frag)(F H:Hp)(d:D)(v:V):Prop:=∃sv ns,sv.toD=d/\sv.nested=false/\Shape K F sv v ns/\∀p∈ns,H p.1=some p.2
theorem Yc.of(h:Rep K F d v):Yc K F H d v:=⟨.fz d,[],rfl,rfl,.fz h,fun _ h=>nomatch h⟩
theorem SR.rd(s:SR Z F H σ δ own)(h:RVS K F σ rv v)(e:N1 rv δ=some d):Yc K F H d v:=by
 cases rv with
 |tmp sv=>cases e;exact Yc.of h
 |bw i=>
  refine bnd1 e fun sv e1 e2=>?_
  cases hn:sv.nested with
  |true=>rw[hn]at e2;cases e2
  |false=>
   rw[hn]at e2
   cases e2
   obtain⟨w,h1,h2⟩:=s.at' i sv (Ud e1)
   have h':σ[i]? =some (some v):=h
   rw[h']at h1;cases h1
   exact⟨sv,own i,rfl,hn,h2,fun p hp=>(s.ok i p hp).2.2⟩
inductive RepNs(K:PySem.W.Frag)(F H:Hp):List D->List V->Prop where
 |nil:RepNs K F H [] []
 |cons {d:D} {v:V} {ds:List D} {vs:List V} (h:Yc K F H d v) (t:RepNs K F H ds vs):RepNs K F H (d::ds) (v::vs)
theorem Yc.non(h:Yc K F H .non v):v= .non:=by
 obtain⟨sv,ns,e,n,sh,hp⟩:=h
 cases sh with
 |fz r=>cases e;cases r;rfl
 |ol r=>cases e
 |oK e' r=>cases e
 |oT kb e' r=>cases e
 |oN e' r=>cases n
 |oR e' r=>cases n
 |oG hp' r=>cases n
 |oX kb' e' r=>cases n
 |oD r=>cases n
 |oM kb' e' r=>cases n
 |oL _ r=>cases n
 |oQ e' r=>cases e
theorem Yc.bl{b:Bool}(h:Yc K F H (.bl b) v):v= .bl b:=by
 obtain⟨sv,ns,e,n,sh,hp⟩:=h
 cases sh with
 |fz r=>cases e;cases r;rfl
 |ol r=>cases e
 |oK e' r=>cases e
 |oT kb e' r=>cases e
 |oN e' r=>cases n
 |oR e' r=>cases n
 |oG hp' r=>cases n
 |oX kb' e' r=>cases n
 |oD r=>cases n
 |oM kb' e' r=>cases n
 |oL _ r=>cases n
 |oQ e' r=>cases e
theorem Yc.int{i:Int}(h:Yc K F H (.int i) v):v= .int i:=by
 obtain⟨sv,ns,e,n,sh,hp⟩:=h
 cases sh with
 |fz r=>cases e;cases r;rfl
 |ol r=>cases e
 |oK e' r=>cases e
 |oT kb e' r=>cases e
 |oN e' r=>cases n
 |oR e' r=>cases n
 |oG hp' r=>cases n
 |oX kb' e' r=>cases n
 |oD r=>cases n
 |oM kb' e' r=>cases n
 |oL _ r=>cases n
 |oQ e' r=>cases e
theorem Yc.str{x:Str}(h:Yc K F H (.str x) v):v= .str x:=by
 obtain⟨sv,ns,e,n,sh,hp⟩:=h
 cases sh with
 |fz r=>cases e;cases r;rfl
 |ol r=>cases e
 |oK e' r=>cases e
 |oT kb e' r=>cases e
 |oN e' r=>cases n
 |oR e' r=>cases n
 |oG hp' r=>cases n
 |oX kb' e' r=>cases n
 |oD r=>cases n
 |oM kb' e' r=>cases n
 |oL _ r=>cases n
 |oQ e' r=>cases e
theorem Yc.tup{xs:List D}(le:Zh F H)(h:Yc K F H (.tup xs) v):∃a vs,v= .ref a/\Mu K H a vs/\Reps K F xs vs:=by
 obtain⟨sv,ns,e,n,sh,hp⟩:=h
 cases sh with
 |fz r=>cases e;cases r with|tup h r=>exact⟨_,_,rfl,Qq le (Gj h),r⟩
 |ol r=>cases e
 |oK e' r=>cases e
 |oT kb e' r=>cases e
 |oN e' r=>cases n
 |oR e' r=>cases n
 |oG hp' r=>cases n
 |oX kb' e' r=>cases n
 |oD r=>cases n
 |oM kb' e' r=>cases n
 |oL _ r=>cases n
 |oQ e' r=>cases e
theorem Yc.lst{xs:List D}(le:Zh F H)(h:Yc K F H (.lst xs) v):∃a vs,v= .ref a/\Of K H a vs/\Reps K F xs vs:=by
 obtain⟨sv,ns,e,n,sh,hp⟩:=h
 cases sh with
 |fz r=>cases e;cases r with|lst h _ r=>exact⟨_,_,rfl,Wu le h,r⟩
 |ol r=>cases e;exact⟨_,_,rfl,.inl (.inl (hp _ List.mem_cons_self)),r⟩
 |oK e' r=>cases e
 |oT kb e' r=>cases e
 |oN e' r=>cases n
 |oR e' r=>cases n
 |oG hp' r=>cases n
 |oX kb' e' r=>cases n
 |oD r=>cases n
 |oM kb' e' r=>cases n
 |oL _ r=>cases n
 |oQ e' r=>cases e
theorem Yc.dK{ks:List Key}{ds:List D}(le:Zh F H)(h:Yc K F H (.dK ks ds) v):∃a kvs,v= .ref a/\HK H a kvs/\kvs.map (·.1)=ks/\Reps K F ds (kvs.map (·.2)):=by
 obtain⟨sv,ns,e,n,sh,hp⟩:=h
 cases sh with
 |fz r=>cases e;cases r with|dK h e r=>exact⟨_,_,rfl,⟨_,le _ _ h⟩,e,r⟩
 |ol r=>cases e
 |oK e' r=>cases e;exact⟨_,_,rfl,⟨_,hp _ List.mem_cons_self⟩,e',r⟩
 |oT kb e' r=>cases e
 |oN e' r=>cases n
 |oR e' r=>cases n
 |oG hp' r=>cases n
 |oX kb' e' r=>cases n
 |oD r=>cases n
 |oM kb' e' r=>cases n
 |oL _ r=>cases n
 |oQ e' r=>cases e;exact⟨_,_,rfl,⟨_,hp _ List.mem_cons_self⟩,e',r⟩
theorem Yc.dT{ks:List (List Key)}{ds:List D}(le:Zh F H)(h:Yc K F H (.dT ks ds) v):∃a kvs,v= .ref a/\HTt H a kvs/\kvs.map (·.1)=ks/\Reps K F ds (kvs.map (·.2)):=by
 obtain⟨sv,ns,e,n,sh,hp⟩:=h
 cases sh with
 |fz r=>cases e;cases r with|dT h kb e r=>exact⟨_,_,rfl,⟨_,_,le _ _ h⟩,e,r⟩
 |ol r=>cases e
 |oK e' r=>cases e
 |oT kb e' r=>cases e;exact⟨_,_,rfl,⟨_,_,hp _ List.mem_cons_self⟩,e',r⟩
 |oN e' r=>cases n
 |oR e' r=>cases n
 |oG hp' r=>cases n
 |oX kb' e' r=>cases n
 |oD r=>cases n
 |oM kb' e' r=>cases n
 |oL _ r=>cases n
 |oQ e' r=>cases e
end
theorem Tq{a:Addr}:([a]:List Addr).Nodup:=List.nodup_cons.mpr ⟨fun h=>(nomatch h),List.nodup_nil⟩
noncomputable def Ts(Z:Ent K)(F H:Hp)(σ:St)(δ:Ya)(own:Nat->Zg)(sv:SV)(Q:VK):Prop:=
 ∀v H' F' ns,Zh H H'->Zh F F'->SR Z F' H' σ δ own->TmpOk Z F' H' own sv v ns->Q v H'
section
variable{Z:Ent K}{F H:Hp}{σ:St}{δ:Ya}{own:Nat->Zg}{Q:VK}
theorem Ts.fz{d:D}{v:V}(f:Ts Z F H σ δ own (.fz d) Q)(s:SR Z F H σ δ own)(h:Rep K F d v):Q v H:=f v H F [] (Zh.refl H) (Zh.refl F) s (.fz h)
theorem Ts.one{sv:SV}{o:HO}{p:Addr}(f:Ts Z F H σ δ own sv Q)(s:SR Z F H σ δ own)(sh:Shape K F sv (.ref p) [(p,o)])(hp:H p=none):Q (.ref p) (Ys H p o):=by
 have sm:=Wg (o:=o) hp
 refine f (.ref p) (Ys H p o) F [(p,o)] sm (Zh.refl F) (s.grow sm) ⟨sh,Tq,fun q hq=>?_,fun i q r hq hr=>?_⟩
 ·obtain rfl:=List.mem_singleton.mp hq
  exact⟨s.le.free hp,s.old.free hp,Zu⟩
 ·obtain rfl:=List.mem_singleton.mp hq
  intro e
  have e':p=r.1:=e
  have z:=(s.ok i r hr).2.2
  rw[<-e',hp]at z;cases z
theorem Ts.lst{xs:List D}{vs:List V}{p:Addr}(f:Ts Z F H σ δ own (.ol xs) Q)(s:SR Z F H σ δ own)(r:Reps K F xs vs)(hp:H p=none):Q (.ref p) (Ys H p (.lst vs)):=f.one s (.ol r) hp
theorem Ts.tup{xs:List D}{vs:List V}{p:Addr}(f:Ts Z F H σ δ own (.fz (.tup xs)) Q)(s:SR Z F H σ δ own)(r:Reps K F xs vs)(hp:H p=none):Q (.ref p) (Ys H p (.tup vs)):=by
 have sm:=Wg (o:=.tup vs) hp
 have sF:Zh F (Qa F [(p,.tup vs)]):=Wo fun q hq=>by obtain rfl:=List.mem_singleton.mp hq;exact s.le.free hp
 refine f (.ref p) (Ys H p (.tup vs)) (Qa F [(p,.tup vs)]) [] sm sF ?_ (.fz (.tup Zu (r.mono sF)))
 refine(s.grow sm).addF (Tq) (fun q hq=>?_) (fun q hq=>?_) (fun q hq=>?_) fun i q u hq hu=>?_
 ·obtain rfl:=List.mem_singleton.mp hq;exact s.le.free hp
 ·obtain rfl:=List.mem_singleton.mp hq;exact Zu
 ·obtain rfl:=List.mem_singleton.mp hq;exact s.old.free hp
 ·obtain rfl:=List.mem_singleton.mp hq
  intro e
  have e':p=u.1:=e
  have z:=(s.ok i u hu).2.2
  rw[<-e',hp]at z;cases z
end
theorem Ja{F:Hp}{d:D}{v:V}{ns:Zg}(h:Shape K F (.fz d) v ns):Rep K F d v:=by
 cases h with
 |fz r=>exact r
section
variable{Z:Ent K}{H:Hp}{σ:St}{Q:VK}
@[simp] noncomputable def Za(i:Nat):FE:=fun δ=>match δ[i]? with
 |some (some (.fz d))=>some (.tmp (.fz d),δ)
 |some (some _)=>some (.bw i,δ)
 |_=>none
theorem Zmd{i:Nat}(h:Zb Z (Za i) σ H Q):Jg i σ H Q:=by
 obtain⟨F,δ,own,rv,δ',s,e,k⟩:=h
 unfold Za at e
 split at e
 ·rename_i d hd
  cases e
  obtain⟨v,h1,h2⟩:=s.at' i _ hd
  exact⟨v,h1,k v H F own (Zh.refl H) (Zh.refl F) s ⟨[],.fz (Ja h2)⟩⟩
 ·rename_i sv hsv hd
  cases e
  obtain⟨v,h1,h2⟩:=s.at' i _ hd
  exact⟨v,h1,k v H F own (Zh.refl H) (Zh.refl F) s h1⟩
 ·cases e
@[simp] noncomputable def Zd(d:D):FE:=fun δ=>some (.tmp (.fz d),δ)
theorem Oy{d:D}{v:V}(hr:∀F,Rep K F d v)(h:Zb Z (Zd d) σ H Q):tC v σ H Q:=by
 obtain⟨F,δ,own,rv,δ',s,e,k⟩:=h
 cases e
 exact k v H F own (Zh.refl H) (Zh.refl F) s ⟨[],.fz (hr F)⟩
@[simp] noncomputable def Zr:FA:=fun δ=>some ([],δ)
@[simp] noncomputable def Ze(fe:FE)(fa:FA):FA:=fun δ=>(fe δ).bind fun p=>(fa p.2).bind fun q=>some (p.1::q.1,q.2)
theorem D2{R:List V->Hp->Prop}(h:Jo Z Zr σ H R):Mv σ H R:=by
 obtain⟨F,δ,own,rvs,δ',s,e,k⟩:=h
 cases e
 exact k [] H F own (Zh.refl H) (Zh.refl F) s .nil
theorem Vp{fe:FE}{fa:FA}{R:List V->Hp->Prop}(h:Jo Z (Ze fe fa) σ H R):Q5 (Zb Z fe) (Jo Z fa) σ H R:=by
 obtain⟨F,δ,own,rvs,δ',s,e,k⟩:=h
 refine bnd2 e fun rv δ1 e1 e2=>?_
 refine bnd2 e2 fun rr δ2 e3 e4=>?_
 cases e4
 refine⟨F,δ,own,rv,δ1,s,e1,fun v H1 F1 own1 sH sF s1 r1=>?_⟩
 obtain⟨F2,sF2,s2,r2⟩:=s1.settleR r1
 exact⟨F2,δ1,own1,rr,δ2,s2,e3,fun vs H3 F3 own3 sH3 sF3 s3 r3=>k _ H3 F3 own3 (sH.trans sH3) (sF.trans (sF2.trans sF3)) s3 (.cons (r2.mono sF3) r3)⟩
@[simp] noncomputable def B9:List RV->Ya->Option (List D)
 | [],_=>some []
 |rv::r,δ=>(N1 rv δ).bind fun d=>(B9 r δ).bind fun ds=>some (d::ds)
theorem SR.rdAll{F:Hp}{δ:Ya}{own:Nat->Zg}(s:SR Z F H σ δ own):∀{rvs:List RV} {vs:List V} {ds:List D},RVSs K F σ rvs vs->B9 rvs δ=some ds->RepNs K F H ds vs
 |_,_,_,.nil,e=>by cases e;exact .nil
 |_,_,_,.cons h t,e=>by
  refine bnd1 e fun d e1 e2=>?_
  refine bnd1 e2 fun ds e3 e4=>?_
  cases e4
  exact .cons (s.rd h e1) (s.rdAll t e3)
@[simp] noncomputable def W6(g:List D->Option SV)(fa:FA):FE:=fun δ=>(fa δ).bind fun p=>(B9 p.1 p.2).bind fun ds=>(g ds).bind fun sv=>some (.tmp sv,p.2)
noncomputable def Gk(Z:Ent K)(r:List V->Hp->VK->Prop)(g:List D->Option SV):Prop:=
 ∀(F H:Hp) (σ:St) (δ:Ya) (own:Nat->Zg) (vs:List V) (ds:List D) (sv:SV) (Q:VK),SR Z F H σ δ own->RepNs K F H ds vs->g ds=some sv->Ts Z F H σ δ own sv Q->r vs H Q
theorem Le{r:List V->Hp->VK->Prop}{g:List D->Option SV}{fa:FA}(hg:Gk Z r g)(h:Zb Z (W6 g fa) σ H Q):tCB r (Jo Z fa) σ H Q:=by
 obtain⟨F,δ,own,rv,δ',s,e,k⟩:=h
 refine bnd2 e fun rvs δ1 e1 e2=>?_
 refine bnd1 e2 fun ds e3 e4=>?_
 refine bnd1 e4 fun sv e5 e6=>?_
 cases e6
 refine⟨F,δ,own,rvs,δ1,s,e1,fun vs H1 F1 own1 sH sF s1 r1=>?_⟩
 exact hg F1 H1 σ δ1 own1 vs ds sv Q s1 (s1.rdAll r1 e3) e5 fun v H2 F2 ns sH2 sF2 s2 t=>k v H2 F2 own1 (sH.trans sH2) (sF.trans sF2) s2 ⟨ns,t⟩
@[simp] noncomputable def g2(g:D->D->Option SV):List D->Option SV
 | [x,y]=>g x y
 |_=>none
@[simp] noncomputable def Zj(g:D->D->Option SV)(fa fb:FE):FE:=W6 (g2 g) (Ze fa (Ze fb Zr))
noncomputable def Yg(Z:Ent K)(r:R2)(g:D->D->Option SV):Prop:=
 ∀(F H:Hp) (σ:St) (δ:Ya) (own:Nat->Zg) (x y:V) (d1 d2:D) (sv:SV) (Q:VK),SR Z F H σ δ own->Yc K F H d1 x->Yc K F H d2 y->g d1 d2=some sv->Ts Z F H σ δ own sv Q->r x y H Q
theorem Ii{r:R2}{g:D->D->Option SV}{fa fb:FE}(hg:Yg Z r g)(h:Zb Z (Zj g fa fb) σ H Q):tOp r (Zb Z fa) (Zb Z fb) σ H Q:=by
 have hN:Gk Z (fun vs H Q=>∃x y,vs=[x,y]/\r x y H Q) (g2 g):=by
  intro F H σ δ own vs ds sv Q s rs e f
  cases rs with
  |nil=>cases e
  |cons h1 t1=>
   cases t1 with
   |nil=>cases e
   |cons h2 t2=>
    cases t2 with
    |nil=>exact⟨_,_,rfl,hg F H σ δ own _ _ _ _ sv Q s h1 h2 e f⟩
    |cons h3 t3=>cases e
 obtain⟨F,δ,own,rv,δ',s,e,k⟩:=Le hN h
 refine bnd2 e fun rv1 δ1 e1 e2=>?_
 refine bnd2 e2 fun rr δ2 e3 e4=>?_
 cases e4
 refine bnd2 e3 fun rv2 δ3 e5 e6=>?_
 refine bnd2 e6 fun rr' δ4 e7 e8=>?_
 cases e8
 cases e7
 refine⟨F,δ,own,rv1,δ1,s,e1,fun v H1 F1 own1 sH sF s1 r1=>?_⟩
 obtain⟨F2,sF2,s2,r2⟩:=s1.settleR r1
 refine⟨F2,δ1,own1,rv2,δ3,s2,e5,fun u H3 F3 own3 sH3 sF3 s3 r3=>?_⟩
 obtain⟨F4,sF4,s4,r4⟩:=s3.settleR r3
 obtain⟨x,y,exy,q⟩:=k [v,u] H3 F4 own3 (sH.trans sH3) (sF.trans (sF2.trans (sF3.trans sF4))) s4 (.cons (r2.mono (sF3.trans sF4)) (.cons r4 .nil))
 injection exy with ex ey
 injection ey with ey _
 subst ex ey
 exact q
@[simp] noncomputable def G7(g:D->Option SV)(fa:FE):FE:=W6 (fun| [x]=>g x|_=>none) (Ze fa Zr)
noncomputable def Ru(Z:Ent K)(r:V->Hp->VK->Prop)(g:D->Option SV):Prop:=
 ∀(F H:Hp) (σ:St) (δ:Ya) (own:Nat->Zg) (x:V) (d:D) (sv:SV) (Q:VK),SR Z F H σ δ own->Yc K F H d x->g d=some sv->Ts Z F H σ δ own sv Q->r x H Q
theorem Lf{r:V->Hp->VK->Prop}{g:D->Option SV}{fa:FE}(hg:Ru Z r g)(h:Zb Z (G7 g fa) σ H Q):tUn r (Zb Z fa) σ H Q:=by
 obtain⟨F,δ,own,rv,δ',s,e,k⟩:=h
 refine bnd2 e fun rvs δ1 e1 e2=>?_
 refine bnd1 e2 fun ds e3 e4=>?_
 refine bnd1 e4 fun sv e5 e6=>?_
 cases e6
 refine bnd2 e1 fun rv1 δ2 e7 e8=>?_
 refine bnd2 e8 fun rr' δ4 e9 e10=>?_
 cases e10
 cases e9
 refine bnd1 e3 fun d e11 e12=>?_
 cases e12
 refine⟨F,δ,own,rv1,δ2,s,e7,fun v H1 F1 own1 sH sF s1 r1=>?_⟩
 obtain⟨F2,sF2,s2,r2⟩:=s1.settleR r1
 exact hg F2 H1 σ δ2 own1 v d sv Q s2 (s2.rd r2 e11) e5 fun v H2 F2' ns sH2 sF2' s2 t=>k v H2 F2' own1 (sH.trans sH2) (sF.trans (sF2.trans sF2')) s2 ⟨ns,t⟩
@[simp] noncomputable def Zm:FD:=fun δ=>some ([],δ)
@[simp] noncomputable def Zi(fe:FE)(fd:FD):FD:=fun δ=>(fe δ).bind fun p=>(frz p.1 p.2).bind fun q=>(fd q.2).bind fun r=>some (q.1::r.1,r.2)
theorem Vq{R:List V->Hp->Prop}(h:Wd Z Zm σ H R):Mv σ H R:=by
 obtain⟨F,δ,own,rvs,δ',s,e,k⟩:=h
 cases e
 exact k [] H F own (Zh.refl H) (Zh.refl F) s .nil
theorem Lg{fe:FE}{fd:FD}{R:List V->Hp->Prop}(h:Wd Z (Zi fe fd) σ H R):Q5 (Zb Z fe) (Wd Z fd) σ H R:=by
 obtain⟨F,δ,own,rvs,δ',s,e,k⟩:=h
 refine bnd2 e fun rv δ1 e1 e2=>?_
 refine bnd2 e2 fun d δ2 e3 e4=>?_
 refine bnd2 e4 fun ds δ3 e5 e6=>?_
 cases e6
 refine⟨F,δ,own,rv,δ1,s,e1,fun v H1 F1 own1 sH sF s1 r1=>?_⟩
 obtain⟨F2,sF2,s2,r2⟩:=s1.settleR r1
 obtain⟨F3,own3,sF3,s3,r3⟩:=s2.frzR r2 e3
 exact⟨F3,δ2,own3,ds,δ3,s3,e5,fun vs H4 F4 own4 sH4 sF4 s4 r4=>k _ H4 F4 own4 (sH.trans sH4) (sF.trans (sF2.trans (sF3.trans sF4))) s4 (.cons (r3.mono sF4) r4)⟩
@[simp] noncomputable def tupF(fd:FD):FE:=fun δ=>(fd δ).bind fun p=>if p.1.length<=PySem.sizeLine then some (.tmp (.fz (.tup p.1)),p.2)else none
@[simp] noncomputable def Ca(fd:FD):FE:=fun δ=>(fd δ).bind fun p=>if p.1.length<=PySem.sizeLine then some (.tmp (.ol p.1),p.2)else none
theorem Zme{fd:FD}(h:Zb Z (tupF fd) σ H Q):Zic (Wd Z fd) σ H Q:=by
 obtain⟨F,δ,own,rv,δ',s,e,k⟩:=h
 refine bnd2 e fun ds δ1 e1 e2=>?_
 by_cases hz:ds.length<=PySem.sizeLine
 ·rw[if_pos hz]at e2
  cases e2
  refine⟨F,δ,own,ds,δ1,s,e1,fun vs H1 F1 own1 sH sF s1 r1=>⟨by rw[<-r1.length];exact hz,fun p hp=>?_⟩⟩
  exact Ts.tup (fun v H2 F2 ns a b c t=>k v H2 F2 own1 (sH.trans a) (sF.trans b) c ⟨ns,t⟩) s1 r1 hp
 ·rw[if_neg hz]at e2;cases e2
theorem Zmf{fd:FD}(h:Zb Z (Ca fd) σ H Q):Zid (Wd Z fd) σ H Q:=by
 obtain⟨F,δ,own,rv,δ',s,e,k⟩:=h
 refine bnd2 e fun ds δ1 e1 e2=>?_
 by_cases hz:ds.length<=PySem.sizeLine
 ·rw[if_pos hz]at e2
  cases e2
  refine⟨F,δ,own,ds,δ1,s,e1,fun vs H1 F1 own1 sH sF s1 r1=>⟨by rw[<-r1.length];exact hz,fun p hp=>?_⟩⟩
  exact Ts.lst (fun v H2 F2 ns a b c t=>k v H2 F2 own1 (sH.trans a) (sF.trans b) c ⟨ns,t⟩) s1 r1 hp
 ·rw[if_neg hz]at e2;cases e2
end
@[simp] noncomputable def SV.scal:SV->Bool
 | .fz .non=>true
 | .fz (.bl _)=>true
 | .fz (.int _)=>true
 | .fz (.str _)=>true
 |_=>false
noncomputable def Qy(K:PySem.W.Frag)(n:Nat)(g:List D->Option SV):Sp:=fun vs H Q _=>∃F ds sv,Zh F H/\Reps K F ds vs/\ds.length=n/\g ds=some sv/\
 ∀v H' F' ns,Zh H H'->Zh F F'->Zh F' H'->(∀(b:Addr) (o:HO),F' b=some o->F b=some o\/H b=none)->Shape K F' sv v ns->(Yi ns).Nodup->(∀p∈ns,F' p.1=none/\H p.1=none/\H' p.1=some p.2)->Q v H'
@[simp] noncomputable def frzAll:List RV->Ya->Option (List D×Ya)
 | [],δ=>some ([],δ)
 |rv::r,δ=>(frz rv δ).bind fun p=>(frzAll r p.2).bind fun q=>some (p.1::q.1,q.2)
theorem RVSs.mono{F F':Hp}{σ:St}(s:Zh F F'){rvs:List RV}{vs:List V}(h:RVSs K F σ rvs vs):RVSs K F' σ rvs vs:=by
 induction h with
 |nil=>exact .nil
 |cons h _ ih=>exact .cons (h.mono s) ih
section
variable{Z:Ent K}{H:Hp}{σ:St}{Q:VK}
theorem SR.frzAll{F:Hp}{δ:Ya}{own:Nat->Zg}:∀{rvs:List RV} {vs:List V} {ds:List D} {δ':Ya} {F:Hp} {δ:Ya} {own:Nat->Zg},SR Z F H σ δ own->RVSs K F σ rvs vs->DL.frzAll rvs δ=some (ds,δ')->
  ∃F1 own1,Zh F F1/\SR Z F1 H σ δ' own1/\Reps K F1 ds vs
 |_,_,_,_,F,_,own,s,.nil,e=>by cases e;exact⟨F,own,Zh.refl F,s,.nil⟩
 |_,_,_,_,F,_,own,s,.cons h t,e=>by
  refine bnd2 e fun d δ1 e1 e2=>?_
  refine bnd2 e2 fun ds δ2 e3 e4=>?_
  cases e4
  obtain⟨F1,own1,sF1,s1,r1⟩:=s.frzR h e1
  obtain⟨F2,own2,sF2,s2,r2⟩:=SR.frzAll (own:=own) (F:=F) (δ:=δ1) s1 (t.mono sF1) e3
  exact⟨F2,own2,sF1.trans sF2,s2,.cons (r1.mono sF2) r2⟩
@[simp] noncomputable def Y6(n:Nat)(g:List D->Option SV)(fa:FA):FE:=fun δ=>(fa δ).bind fun p=>(DL.frzAll p.1 p.2).bind fun q=>if q.1.length=n then(g q.1).bind fun sv=>some (.tmp sv,if sv.scal then p.2 else q.2)else none
theorem Rv{F F':Hp}{sv:SV}{v:V}{ns:Zg}(h:sv.scal=true)(sh:Shape K F sv v ns):ns=[]/\Shape K F' sv v []:=by
 cases sh with
 |fz r=>
  refine⟨rfl,.fz ?_⟩
  cases r with
  |non=>exact .non
  |bl b=>exact .bl b
  |int i=>exact .int i
  |str x=>exact .str x
  |tup _ _=>cases h
  |lst _ _ _=>cases h
  |dK _ _ _=>cases h
  |dT _ _ _ _=>cases h
  |exc _ _=>cases h
  |dX _ _ _ _=>cases h
  |exd _ _ _ _ _=>cases h
  |fn _=>cases h
  |row _ _=>cases h
  |ob _ _ _ _=>cases h
 |ol _=>cases h
 |oK _ _=>cases h
 |oT _ _ _=>cases h
 |oN _ _=>cases h
 |oR _ _=>cases h
 |oG _ _=>cases h
 |oX _ _ _=>cases h
 |oD _=>cases h
 |oM _ _ _=>cases h
 |oL _ _=>cases h
 |oQ _ _=>cases h
theorem Zis{n:Nat}{g:List D->Option SV}{fa:FA}{E:XK}(h:Zb Z (Y6 n g fa) σ H Q):Zgg (Qy K n g) [] E (Jo Z fa) σ H Q:=by
 obtain⟨F,δ,own,rv,δ',s,e,k⟩:=h
 refine bnd2 e fun rvs δ1 e1 e2=>?_
 refine bnd2 e2 fun ds δ2 e3 e4=>?_
 by_cases hn:ds.length=n
 ·rw[if_pos hn]at e4
  refine bnd1 e4 fun sv e5 e6=>?_
  refine⟨F,δ,own,rvs,δ1,s,e1,fun vs H1 F1 own1 sH sF s1 r1=>?_⟩
  obtain⟨F2,own2,sF2,s2,r2⟩:=s1.frzAll (own:=own) (F:=F) (δ:=δ) r1 e3
  rw[List.append_nil]
  refine⟨F2,ds,sv,s2.le,r2,hn,e5,fun v H3 F3 ns sH3 sF3 le3 fro3 sh nd ok=>?_⟩
  by_cases hs:sv.scal=true
  ·rw[if_pos hs]at e6
   cases e6
   obtain⟨_,sh'⟩:=Rv (F':=F1) hs sh
   exact k v H3 F1 own1 (sH.trans sH3) sF (s1.grow sH3) ⟨[],sh',List.nodup_nil,fun _ h=>(nomatch h),fun _ _ _ h=>(nomatch h)⟩
  ·rw[if_neg hs]at e6
   cases e6
   have s3:SR Z F3 H3 σ δ2 own2:=by
    refine⟨le3,fun b o e=>?_,s2.old.trans sH3,s2.len,fun i sw ei=>?_,s2.nod,fun i p hp=>?_,s2.sep⟩
    ·rcases fro3 b o e with z|z
     ·exact s2.fro b o z
     ·exact .inr (s2.old.free z)
    ·obtain⟨w,h1,h2⟩:=s2.at' i sw ei
     exact⟨w,h1,h2.mono sF3⟩
    ·obtain⟨a,b,c⟩:=s2.ok i p hp
     refine⟨?_,b,sH3 _ _ c⟩
     cases z:F3 p.1 with
     |none=>rfl
     |some u=>
      rcases fro3 _ u z with y|y
      ·rw[a]at y;cases y
      ·rw[c]at y;cases y
   exact k v H3 F3 own2 (sH.trans sH3) (sF.trans (sF2.trans sF3)) s3 ⟨ns,sh,nd,fun p hp=>⟨(ok p hp).1,(s2.old).free (ok p hp).2.1,(ok p hp).2.2⟩,fun i p q hp hq e=>by
    have z:=(s2.ok i q hq).2.2
    rw[<-e,(ok p hp).2.1]at z;cases z⟩
 ·rw[if_neg hn]at e4;cases e4
end
end DL
namespace DL
open PySem L2
variable{K:PySem.W.Frag}
section
variable{Z:Ent K}{H:Hp}{σ:St}{R:Bool->Hp->Prop}{Q:VK}
@[simp] noncomputable def Z6(fe:FE):FT:=fun δ=>(fe δ).bind fun p=>match p.1 with
 | .tmp (.fz (.bl b))=>some (b,p.2)
 |_=>none
theorem A5{fe:FE}(h:Z5 Z (Z6 fe) σ H R):Zgf (Zb Z fe) σ H R:=by
 obtain⟨F,δ,own,b,δ',s,e,k⟩:=h
 refine bnd2 e fun rv δ1 e1 e2=>?_
 refine⟨F,δ,own,rv,δ1,s,e1,fun v H1 F1 own1 sH sF s1 r1=>?_⟩
 dsimp only at e2
 split at e2
 ·cases e2
  obtain⟨ns,t⟩:=r1
  cases Ja t.sh
  exact⟨_,rfl,k H1 F1 own1 sH sF s1⟩
 ·cases e2
theorem Zdq{fe:FE}(h:Z5 Z (Z6 fe) σ H R):tB (Zb Z fe) σ H R:=A5 h
@[simp] noncomputable def Zdr(f g:FT):FT:=fun δ=>(f δ).bind fun p=>if p.1=true then g p.2 else some (false,p.2)
@[simp] noncomputable def orF(f g:FT):FT:=fun δ=>(f δ).bind fun p=>if p.1=true then some (true,p.2)else g p.2
@[simp] noncomputable def Vr(f:FT):FT:=fun δ=>(f δ).bind fun p=>some (!p.1,p.2)
theorem Zmg{f g:FT}(h:Z5 Z (Zdr f g) σ H R):Zlo (Z5 Z f) (Z5 Z g) σ H R:=by
 obtain⟨F,δ,own,b,δ',s,e,k⟩:=h
 refine bnd2 e fun c δ1 e1 e2=>?_
 refine⟨F,δ,own,c,δ1,s,e1,fun H1 F1 own1 sH sF s1=>?_⟩
 cases c with
 |true=>
  rw[if_pos rfl]at e2⊢
  exact⟨F1,δ1,own1,b,δ',s1,e2,fun H2 F2 own2 a c d=>k H2 F2 own2 (sH.trans a) (sF.trans c) d⟩
 |false=>
  rw[if_neg Bool.false_ne_true]at e2⊢
  cases e2
  exact k H1 F1 own1 sH sF s1
theorem Zp2{f g:FT}(h:Z5 Z (orF f g) σ H R):tOr (Z5 Z f) (Z5 Z g) σ H R:=by
 obtain⟨F,δ,own,b,δ',s,e,k⟩:=h
 refine bnd2 e fun c δ1 e1 e2=>?_
 refine⟨F,δ,own,c,δ1,s,e1,fun H1 F1 own1 sH sF s1=>?_⟩
 cases c with
 |true=>
  rw[if_pos rfl]at e2⊢
  cases e2
  exact k H1 F1 own1 sH sF s1
 |false=>
  rw[if_neg Bool.false_ne_true]at e2⊢
  exact⟨F1,δ1,own1,b,δ',s1,e2,fun H2 F2 own2 a c d=>k H2 F2 own2 (sH.trans a) (sF.trans c) d⟩
theorem Zmh{f:FT}(h:Z5 Z (Vr f) σ H R):Zlp (Z5 Z f) σ H R:=by
 obtain⟨F,δ,own,b,δ',s,e,k⟩:=h
 refine bnd2 e fun c δ1 e1 e2=>?_
 cases e2
 exact⟨F,δ,own,c,δ1,s,e1,k⟩
@[simp] noncomputable def D3(f g:FE):FE:=fun δ=>(Z6 f δ).bind fun p=>if p.1=true then g p.2 else some (.tmp (.fz (.bl false)),p.2)
@[simp] noncomputable def Zit(f:FE):FE:=fun δ=>(Z6 f δ).bind fun p=>some (.tmp (.fz (.bl (!p.1))),p.2)
theorem D4{F:Hp}{own:Nat->Zg}{b:Bool}:Tp Z F H σ own (.tmp (.fz (.bl b))) (.bl b):=⟨[],.fz (.bl b)⟩
theorem Ziu{f g:FE}(h:Zb Z (D3 f g) σ H Q):Zf7 (Zb Z f) (Zb Z g) σ H Q:=by
 obtain⟨F,δ,own,rv,δ',s,e,k⟩:=h
 refine bnd2 e fun c δ1 e1 e2=>?_
 refine A5 ⟨F,δ,own,c,δ1,s,e1,fun H1 F1 own1 sH sF s1=>?_⟩
 cases c with
 |true=>
  rw[if_pos rfl]at e2⊢
  exact⟨F1,δ1,own1,rv,δ',s1,e2,fun v H2 F2 own2 a c d=>k v H2 F2 own2 (sH.trans a) (sF.trans c) d⟩
 |false=>
  rw[if_neg Bool.false_ne_true]at e2⊢
  cases e2
  exact k _ H1 F1 own1 sH sF s1 D4
theorem Ziv{f:FE}(h:Zb Z (Zit f) σ H Q):Zf8 (Zb Z f) σ H Q:=by
 obtain⟨F,δ,own,rv,δ',s,e,k⟩:=h
 refine bnd2 e fun c δ1 e1 e2=>?_
 cases e2
 exact A5 ⟨F,δ,own,c,δ1,s,e1,fun H1 F1 own1 sH sF s1=>k _ H1 F1 own1 sH sF s1 D4⟩
@[simp] noncomputable def ifF(t:FT)(f g:FE):FE:=fun δ=>(t δ).bind fun p=>if p.1=true then f p.2 else g p.2
theorem Zp3{t:FT}{f g:FE}(h:Zb Z (ifF t f g) σ H Q):tIf (Z5 Z t) (Zb Z f) (Zb Z g) σ H Q:=by
 obtain⟨F,δ,own,rv,δ',s,e,k⟩:=h
 refine bnd2 e fun c δ1 e1 e2=>?_
 refine⟨F,δ,own,c,δ1,s,e1,fun H1 F1 own1 sH sF s1=>?_⟩
 cases c with
 |true=>
  rw[if_pos rfl]at e2⊢
  exact⟨F1,δ1,own1,rv,δ',s1,e2,fun v H2 F2 own2 a c d=>k v H2 F2 own2 (sH.trans a) (sF.trans c) d⟩
 |false=>
  rw[if_neg Bool.false_ne_true]at e2⊢
  exact⟨F1,δ1,own1,rv,δ',s1,e2,fun v H2 F2 own2 a c d=>k v H2 F2 own2 (sH.trans a) (sF.trans c) d⟩
@[simp] noncomputable def Lh(g g':D->D->Option SV)(fa fb fc:FE):FE:=fun δ=>(fa δ).bind fun p=>(fb p.2).bind fun q=>(N1 p.1 q.2).bind fun x=>(N1 q.1 q.2).bind fun y=>(g x y).bind fun
 | .fz (.bl true)=>(fc q.2).bind fun r=>(N1 q.1 r.2).bind fun y'=>(N1 r.1 r.2).bind fun z=>(g' y' z).bind fun sv=>some (.tmp sv,r.2)
 | .fz (.bl false)=>some (.tmp (.fz (.bl false)),q.2)
 |_=>none
theorem Zds{r r':R2}{g g':D->D->Option SV}{fa fb fc:FE}(hg:Yg Z r g)(hg':Yg Z r' g')(h:Zb Z (Lh g g' fa fb fc) σ H Q):Hl r r' (Zb Z fa) (Zb Z fb) (Zb Z fc) σ H Q:=by
 obtain⟨F,δ,own,rv,δ',s,e,k⟩:=h
 refine bnd2 e fun rv1 δ1 e1 e=>?_
 refine bnd2 e fun rv2 δ2 e2 e=>?_
 refine bnd1 e fun x e3 e=>?_
 refine bnd1 e fun y e4 e=>?_
 refine bnd1 e fun sv e5 e=>?_
 refine⟨F,δ,own,rv1,δ1,s,e1,fun v H1 F1 own1 sH1 sF1 s1 r1=>?_⟩
 obtain⟨F1',sF1',s1',r1'⟩:=s1.settleR r1
 refine⟨F1',δ1,own1,rv2,δ2,s1',e2,fun u H2 F2 own2 sH2 sF2 s2 r2=>?_⟩
 obtain⟨F3,sF3,s3,r3⟩:=s2.settleR r2
 refine hg F3 H2 σ δ2 own2 v u x y sv _ s3 (s3.rd (r1'.mono (sF2.trans sF3)) e3) (s3.rd r3 e4) e5 fun z H4 F4 ns sH4 sF4 s4 t4=>?_
 dsimp only at e
 split at e
 ·cases Ja t4.sh
  refine⟨true,rfl,?_⟩
  rw[if_pos rfl]
  refine bnd2 e fun rv5 δ5 e6 e=>?_
  refine bnd1 e fun y' e7 e=>?_
  refine bnd1 e fun z' e8 e=>?_
  refine bnd1 e fun sv' e9 e=>?_
  cases e
  refine⟨F4,δ2,own2,rv5,δ5,s4,e6,fun w H5 F5 own5 sH5 sF5 s5 r5=>?_⟩
  obtain⟨F6,sF6,s6,r6⟩:=s5.settleR r5
  refine hg' F6 H5 σ δ5 own5 u w y' z' sv' _ s6 (s6.rd (r3.mono (sF4.trans (sF5.trans sF6))) e7) (s6.rd r6 e8) e9 fun q H7 F7 ns7 sH7 sF7 s7 t7=>?_
  exact k q H7 F7 own5 (sH1.trans (sH2.trans (sH4.trans (sH5.trans sH7)))) (sF1.trans (sF1'.trans (sF2.trans (sF3.trans (sF4.trans (sF5.trans (sF6.trans sF7))))))) s7 ⟨ns7,t7⟩
 ·cases Ja t4.sh
  cases e
  refine⟨false,rfl,?_⟩
  rw[if_neg Bool.false_ne_true]
  exact k _ H4 F4 own2 (sH1.trans (sH2.trans sH4)) (sF1.trans (sF1'.trans (sF2.trans (sF3.trans sF4)))) s4 D4
 ·cases e
end
inductive Fl where
 |nx (δ:Ya)|bk (δ:Ya)|ct (δ:Ya)|rt (sv:SV)|ex (e:Exn) (δ:Ya)|rg (d:D) (δ:Ya)
noncomputable abbrev FS:=Ya->Option Fl
noncomputable def Bl(Z:Ent K)(F:Hp)(D:Ends):Fl->Prop
 | .nx δ=>∀σ' H' F' own',Zh F F'->SR Z F' H' σ' δ own'->D.nx σ' H'
 | .bk δ=>∀σ' H' F' own',Zh F F'->SR Z F' H' σ' δ own'->D.bk σ' H'
 | .ct δ=>∀σ' H' F' own',Zh F F'->SR Z F' H' σ' δ own'->D.ct σ' H'
 | .rt sv=>∀v H' F' ns,Zh F F'->Zh F' H'->(∀(b:Addr) (o:HO),F' b=some o->Z.f b=some o\/Z.h b=none)->Zh Z.h H'->Shape K F' sv v ns->(Yi ns).Nodup->
   (∀p∈ns,F' p.1=none/\Z.h p.1=none/\H' p.1=some p.2)->D.rt v H'
 | .ex x δ=>∀σ' H' F' own' cls od,Zh F F'->SR Z F' H' σ' δ own'->A4 K F' x cls od->Z.x cls od σ' H'
 | .rg d δ=>∀v σ' H' F' own',Zh F F'->SR Z F' H' σ' δ own'->Rep K F' d v->D.rt v H'
theorem Bl.mono{Z:Ent K}{F F':Hp}{D:Ends}(s:Zh F F'):∀{fl:Fl},Bl Z F D fl->Bl Z F' D fl
 | .nx _,h=>fun σ' H' F2 own' a b=>h σ' H' F2 own' (s.trans a) b
 | .bk _,h=>fun σ' H' F2 own' a b=>h σ' H' F2 own' (s.trans a) b
 | .ct _,h=>fun σ' H' F2 own' a b=>h σ' H' F2 own' (s.trans a) b
 | .rt _,h=>fun v H' F2 ns a=>h v H' F2 ns (s.trans a)
 | .ex _ _,h=>fun σ' H' F2 own' cls od a=>h σ' H' F2 own' cls od (s.trans a)
 | .rg _ _,h=>fun v σ' H' F2 own' a=>h v σ' H' F2 own' (s.trans a)
noncomputable def Zq(Z:Ent K)(f:FS):TS:=fun D σ H=>∃F δ own fl,SR Z F H σ δ own/\f δ=some fl/\Bl Z F D fl
section
variable{Z:Ent K}{H:Hp}{σ:St}{E:Ends}
@[simp] noncomputable def Wr:FS:=fun δ=>some (.nx δ)
theorem Ziw(h:Zq Z Wr E σ H):Zf9 E σ H:=by
 obtain⟨F,δ,own,fl,s,e,k⟩:=h
 cases e
 exact k σ H F own (Zh.refl F) s
@[simp] noncomputable def Zt(f g:FS):FS:=fun δ=>(f δ).bind fun
 | .nx δ'=>g δ'
 |fl=>some fl
theorem Zmi{f g:FS}(h:Zq Z (Zt f g) E σ H):Zlr (Zq Z f) (Zq Z g) E σ H:=by
 obtain⟨F,δ,own,fl,s,e,k⟩:=h
 refine bnd1 e fun f1 e1 e2=>?_
 refine⟨F,δ,own,f1,s,e1,?_⟩
 cases f1 with
 |nx δ1=>exact fun σ' H' F' own' sF s'=>⟨F',δ1,own',fl,s',e2,k.mono sF⟩
 |bk δ1=>cases e2;exact k
 |ct δ1=>cases e2;exact k
 |rt sv=>cases e2;exact k
 |ex x δ1=>cases e2;exact k
 |rg d δ1=>cases e2;exact k
@[simp] noncomputable def Gy(t:FT)(f g:FS):FS:=fun δ=>(t δ).bind fun p=>if p.1=true then f p.2 else g p.2
theorem Zmj{t:FT}{f g:FS}(h:Zq Z (Gy t f g) E σ H):Zhy (Z5 Z t) (Zq Z f) (Zq Z g) E σ H:=by
 obtain⟨F,δ,own,fl,s,e,k⟩:=h
 refine bnd2 e fun c δ1 e1 e2=>?_
 refine⟨F,δ,own,c,δ1,s,e1,fun H1 F1 own1 sH sF s1=>?_⟩
 cases c with
 |true=>rw[if_pos rfl]at e2⊢;exact⟨F1,δ1,own1,fl,s1,e2,k.mono sF⟩
 |false=>rw[if_neg Bool.false_ne_true]at e2⊢;exact⟨F1,δ1,own1,fl,s1,e2,k.mono sF⟩
@[simp] noncomputable def Zp4:RV->Ya->Option SV
 | .tmp sv,_=>some sv
 | .bw i,δ=>δ[i]?.join
@[simp] noncomputable def Qv(fe:FE):FS:=fun δ=>(fe δ).bind fun p=>(Zp4 p.1 p.2).bind fun sv=>some (.rt sv)
theorem Zmk{fe:FE}(h:Zq Z (Qv fe) E σ H):Zc3 (Zb Z fe) E σ H:=by
 obtain⟨F,δ,own,fl,s,e,k⟩:=h
 refine bnd2 e fun rv δ1 e1 e2=>?_
 refine bnd1 e2 fun sv e3 e4=>?_
 cases e4
 refine⟨F,δ,own,rv,δ1,s,e1,fun v H1 F1 own1 sH sF s1 r1=>?_⟩
 cases rv with
 |tmp sw=>
  cases e3
  obtain⟨ns,t⟩:=r1
  exact k v H1 F1 ns sF s1.le s1.fro s1.old t.sh t.nd t.ok
 |bw i=>
  obtain⟨w,h1,h2⟩:=s1.at' i sv (Ud e3)
  have r1':σ[i]? =some (some v):=r1
  rw[r1']at h1;cases h1
  exact k v H1 F1 (own1 i) sF s1.le s1.fro s1.old h2 (s1.nod i) (s1.ok i)
@[simp] noncomputable def stow(i:Nat):RV->Ya->Option Ya
 | .tmp sv,δ=>if i<δ.length then some (δ.set i (some sv))else none
 | .bw j,δ=>(frz (.bw j) δ).bind fun p=>if i<p.2.length then some (p.2.set i (some (.fz p.1)))else none
theorem SR.stow{F:Hp}{δ δ':Ya}{own:Nat->Zg}{i:Nat}{rv:RV}{v:V}(s:SR Z F H σ δ own)(r:Tp Z F H σ own rv v)(e:DL.stow i rv δ=some δ'):∃F' own',Zh F F'/\SR Z F' H (σ.set i (some v)) δ' own':=by
 cases rv with
 |tmp sv=>
  obtain⟨ns,t⟩:=r
  have e:(if i<δ.length then some (δ.set i (some sv))else none)=some δ':=e
  by_cases hi:i<δ.length
  ·rw[if_pos hi]at e;cases e
   exact⟨F,_,Zh.refl F,s.store t (by rw[s.len];exact hi)⟩
  ·rw[if_neg hi]at e;cases e
 |bw j=>
  refine bnd2 e fun d δ1 e1 e2=>?_
  obtain⟨F1,own1,sF,s1,r1⟩:=s.frzR (rv:=.bw j) (v:=v) r e1
  by_cases hi:i<δ1.length
  ·rw[if_pos hi]at e2;cases e2
   exact⟨F1,_,sF,s1.store (.fz r1) (by rw[s1.len];exact hi)⟩
  ·rw[if_neg hi]at e2;cases e2
@[simp] noncomputable def Yp(i:Nat)(fe:FE):FS:=fun δ=>(fe δ).bind fun p=>(stow i p.1 p.2).bind fun δ'=>some (.nx δ')
theorem Zgq{i:Nat}{fe:FE}(h:Zq Z (Yp i fe) E σ H):S6 (Zb Z fe) (Rn i) E σ H:=by
 obtain⟨F,δ,own,fl,s,e,k⟩:=h
 refine bnd2 e fun rv δ1 e1 e2=>?_
 refine bnd1 e2 fun δ2 e3 e4=>?_
 cases e4
 refine⟨F,δ,own,rv,δ1,s,e1,fun v H1 F1 own1 sH sF s1 r1=>?_⟩
 obtain⟨F2,own2,sF2,s2⟩:=s1.stow r1 e3
 exact k _ H1 F2 own2 (sF.trans sF2) s2
set_option genInjectivity false in
structure FG where
 run:D->Ya->Option Ya
 tch:List Nat
set_option genInjectivity false in
structure FGs where
 run:List D->Ya->Option Ya
 tch:List Nat
noncomputable def U8(Z:Ent K)(g:FG):TG:=fun v σ H Q=>∃F δ own d δ',SR Z F H σ δ own/\Rep K F d v/\g.run d δ=some δ'/\∀σ' own',SR Z F H σ' δ' own'->(∀j:Nat,j∉g.tch->σ'[j]? =σ[j]?)->Q σ' H
noncomputable def Oi(Z:Ent K)(g:FGs):TGs:=fun vs σ H Q=>∃F δ own ds δ',SR Z F H σ δ own/\Reps K F ds vs/\g.run ds δ=some δ'/\∀σ' own',SR Z F H σ' δ' own'->(∀j:Nat,j∉g.tch->σ'[j]? =σ[j]?)->Q σ' H
noncomputable def Yq(i:Nat):FG:=⟨fun d δ=>if i<δ.length then some (δ.set i (some (.fz d)))else none,[i]⟩
theorem N2{i:Nat}{v:V}{Q:St->Hp->Prop}(h:U8 Z (Yq i) v σ H Q):Rn i v σ H Q:=by
 obtain⟨F,δ,own,d,δ',s,r,e,k⟩:=h
 have e:(if i<δ.length then some (δ.set i (some (.fz d)))else none)=some δ':=e
 by_cases hi:i<δ.length
 ·rw[if_pos hi]at e;cases e
  exact k _ _ (s.store (.fz r) (by rw[s.len];exact hi)) fun j hj=>List.getElem?_set_ne fun z=>hj (by rw[z];exact List.mem_cons_self)
 ·rw[if_neg hi]at e;cases e
noncomputable def Ij:FGs:=⟨fun ds δ=>match ds with
 | []=>some δ
 |_=>none,[]⟩
noncomputable def Bm(g:FG)(r:FGs):FGs:=⟨fun ds δ=>match ds with
 |d::t=>(g.run d δ).bind fun δ1=>r.run t δ1
 | []=>none,g.tch++r.tch⟩
@[simp] theorem Zlb(i:Nat)(d:D)(δ:Ya):(Yq i).run d δ=if i<δ.length then some (δ.set i (some (.fz d)))else none:=rfl
@[simp] theorem Zml(δ:Ya):Ij.run [] δ=some δ:=rfl
@[simp] theorem Zlc(g:FG)(r:FGs)(d:D)(t:List D)(δ:Ya):(Bm g r).run (d::t) δ=(g.run d δ).bind fun δ1=>r.run t δ1:=rfl
theorem Zix{vs:List V}{Q:St->Hp->Prop}(h:Oi Z Ij vs σ H Q):Zls vs σ H Q:=by
 obtain⟨F,δ,own,ds,δ',s,r,e,k⟩:=h
 cases r with
 |nil=>cases e;exact⟨rfl,k σ own s fun _ _=>rfl⟩
 |cons h t=>cases e
theorem Zdt{g:FG}{r:FGs}{vs:List V}{Q:St->Hp->Prop}(h:Oi Z (Bm g r) vs σ H Q):Zga (U8 Z g) (Oi Z r) vs σ H Q:=by
 obtain⟨F,δ,own,ds,δ',s,rr,e,k⟩:=h
 cases rr with
 |nil=>cases e
 |cons h t=>
  refine bnd1 e fun δ1 e1 e2=>?_
  exact⟨_,_,rfl,F,δ,own,_,δ1,s,h,e1,fun σ1 own1 s1 t1=>⟨F,δ1,own1,_,δ',s1,t,e2,fun σ2 own2 s2 t2=>k σ2 own2 s2 fun j hj=>(t2 j fun z=>hj (List.mem_append_right _ z)).trans (t1 j fun z=>hj (List.mem_append_left _ z))⟩⟩
noncomputable def Tt(n:Nat)(g:FGs):FG:=⟨fun d δ=>match d with
 | .tup xs=>if xs.length=n then g.run xs δ else none
 |_=>none,g.tch⟩
@[simp] theorem Zmm(n:Nat)(g:FGs)(xs:List D)(δ:Ya):(Tt n g).run (.tup xs) δ=if xs.length=n then g.run xs δ else none:=rfl
theorem Ziy{n:Nat}{g:FGs}{v:V}{Q:St->Hp->Prop}(h:U8 Z (Tt n g) v σ H Q):Zlt K n (Oi Z g) v σ H Q:=by
 obtain⟨F,δ,own,d,δ',s,r,e,k⟩:=h
 dsimp only[Tt]at e
 split at e
 ·rename_i xs
  by_cases hn:xs.length=n
  ·rw[if_pos hn]at e
   cases r with
   |tup h r=>exact⟨_,_,rfl,Qq s.le (Gj h),by rw[<-r.length];exact hn,F,δ,own,_,δ',s,r,e,k⟩
  ·rw[if_neg hn]at e;cases e
 ·cases e
@[simp] noncomputable def Cb(g:FG)(fe:FE):FS:=fun δ=>(fe δ).bind fun p=>(frz p.1 p.2).bind fun q=>(g.run q.1 q.2).bind fun δ'=>some (.nx δ')
theorem D5{g:FG}{fe:FE}(h:Zq Z (Cb g fe) E σ H):S6 (Zb Z fe) (U8 Z g) E σ H:=by
 obtain⟨F,δ,own,fl,s,e,k⟩:=h
 refine bnd2 e fun rv δ1 e1 e2=>?_
 refine bnd2 e2 fun d δ2 e3 e4=>?_
 refine bnd1 e4 fun δ3 e5 e6=>?_
 cases e6
 refine⟨F,δ,own,rv,δ1,s,e1,fun v H1 F1 own1 sH sF s1 r1=>?_⟩
 obtain⟨F2,sF2,s2,r2⟩:=s1.settleR r1
 obtain⟨F3,own3,sF3,s3,r3⟩:=s2.frzR r2 e3
 exact⟨F3,δ2,own3,d,δ3,s3,r3,e5,fun σ' own' s' _=>k σ' H1 F3 own' (sF.trans (sF2.trans sF3)) s'⟩
@[simp] noncomputable def Ue(tg:FG)(body:FS):List D->Ya->Option Fl
 | [],δ=>some (.nx δ)
 |d::ds,δ=>(tg.run d δ).bind fun δ1=>(body δ1).bind fun
  | .nx δ2=>Ue tg body ds δ2
  | .ct δ2=>Ue tg body ds δ2
  | .bk δ2=>some (.nx δ2)
  | .rt sv=>some (.rt sv)
  | .ex x δ2=>some (.ex x δ2)
  | .rg d δ2=>some (.rg d δ2)
noncomputable def Cy(K:PySem.W.Frag)(J:It)(F:Hp)(ds:List D):Prop:=∀F' H,Zh F F'->Zh F' H->∀i:Nat,
 (∀d,ds[i]? =some d->J.go i H/\∀x H',J.yld i H x H'->Zh H H'/\∃ns,(Yi ns).Nodup/\(∀p∈ns,H p.1=none/\H' p.1=some p.2)/\Rep K (Qa F' ns) d x)/\(ds.length<=i->J.stop i H)
noncomputable def Oj(Z:Ent K)(f:FD):TI:=fun σ H R=>∃F δ own ds δ',SR Z F H σ δ own/\f δ=some (ds,δ')/\
 ∀J H' F' own',Zh H H'->Zh F F'->SR Z F' H' σ δ' own'->Cy K J F' ds->R J H'
@[simp] noncomputable def Ik(fi:FD)(tg:FG)(body:FS):FS:=fun δ=>(fi δ).bind fun p=>Ue tg body p.1 p.2
theorem SR.fresh{F H':Hp}{δ:Ya}{own:Nat->Zg}{ns:Zg}(s:SR Z F H σ δ own)(sm:Zh H H')(nd:(Yi ns).Nodup)(h:∀p∈ns,H p.1=none/\H' p.1=some p.2):Zh F (Qa F ns)/\SR Z (Qa F ns) H' σ δ own:=by
 refine⟨Wo fun p hp=>s.le.free (h p hp).1,(s.grow sm).addF nd (fun p hp=>s.le.free (h p hp).1) (fun p hp=>(h p hp).2) (fun p hp=>s.old.free (h p hp).1) fun i p q hp hq e=>?_⟩
 have z:=(s.ok i q hq).2.2
 rw[<-e,(h p hp).1]at z;cases z
theorem Zmn{fi:FD}{tg:FG}{body:FS}(h:Zq Z (Ik fi tg body) E σ H):Zlu (Oj Z fi) (U8 Z tg) (Zq Z body) E σ H:=by
 obtain⟨F,δ,own,fl,s,e,k⟩:=h
 refine bnd2 e fun ds δ1 e1 e2=>?_
 refine⟨F,δ,own,ds,δ1,s,e1,fun J H1 F1 own1 sH sF s1 yl=>?_⟩
 refine⟨fun i m σ H=>m=ds.length- i/\i<=ds.length/\∃F δ own,Zh F1 F/\SR Z F H σ δ own/\Ue tg body (ds.drop i) δ=some fl,⟨ds.length,by simp,Nat.zero_le _,F1,δ1,own1,Zh.refl F1,s1,e2⟩,?_⟩
 rintro i m σ' H' ⟨rfl,hi,F2,δ2,own2,sF2,s2,ef⟩
 by_cases hlt:i<ds.length
 ·have hd:ds[i]? =some ds[i]:=by simp[hlt]
  obtain⟨go,yy⟩:=(yl F2 H' sF2 s2.le i).1 _ hd
  rw[List.drop_eq_getElem_cons hlt]at ef
  refine bnd1 ef fun δ3 e3 e4=>?_
  refine bnd1 e4 fun f1 e5 e6=>?_
  refine .inr ⟨go,fun σ4 H4=>∃F δ own,Zh F1 F/\SR Z F H4 σ4 δ own/\Ue tg body (ds.drop (i+1)) δ=some fl,fun σ4 H4 ⟨F4,δ4,own4,a,b,c⟩=>⟨ds.length- (i+1),by omega,rfl,hlt,F4,δ4,own4,a,b,c⟩,fun x H3 hy=>?_⟩
  obtain⟨sm,ns,nd,hn,rp⟩:=yy x H3 hy
  obtain⟨sFn,sn⟩:=s2.fresh sm nd hn
  refine⟨Qa F2 ns,δ2,own2,_,δ3,sn,rp,e3,fun σ5 own5 s5 _=>⟨Qa F2 ns,δ3,own5,f1,s5,e5,?_⟩⟩
  cases f1 with
  |nx δ6=>exact fun σ6 H6 F6 own6 a b=>⟨F6,δ6,own6,sF2.trans (sFn.trans a),b,e6⟩
  |ct δ6=>exact fun σ6 H6 F6 own6 a b=>⟨F6,δ6,own6,sF2.trans (sFn.trans a),b,e6⟩
  |bk δ6=>
   cases e6
   exact fun σ6 H6 F6 own6 a b=>k σ6 H6 F6 own6 (sF.trans (sF2.trans (sFn.trans a))) b
  |rt sv=>
   cases e6
   exact fun v H6 F6 ns6 a=>k v H6 F6 ns6 (sF.trans (sF2.trans (sFn.trans a)))
  |ex x δ6=>
   cases e6
   exact fun σ6 H6 F6 own6 cls od a=>k σ6 H6 F6 own6 cls od (sF.trans (sF2.trans (sFn.trans a)))
  |rg d6 δ6=>
   cases e6
   exact fun v σ6 H6 F6 own6 a=>k v σ6 H6 F6 own6 (sF.trans (sF2.trans (sFn.trans a)))
 ·have hz:i=ds.length:=by omega
  subst hz
  rw[List.drop_length]at ef
  cases ef
  exact .inl ⟨(yl F2 H' sF2 s2.le _).2 (Nat.le_refl _),k σ' H' F2 own2 (sF.trans sF2) s2⟩
noncomputable def Qh(t:FT)(body:FS):Nat->Ya->Option Fl
 |0,_=>none
 |n+1,δ=>(t δ).bind fun p=>if p.1=true then(body p.2).bind (fun
  | .nx δ2=>Qh t body n δ2
  | .ct δ2=>Qh t body n δ2
  | .bk δ2=>some (.nx δ2)
  | .rt sv=>some (.rt sv)
  | .ex x δ2=>some (.ex x δ2)
  | .rg d δ2=>some (.rg d δ2))else some (.nx p.2)
theorem Zdu{n:Nat}{t:FT}{body:FS}(h:Zq Z (Qh t body n) E σ H):Hf (Z5 Z t) (Zq Z body) E σ H:=by
 obtain⟨F,δ,own,fl,s,e,k⟩:=h
 refine⟨fun m σ H=>∃F2 δ own,Zh F F2/\SR Z F2 H σ δ own/\Qh t body m δ=some fl,⟨n,F,δ,own,Zh.refl F,s,e⟩,?_⟩
 rintro m σ1 H1 ⟨F1,δ1,own1,sF1,s1,e1⟩
 cases m with
 |zero=>cases e1
 |succ m=>
  refine bnd2 e1 fun c δ2 e2 e3=>?_
  refine⟨F1,δ1,own1,c,δ2,s1,e2,fun H2 F2 own2 sH sF2 s2=>?_⟩
  cases c with
  |false=>
   rw[if_neg Bool.false_ne_true]at e3⊢
   cases e3
   exact k σ1 H2 F2 own2 (sF1.trans sF2) s2
  |true=>
   rw[if_pos rfl]at e3⊢
   refine bnd1 e3 fun f1 e4 e5=>?_
   refine⟨fun σ' H'=>∃F2 δ own,Zh F F2/\SR Z F2 H' σ' δ own/\Qh t body m δ=some fl,fun σ' H' w=>⟨m,Nat.lt_succ_self m,w⟩,F2,δ2,own2,f1,s2,e4,?_⟩
   cases f1 with
   |nx δ6=>exact fun σ6 H6 F6 own6 a b=>⟨F6,δ6,own6,sF1.trans (sF2.trans a),b,e5⟩
   |ct δ6=>exact fun σ6 H6 F6 own6 a b=>⟨F6,δ6,own6,sF1.trans (sF2.trans a),b,e5⟩
   |bk δ6=>
    cases e5
    exact fun σ6 H6 F6 own6 a b=>k σ6 H6 F6 own6 (sF1.trans (sF2.trans a)) b
   |rt sv=>
    cases e5
    exact fun v H6 F6 ns6 a=>k v H6 F6 ns6 (sF1.trans (sF2.trans a))
   |ex x δ6=>
    cases e5
    exact fun σ6 H6 F6 own6 cls od a=>k σ6 H6 F6 own6 cls od (sF1.trans (sF2.trans a))
   |rg d6 δ6=>
    cases e5
    exact fun v σ6 H6 F6 own6 a=>k v σ6 H6 F6 own6 (sF1.trans (sF2.trans a))
theorem Il{F:Hp}{a:Addr}{xs:List D}{vs:List V}(h:Of K F a vs)(r:Reps K F xs vs):Cy K (Itl K a) F xs:=fun F' H sF sH i=>by
 have q:Of K H a vs:=Wu (sF.trans sH) h
 refine⟨fun d hd=>?_,fun hl=>⟨vs,q,by rw[<-r.length];exact hl⟩⟩
 obtain⟨v,h1,h2⟩:=r.get hd
 refine⟨⟨vs,v,q,h1⟩,fun x H' zq9=>?_⟩
 obtain⟨e1,e2⟩:=zq9
 subst e1
 have e3:=e2 vs q
 rw[h1]at e3;cases e3
 exact⟨Zh.refl _,[],List.nodup_nil,fun _ h=>(nomatch h),h2.mono sF⟩
theorem Li{F:Hp}{a:Addr}{xs:List D}{vs:List V}(h:Mu K F a vs)(r:Reps K F xs vs):Cy K (Itt K a) F xs:=fun F' H sF sH i=>by
 have q:Mu K H a vs:=Qq (sF.trans sH) h
 refine⟨fun d hd=>?_,fun hl=>⟨vs,q,by rw[<-r.length];exact hl⟩⟩
 obtain⟨v,h1,h2⟩:=r.get hd
 refine⟨⟨vs,v,q,h1⟩,fun x H' zq9=>?_⟩
 obtain⟨e1,e2⟩:=zq9
 subst e1
 have e3:=e2 vs q
 rw[h1]at e3;cases e3
 exact⟨Zh.refl _,[],List.nodup_nil,fun _ h=>(nomatch h),h2.mono sF⟩
noncomputable def Gm(lo:Int)(n:Nat):List D:=(List.range n).map fun i=>.int (lo+(i:Nat))
theorem A6{lo:Int}{n:Nat}{F:Hp}:Cy K (Itr lo n) F (Gm lo n):=fun F' H sF sH i=>by
 have hl:(Gm lo n).length=n:=by unfold Gm;rw[List.length_map,List.length_range]
 refine⟨fun d hd=>?_,fun h=>by rw[hl]at h;exact h⟩
 have hi:i<n:=by
  have:=(List.getElem?_eq_some_iff.mp hd).1
  rw[hl]at this;exact this
 refine⟨hi,fun x H' zq9=>?_⟩
 obtain⟨e1,e2⟩:=zq9
 subst e1 e2
 unfold Gm at hd
 rw[List.getElem?_map,List.getElem?_range hi]at hd
 cases hd
 exact⟨Zh.refl _,[],List.nodup_nil,fun _ h=>(nomatch h),.int _⟩
noncomputable def Im(j:Int):Prop:=-(2^62)<=j/\j<2^62
theorem Zdv{j:Int}(h0:0<=j)(h:j<=16777216):Im j:=⟨by omega,by omega⟩
theorem Cc{n:Nat}(h:n<=16777216):Im (n:Int):=Zdv (by omega) (by omega)
open Classical in
@[simp] noncomputable def Vs(fa:FA):FD:=fun δ=>(fa δ).bind fun p=>match B9 p.1 p.2 with
 |some [.int j]=>if Im j then some (Gm 0 j.toNat,p.2)else none
 |_=>none
theorem Ziz{fa:FA}{R:It->Hp->Prop}(h:Oj Z (Vs fa) σ H R):Zgb (Jo Z fa) σ H R:=by
 obtain⟨F,δ,own,ds,δ',s,e,k⟩:=h
 refine bnd2 e fun rvs δ1 e1 e2=>?_
 refine⟨F,δ,own,rvs,δ1,s,e1,fun vs H1 F1 own1 sH sF s1 r1=>?_⟩
 dsimp only at e2
 split at e2
 ·rename_i j hj
  have rn:=s1.rdAll r1 hj
  cases rn with
  |cons h t=>
   cases t
   by_cases hb:Im j
   ·rw[if_pos hb]at e2
    cases e2
    exact⟨j,by rw[h.int],hb.1,hb.2,k _ H1 F1 own1 sH sF s1 A6⟩
   ·rw[if_neg hb]at e2;cases e2
 ·cases e2
@[simp] noncomputable def D6(i:Nat)(fe:FE):FS:=fun δ=>match δ[i]? with
 |some (some (.ol _))=>(fe δ).bind fun p=>(frz p.1 p.2).bind fun q=>match q.2[i]? with
  |some (some (.ol xs))=>if xs.length<PySem.sizeLine then some (.nx (q.2.set i (some (.ol (xs++[q.1])))))else none
  |_=>none
 |_=>none
theorem Cd{F:Hp}{xs:List D}{v:V}{ns:Zg}(h:Shape K F (.ol xs) v ns):∃a vs,v= .ref a/\ns=[(a,.lst vs)]/\Reps K F xs vs:=by
 cases h with
 |ol r=>exact⟨_,_,rfl,rfl,r⟩
theorem Zmo{i:Nat}{fe:FE}(h:Zq Z (D6 i fe) E σ H):M5 (tBM K "list" G5 (Jg i) (Q5 (Zb Z fe) Mv)) E σ H:=by
 obtain⟨F,δ,own,fl,s,e,k⟩:=h
 unfold D6 at e
 split at e
 ·rename_i xs0 hx0
  refine bnd2 e fun rv δ1 e1 e2=>?_
  refine bnd2 e2 fun d δ2 e3 e4=>?_
  obtain⟨v,hv,sh⟩:=s.at' i _ hx0
  obtain⟨a,vs0,ev,en,r0⟩:=Cd sh
  refine⟨v,hv,?_,F,δ,own,rv,δ1,s,e1,fun y H1 F1 own1 sH sF s1 r1=>?_⟩
  ·subst ev
   exact .inl ⟨rfl,vs0,.inl (.inl (s.ok i (a,.lst vs0) (by rw[en];exact List.mem_cons_self)).2.2)⟩
  obtain⟨F2,sF2,s2,r2⟩:=s1.settleR r1
  obtain⟨F3,own3,sF3,s3,r3⟩:=s2.frzR r2 e3
  dsimp only at e4
  split at e4
  ·rename_i xs hx
   by_cases hz:xs.length<PySem.sizeLine
   ·rw[if_pos hz]at e4
    cases e4
    obtain⟨v',hv',sh'⟩:=s3.at' i _ hx
    rw[hv]at hv';cases hv'
    obtain⟨b,vs,eb,en',r'⟩:=Cd sh'
    have mb:(b,HO.lst vs)∈own3 i:=by rw[en'];exact List.mem_cons_self
    subst eb
    refine⟨b,vs,y,rfl,rfl,(s3.ok i _ mb).2.2,by rw[<-r'.length];exact hz,?_⟩
    exact k σ _ F3 _ (sF.trans (sF2.trans sF3)) (s3.change (sv':=.ol (xs++[d])) (o':=.lst (vs++[y])) (ns':=[(b,.lst (vs++[y]))]) hx hv mb (.ol (r'.snoc r3)) (fun p hp=>.inl (List.mem_singleton.mp hp)) Tq)
   ·rw[if_neg hz]at e4;cases e4
  ·cases e4
 ·cases e
end
@[simp] noncomputable def Cz(n:Nat)(ds:List D):Ya:=ds.map (fun d=>some (.fz d))++List.replicate (n- ds.length) none
theorem Rw{N:List Str}{F H:Hp}{ds:List D}{vs:List V}(le:Zh F H)(r:Reps K F ds vs):SR (ent H F:Ent K) F H (L2.start N vs) (Cz N.length ds) fun _=>[]:=by
 have hl:=r.length
 refine⟨le,fun b o e=>.inl e,Zh.refl H,?_,fun i sv e=>?_,fun _=>List.nodup_nil,fun _ _ h=>(nomatch h),fun _ _ _ _ _ h=>(nomatch h)⟩
 ·unfold L2.start Cz
  rw[List.length_append,List.length_append,List.length_map,List.length_map,List.length_replicate,List.length_replicate,hl]
 ·unfold Cz at e
  by_cases hi:i<ds.length
  ·rw[List.getElem?_append_left (by simpa using hi),List.getElem?_map]at e
   cases hd:ds[i]? with
   |none=>rw[hd]at e;cases e
   |some d=>
    rw[hd]at e;cases e
    obtain⟨v,h1,h2⟩:=r.get hd
    refine⟨v,?_,.fz h2⟩
    unfold L2.start
    rw[List.getElem?_append_left (by rw[List.length_map];omega),List.getElem?_map,h1]
    rfl
  ·rw[List.getElem?_append_right (by simpa using hi),List.getElem?_replicate]at e
   split at e<;> cases e
theorem D7{n:Nat}{g:List D->Option SV}{vs:List V}{H:Hp}{Q:VK}{E:XK}(h:Qy K n g vs H Q E):vs.length=n:=by
 obtain⟨F,ds,sv,le,r,hn,e,k⟩:=h
 rw[<-r.length];exact hn
end DL
namespace DL
open PySem L2
variable{K:PySem.W.Frag}
noncomputable def xG(K:PySem.W.Frag)(g:FG):TG:=fun v σ H Q=>∃Z:Ent K,U8 Z g v σ H Q
noncomputable def xT(K:PySem.W.Frag)(f:FT):TT:=fun σ H Q=>∃Z:Ent K,Z5 Z f σ H Q
noncomputable def xE(K:PySem.W.Frag)(f:FE):TE:=fun σ H Q=>∃Z:Ent K,Zb Z f σ H Q
noncomputable def N3:FT:=fun δ=>some (true,δ)
@[simp] theorem Zmp(δ:Ya):N3 δ=some (true,δ):=rfl
@[simp] noncomputable def caps(src:List BSrc):List RV:=src.filterMap fun
 | .cap j=>some (.bw j)
 |_=>none
@[simp] noncomputable def Lj(δ:Ya):BSrc->Option SV
 | .own=>none
 | .cap j=>match δ[j]?.join with
  |some (.fz d)=>some (.fz d)
  |_=>none
 | .acc=>some (.ol [])
@[simp] noncomputable def bD(src:List BSrc)(δ:Ya):Ya:=src.map (Lj δ)
@[simp] noncomputable def resetSlot:BSrc->Option SV->Option SV
 | .own,_=>none
 |_,o=>o
@[simp] noncomputable def Ce:List BSrc->Ya->Ya
 |b::r,o::t=>resetSlot b o::Ce r t
 |_,t=>t
@[simp] noncomputable def Io(src:List BSrc)(k:Nat)(g:FG)(tt:FT)(te:FE):List D->Ya->Option Ya
 | [],δ=>some δ
 |d::ds,δ=>(g.run d δ).bind fun δ1=>(tt δ1).bind fun p=>if p.1=true then(te p.2).bind fun q=>(frz q.1 q.2).bind fun r=>match r.2[k]? with
   |some (some (.ol zs))=>if zs.length<PySem.sizeLine then Io src k g tt te ds (Ce src (r.2.set k (some (.ol (zs++[r.1])))))else none
   |_=>none
  else Io src k g tt te ds (Ce src p.2)
@[simp] noncomputable def N4(src:List BSrc)(k:Nat)(fi:FD)(g:FG)(tt:FT)(te:FE):FE:=fun δ=>(fi δ).bind fun p=>(frzAll (caps src) p.2).bind fun c=>(Io src k g tt te p.1 (bD src c.2)).bind fun δb=>match δb[k]? with
 |some (some (.ol ys))=>some (.tmp (.ol ys),c.2)
 |_=>none
theorem C0:∀(src:List BSrc) (δ:Ya),(Ce src δ).length=δ.length
 | [],t=>by unfold Ce;rfl
 |_::_,[]=>by unfold Ce;rfl
 |b::r,o::t=>by show(resetSlot b o::Ce r t).length=_;rw[List.length_cons,List.length_cons,C0 r t]
theorem C1:∀{src:List BSrc} {δ:Ya} {i:Nat} {sv:SV},(Ce src δ)[i]? =some (some sv)->δ[i]? =some (some sv)
 | [],_,_,_,h=>h
 |_::_,[],_,_,h=>h
 |b::r,o::t,0,sv,h=>by
  have h:some (resetSlot b o)=some (some sv):=h
  cases b with
  |own=>cases h
  |cap j=>exact h
  |acc=>exact h
 |b::r,o::t,i+1,sv,h=>by
  have h:(Ce r t)[i]? =some (some sv):=h
  show t[i]? =_
  exact C1 h
section
variable{Z:Ent K}{F H:Hp}{σ:St}{δ δ':Ya}{own:Nat->Zg}
theorem SR.forget(s:SR Z F H σ δ own)(hl:δ'.length=δ.length)(h:∀(i:Nat) (sv:SV),δ'[i]? =some (some sv)->δ[i]? =some (some sv)):SR Z F H σ δ' own:=
 ⟨s.le,s.fro,s.old,s.len.trans hl.symm,fun i sv e=>s.at' i sv (h i sv e),s.nod,s.ok,s.sep⟩
theorem SR.caps:∀{rvs:List RV} {ds:List D} {δ δ':Ya} {F:Hp} {own:Nat->Zg},(∀rv∈rvs,∃j,rv= .bw j)->SR Z F H σ δ own->DL.frzAll rvs δ=some (ds,δ')->∃F1 own1,Zh F F1/\SR Z F1 H σ δ' own1
 | [],_,_,_,F,own,_,s,e=>by cases e;exact⟨F,own,Zh.refl F,s⟩
 |rv::r,_,_,_,F,own,hb,s,e=>by
  refine bnd2 e fun d δ1 e1 e2=>?_
  refine bnd2 e2 fun ds δ2 e3 e4=>?_
  cases e4
  obtain⟨j,rfl⟩:=hb rv List.mem_cons_self
  refine bnd1 e1 fun sv e5 e6=>?_
  cases e6
  obtain⟨F1,v,sF,_,_,s1⟩:=s.freeze (Ud e5)
  obtain⟨F2,own2,sF2,s2⟩:=SR.caps (fun rv h=>hb rv (List.mem_cons_of_mem _ h)) s1 e3
  exact⟨F2,own2,sF.trans sF2,s2⟩
theorem SR.after{F3 H3:Hp}(s2:SR Z F H σ δ own)(sH3:Zh H H3)(sF3:Zh F F3)(le3:Zh F3 H3)(fro3:∀(b:Addr) (o:HO),F3 b=some o->F b=some o\/H b=none):SR Z F3 H3 σ δ own:=by
 refine⟨le3,fun b o e=>?_,s2.old.trans sH3,s2.len,fun i sw ei=>?_,s2.nod,fun i p hp=>?_,s2.sep⟩
 ·rcases fro3 b o e with z|z
  ·exact s2.fro b o z
  ·exact .inr (s2.old.free z)
 ·obtain⟨w,h1,h2⟩:=s2.at' i sw ei
  exact⟨w,h1,h2.mono sF3⟩
 ·obtain⟨a,b,c⟩:=s2.ok i p hp
  refine⟨?_,b,sH3 _ _ c⟩
  cases z:F3 p.1 with
  |none=>rfl
  |some u=>
   rcases fro3 _ u z with y|y
   ·rw[a]at y;cases y
   ·rw[c]at y;cases y
end
structure SrcOk(src:List BSrc)(k:Nat):Prop where
 acc:src[k]? =some .acc
 uni:∀i:Nat,src[i]? =some .acc->i=k
theorem D8{Z:Ent K}{F H:Hp}{σ:St}{δ:Ya}{own:Nat->Zg}{src:List BSrc}{k:Nat}{acc:Addr}(S:SrcOk src k)(s:SR Z F H σ δ own)(ha:H acc=none):
  SR (ent H F:Ent K) F (Ys H acc (.lst [])) (K6 src σ acc) (bD src δ) (fun i=>if i=k then[(acc,.lst [])]else[]):=by
 have mem:∀{i:Nat} {p:Addr×HO},p∈(if i=k then[(acc,HO.lst [])]else[])->i=k/\p=(acc,.lst []):=fun{i p} h=>by
  by_cases hi:i=k
  ·rw[if_pos hi]at h;exact⟨hi,List.mem_singleton.mp h⟩
  ·rw[if_neg hi]at h;exact nomatch h
 refine⟨s.le.trans (Wg ha),fun b o e=>.inl e,Wg ha,by unfold K6 bD;rw[List.length_map,List.length_map],fun i sv e=>?_,fun i=>?_,fun i p hp=>?_,fun i j p q hij hp hq=>?_⟩
 ·unfold bD at e
  rw[List.getElem?_map]at e
  cases hq:src[i]? with
  |none=>rw[hq]at e;cases e
  |some q=>
   rw[hq]at e
   have e:Lj δ q=some sv:=Option.some.inj e
   cases q with
   |own=>cases e
   |acc=>
    cases e
    have hi:=S.uni i hq
    refine⟨.ref acc,by unfold K6;rw[List.getElem?_map,hq];rfl,?_⟩
    show Shape K F (.ol []) (.ref acc) (if i=k then[(acc,.lst [])]else[])
    rw[if_pos hi]
    exact .ol .nil
   |cap j=>
    have hi:i≠k:=fun z=>by rw[z,S.acc]at hq;cases hq
    unfold Lj at e
    dsimp only at e
    split at e
    ·rename_i d hd
     cases e
     obtain⟨v,h1,h2⟩:=s.at' j _ (Ud hd)
     refine⟨v,by unfold K6;rw[List.getElem?_map,hq];show some (σ[j]?).join=_;rw[h1];rfl,?_⟩
     show Shape K F (.fz d) v (if i=k then[(acc,.lst [])]else[])
     rw[if_neg hi]
     exact .fz (Ja h2)
    ·cases e
 ·show(Yi (if i=k then[(acc,HO.lst [])]else[])).Nodup
  by_cases hi:i=k
  ·rw[if_pos hi];exact Tq
  ·rw[if_neg hi];exact List.nodup_nil
 ·obtain⟨_,rfl⟩:=mem hp
  exact⟨s.le.free ha,ha,Zu⟩
 ·obtain⟨z,_⟩:=mem hp
  obtain⟨y,_⟩:=mem hq
  exact absurd (z.trans y.symm) hij
theorem Zi0{Z:Ent K}{H:Hp}{σ:St}{Q:VK}{src:List BSrc}{k:Nat}{fi:FD}{g:FG}{tt:FT}{te:FE}(S:SrcOk src k)(hk:k∉g.tch)(h:Zb Z (N4 src k fi g tt te) σ H Q):
  Zgp src (Oj Z fi) (xG K g) (xT K tt) (xE K te) σ H Q:=by
 obtain⟨F,δ,own,rv,δ',s,e,k0⟩:=h
 refine bnd2 e fun ds δ1 e1 e2=>?_
 refine bnd2 e2 fun cs δ2 e3 e4=>?_
 refine bnd1 e4 fun δf e5 e6=>?_
 refine⟨F,δ,own,ds,δ1,s,e1,fun J H1 F1 own1 sH sF s1 yl acc ha=>?_⟩
 obtain⟨F2,own2,sF2,s2⟩:=s1.caps (fun rv hr=>by
  unfold DL.caps at hr
  obtain⟨b,_,hb⟩:=List.mem_filterMap.mp hr
  cases b with
  |own=>cases hb
  |acc=>cases hb
  |cap j=>cases hb;exact⟨j,rfl⟩) e3
 have s3:=D8 S s2 ha
 have hacc0:(K6 src σ acc)[k]? =some (some (.ref acc)):=by unfold K6;rw[List.getElem?_map,S.acc];rfl
 refine⟨fun i m σ' H=>m=ds.length- i/\i<=ds.length/\σ'[k]? =some (some (.ref acc))/\∃F δ own,Zh F2 F/\SR (ent H1 F2:Ent K) F H σ' δ own/\Io src k g tt te (ds.drop i) δ=some δf,
  ⟨ds.length,by simp,Nat.zero_le _,hacc0,F2,_,_,Zh.refl F2,s3,e5⟩,?_⟩
 rintro i m σ4 H4 ⟨rfl,hi,hacc,F4,δ4,own4,sF4,s4,ef⟩
 by_cases hlt:i<ds.length
 ·have hd:ds[i]? =some ds[i]:=by simp[hlt]
  obtain⟨go,yy⟩:=(yl F4 H4 (sF2.trans sF4) s4.le i).1 _ hd
  rw[List.drop_eq_getElem_cons hlt]at ef
  refine bnd1 ef fun δ5 e7 e8=>?_
  refine bnd2 e8 fun b δ6 e9 e10=>?_
  refine .inr ⟨go,fun x H5 hy=>?_⟩
  obtain⟨sm,ns,nd,hn,rp⟩:=yy x H5 hy
  obtain⟨sFn,sn⟩:=s4.fresh sm nd hn
  refine⟨(ent H1 F2:Ent K),Qa F4 ns,δ4,own4,_,δ5,sn,rp,e7,fun σ6 own6 s6 t6=>⟨(ent H1 F2:Ent K),Qa F4 ns,δ5,own6,b,δ6,s6,e9,fun H7 F7 own7 sH7 sF7 s7=>?_⟩⟩
  have hacc6:σ6[k]? =some (some (.ref acc)):=(t6 k hk).trans hacc
  cases b with
  |false=>
   dsimp only
   rw[if_neg Bool.false_ne_true]at e10⊢
   exact⟨ds.length- (i+1),by omega,rfl,hlt,hacc6,F7,_,own7,sF4.trans (sFn.trans sF7),s7.forget (C0 src δ6) (fun j sv hj=>C1 hj),e10⟩
  |true=>
   dsimp only
   rw[if_pos rfl]at e10⊢
   refine bnd2 e10 fun rv8 δ8 e11 e12=>?_
   refine bnd2 e12 fun d9 δ9 e13 e14=>?_
   refine⟨(ent H1 F2:Ent K),F7,δ6,own7,rv8,δ8,s7,e11,fun y H8 F8 own8 sH8 sF8 s8 r8=>?_⟩
   obtain⟨F9,sF9,s9,r9⟩:=s8.settleR r8
   obtain⟨F10,own10,sF10,s10,r10⟩:=s9.frzR r9 e13
   dsimp only at e14
   split at e14
   ·rename_i zs hz
    by_cases hzl:zs.length<PySem.sizeLine
    ·rw[if_pos hzl]at e14
     obtain⟨v',hv',sh'⟩:=s10.at' k _ hz
     rw[hacc6]at hv';cases hv'
     obtain⟨b,vs,eb,en',r'⟩:=Cd sh'
     cases eb
     have mb:(acc,HO.lst vs)∈own10 k:=by rw[en'];exact List.mem_cons_self
     refine⟨acc,vs,y,rfl,rfl,(s10.ok k _ mb).2.2,by rw[<-r'.length];exact hzl,?_⟩
     have s11:=s10.change (sv':=.ol (zs++[d9])) (o':=.lst (vs++[y])) (ns':=[(acc,.lst (vs++[y]))]) hz hacc6 mb (.ol (r'.snoc r10)) (fun p hp=>.inl (List.mem_singleton.mp hp)) Tq
     exact⟨ds.length- (i+1),by omega,rfl,hlt,hacc6,F10,_,_,sF4.trans (sFn.trans (sF7.trans (sF8.trans (sF9.trans sF10)))),s11.forget (C0 src _) (fun j sv hj=>C1 hj),e14⟩
    ·rw[if_neg hzl]at e14;cases e14
   ·cases e14
 ·have hz:i=ds.length:=by omega
  subst hz
  rw[List.drop_length]at ef
  cases ef
  refine .inl ⟨(yl F4 H4 (sF2.trans sF4) s4.le _).2 (Nat.le_refl _),?_⟩
  dsimp only at e6
  split at e6
  ·rename_i ys hys
   cases e6
   obtain⟨v',hv',sh'⟩:=s4.at' k _ hys
   rw[hacc]at hv';cases hv'
   obtain⟨b,vs,eb,en',r'⟩:=Cd sh'
   cases eb
   have mb:(acc,HO.lst vs)∈own4 k:=by rw[en'];exact List.mem_cons_self
   obtain⟨o1,o2,o3⟩:=s4.ok k _ mb
   refine k0 (.ref acc) H4 F4 own2 (sH.trans s4.old) (sF.trans (sF2.trans sF4)) (s2.after s4.old sF4 s4.le fun b o e=>s4.fro b o e) ⟨[(acc,.lst vs)],.ol r',Tq,fun p hp=>?_,fun j p q hp hq e=>?_⟩
   ·obtain rfl:=List.mem_singleton.mp hp
    exact⟨o1,s2.old.free ha,o3⟩
   ·obtain rfl:=List.mem_singleton.mp hp
    have z:=(s2.ok j q hq).2.2
    have e':acc=q.1:=e
    rw[<-e',ha]at z;cases z
  ·cases e6
end DL
namespace DL
open PySem PySem.Spec PyProof.Rows L2
variable{K:PySem.W.Frag}
variable{Z:Ent K}
@[simp] noncomputable def Vt(f:Int->Int->D):D->D->Option SV
 | .int i,.int j=>some (.fz (f i j))
 |_,_=>none
@[simp] noncomputable def Vu(C:Int->Int->Bool)(f:Int->Int->D):D->D->Option SV
 | .int i,.int j=>if C i j=true then some (.fz (f i j))else none
 |_,_=>none
theorem N5{g:Int->Int->V}{f:Int->Int->D}(hr:∀F i j,Rep K F (f i j) (g i j)):Yg Z (Va g) (Vt f):=by
 intro F H σ δ own x y d1 d2 sv Q s r1 r2 e k
 unfold Vt at e
 split at e
 ·cases e
  exact⟨_,_,r1.int,r2.int,k.fz s (hr _ _ _)⟩
 ·cases e
theorem Zdw{C:Int->Int->Prop}{c:Int->Int->Bool}{g:Int->Int->V}{f:Int->Int->D}(hc:∀i j,c i j=true->C i j)(hr:∀F i j,Rep K F (f i j) (g i j)):Yg Z (rI C g) (Vu c f):=by
 intro F H σ δ own x y d1 d2 sv Q s r1 r2 e k
 unfold Vu at e
 split at e
 ·split at e
  ·rename_i hcc
   cases e
   exact⟨_,_,r1.int,r2.int,hc _ _ hcc,k.fz s (hr _ _ _)⟩
  ·cases e
 ·cases e
@[simp] noncomputable def Zi1:D->D->Option SV:=Vt fun i j=>.int (i- j)
noncomputable def D9(i j:Int):Bool:=(decide (-(2^64)<i)&&decide (i<2^64))|| (decide (-(2^64)<j)&&decide (j<2^64))
@[simp] noncomputable def Zmq:D->D->Option SV:=Vu D9 fun i j=>.int (i*j)
@[simp] noncomputable def Zmr(i j:Int):Bool:=decide (0<j)&&decide (j<1073741824)
@[simp] noncomputable def U9:D->D->Option SV:=Vu Zmr fun i j=>.int (i / j)
@[simp] noncomputable def Zms(i j:Int):Bool:=decide (0<j)
@[simp] noncomputable def Ut:D->D->Option SV:=Vu Zms fun i j=>.int (i % j)
@[simp] noncomputable def Zmt(i j:Int):Bool:=decide (0<=j)&&decide (j<=1000000)&&decide (i.natAbs<2^64)
@[simp] noncomputable def Vv:D->D->Option SV:=Vu Zmt fun i j=>.int (i^j.toNat)
theorem Zmu:Yg Z (Va fun i j=>V.int (i- j)) Zi1:=N5 fun _ _ _=>.int _
theorem Zmv:Yg Z (rI Hi fun i j=>V.int (i*j)) Zmq:=Zdw (fun i j h=>by
 unfold D9 at h
 simp only[Bool.or_eq_true,Bool.and_eq_true,decide_eq_true_eq]at h
 exact h) fun _ _ _=>.int _
theorem Zi2:Yg Z (rI Zly fun i j=>V.int (i / j)) U9:=Zdw (fun i j h=>by
 unfold Zmr at h
 simp only[Bool.and_eq_true,decide_eq_true_eq]at h
 exact h) fun _ _ _=>.int _
theorem Zmw:Yg Z (rI (fun _ j=>0<j) fun i j=>V.int (i % j)) Ut:=Zdw (fun i j h=>by
 unfold Zms at h
 simp only[decide_eq_true_eq]at h
 exact h) fun _ _ _=>.int _
theorem Zmx:Yg Z (rI Zlz fun i j=>V.int (i^j.toNat)) Vv:=Zdw (fun i j h=>by
 unfold Zmt at h
 simp only[Bool.and_eq_true,decide_eq_true_eq]at h
 exact⟨h.1.1,h.1.2,h.2⟩) fun _ _ _=>.int _
@[simp] noncomputable def ltD:D->D->Option SV:=Vt fun i j=>.bl (decide (i<j))
@[simp] noncomputable def leD:D->D->Option SV:=Vt fun i j=>.bl (decide (i<=j))
@[simp] noncomputable def gtD:D->D->Option SV:=Vt fun i j=>.bl (decide (j<i))
theorem Zp6:Yg Z (Va fun i j=>V.bl (decide (i<j))) ltD:=N5 fun _ _ _=>.bl _
theorem Zm0:Yg Z (Va fun i j=>V.bl (decide (i<=j))) leD:=N5 fun _ _ _=>.bl _
theorem Zp7:Yg Z (Va fun i j=>V.bl (decide (j<i))) gtD:=N5 fun _ _ _=>.bl _
noncomputable def Zp8:R2:=fun x y H Q=>∃i j,x= .str i/\y= .str j/\i.length+j.length<=PySem.sizeLine/\Q (.str (i++j)) H
noncomputable def Zgr(K:PySem.W.Frag):R2:=fun x y H Q=>∃l b xs zs,x= .ref l/\y= .ref b/\Of K H l xs/\Of K H b zs/\xs.length+zs.length<=PySem.sizeLine/\∀p,H p=none->Q (.ref p) (Ys H p (.lst (xs++zs)))
theorem Zdx{X:Cx}:Jk X (binaryOp .Add) (Zgr X.K):=by
 intro pins s σ H x y v u Q I rx ry h
 obtain⟨l,b,xs,zs,rfl,rfl,hH,hB,hz,q⟩:=h
 cases rx
 cases ry
 obtain⟨its,r,pl,z⟩:=I.list hH
 obtain⟨its2,r2,pl2,z2⟩:=I.list hB
 have hl:=r.length
 have hl2:=r2.length
 obtain⟨⟨cls,dd,data,sl⟩,ho,hc,n,hd⟩:=pl.isList
 obtain⟨⟨cls2,dd2,data2,sl2⟩,ho2,hc2,n2,hd2⟩:=pl2.isList
 simp only at hc hd hc2 hd2
 subst hc hd hc2 hd2
 have ea:its.toArray++its2.toArray=(its++its2).toArray:=by simp
 refine concat_meets ⟨_,ho,rfl⟩ ⟨_,ho2,rfl⟩ noFill_list_add seq_list_add PySem.F.slot_list_add PySem.F.entry_list_add (PySem.F.args_list_add_2 _ _) (list_addW l b its.toArray its2.toArray n n2 dd dd2 sl sl2 (by rw[List.size_toArray,List.size_toArray];omega)) ⟨ho,ho2,?_⟩
 rw[ea]
 exact⟨.ref _,_,I.lnew (t':=s.toks) (r.append r2) (by rw[List.length_append];omega),rfl,q _ I.fresh⟩
noncomputable def Zgs(K:PySem.W.Frag):R2:=fun x y H Q=>Va (fun i j=>V.int (i+j)) x y H Q\/(Zp8 x y H Q\/Zgr K x y H Q)
theorem Zdy{X:Cx}:Jk X (binaryOp .Add) (Zgs X.K):=Zh4.or (Ks.or Zdx)
@[simp] noncomputable def Yk:D->D->Option SV
 | .int i,.int j=>some (.fz (.int (i+j)))
 | .str x,.str y=>if x.length+y.length<=PySem.sizeLine then some (.fz (.str (x++y)))else none
 | .lst xs,.lst ys=>if xs.length+ys.length<=PySem.sizeLine then some (.ol (xs++ys))else none
 |_,_=>none
theorem Zm1:Yg Z (Zgs K) Yk:=by
 intro F H σ δ own x y d1 d2 sv Q s r1 r2 e k
 unfold Yk at e
 split at e
 ·cases e
  exact .inl ⟨_,_,r1.int,r2.int,k.fz s (.int _)⟩
 ·split at e
  ·rename_i hz
   cases e
   exact .inr (.inl ⟨_,_,r1.str,r2.str,hz,k.fz s (.str _)⟩)
  ·cases e
 ·split at e
  ·rename_i hz
   cases e
   obtain⟨a,vs,ex,ha,ra⟩:=r1.lst s.le
   obtain⟨b,us,ey,hb,rb⟩:=r2.lst s.le
   exact .inr (.inr ⟨a,b,vs,us,ex,ey,ha,hb,by rw[<-ra.length,<-rb.length];exact hz,fun p hp=>k.lst s (ra.append rb) hp⟩)
  ·cases e
 ·cases e
@[simp] noncomputable def eqS:D->D->Option Bool
 | .non,.non=>some true
 | .non,.int _=>some false
 | .int _,.non=>some false
 | .non,.bl _=>some false
 | .bl _,.non=>some false
 | .non,.str _=>some false
 | .str _,.non=>some false
 | .int i,.int j=>some (decide (i=j))
 | .bl i,.bl j=>some (decide (i=j))
 | .str i,.str j=>some (decide (i=j))
 | .int _,.str _=>some false
 | .str _,.int _=>some false
 | .bl _,.str _=>some false
 | .str _,.bl _=>some false
 |_,_=>none
theorem Zaa{F H:Hp}{d1 d2:D}{x y:V}{b:Bool}(e:eqS d1 d2=some b)(r1:Yc K F H d1 x)(r2:Yc K F H d2 y):scal x y=true/\b=decide (x=y):=by
 unfold eqS at e
 split at e<;> cases e
 ·rw[r1.non,r2.non];exact⟨rfl,by simp⟩
 ·rw[r1.non,r2.int];exact⟨rfl,by simp⟩
 ·rw[r1.int,r2.non];exact⟨rfl,by simp⟩
 ·rw[r1.non,r2.bl];exact⟨rfl,by simp⟩
 ·rw[r1.bl,r2.non];exact⟨rfl,by simp⟩
 ·rw[r1.non,r2.str];exact⟨rfl,by simp⟩
 ·rw[r1.str,r2.non];exact⟨rfl,by simp⟩
 ·rw[r1.int,r2.int];exact⟨rfl,by simp⟩
 ·rw[r1.bl,r2.bl];exact⟨rfl,by simp⟩
 ·rw[r1.str,r2.str];exact⟨rfl,by simp⟩
 ·rw[r1.int,r2.str];exact⟨rfl,by simp⟩
 ·rw[r1.str,r2.int];exact⟨rfl,by simp⟩
 ·rw[r1.bl,r2.str];exact⟨rfl,by simp⟩
 ·rw[r1.str,r2.bl];exact⟨rfl,by simp⟩
@[simp] noncomputable def eqD(d1 d2:D):Option SV:=(eqS d1 d2).bind fun b=>some (.fz (.bl b))
@[simp] noncomputable def neD(d1 d2:D):Option SV:=(eqS d1 d2).bind fun b=>some (.fz (.bl (!b)))
theorem Zp9:Yg Z rEq eqD:=by
 intro F H σ δ own x y d1 d2 sv Q s r1 r2 e k
 refine bnd1 e fun b e1 e2=>?_
 cases e2
 obtain⟨h1,h2⟩:=Zaa e1 r1 r2
 subst h2
 exact⟨h1,k.fz s (.bl _)⟩
theorem Zqa:Yg Z rNe neD:=by
 intro F H σ δ own x y d1 d2 sv Q s r1 r2 e k
 refine bnd1 e fun b e1 e2=>?_
 cases e2
 obtain⟨h1,h2⟩:=Zaa e1 r1 r2
 subst h2
 exact⟨h1,k.fz s (.bl _)⟩
@[simp] noncomputable def D.isNon:D->Bool
 | .non=>true
 |_=>false
theorem Ip{F H:Hp}{d:D}{x:V}(r:Yc K F H d x):decide (x= .non)=d.isNon:=by
 obtain⟨sv,ns,e,n,sh,hp⟩:=r
 subst e
 cases sh with
 |fz r=>cases r<;> rfl
 |oG _ _=>cases n
 |_=>rfl
@[simp] noncomputable def Vw(d1 d2:D):Option SV:=if d2.isNon=true then some (.fz (.bl d1.isNon))else none
@[simp] noncomputable def N6(d1 d2:D):Option SV:=if d2.isNon=true then some (.fz (.bl (!d1.isNon)))else none
theorem Iq{d:D}(h:d.isNon=true):d= .non:=by cases d<;> first|rfl|cases h
theorem Zm2:Yg Z (fun x y H Q=>y=V.non/\Q (.bl (decide (x= .non))) H) Vw:=by
 intro F H σ δ own x y d1 d2 sv Q s r1 r2 e k
 unfold Vw at e
 split at e
 ·rename_i h
  cases e
  have:=Iq h
  subst this
  exact⟨r2.non,by rw[Ip r1];exact k.fz s (.bl _)⟩
 ·cases e
theorem Zi3:Yg Z (fun x y H Q=>y=V.non/\Q (.bl (!decide (x= .non))) H) N6:=by
 intro F H σ δ own x y d1 d2 sv Q s r1 r2 e k
 unfold N6 at e
 split at e
 ·rename_i h
  cases e
  have:=Iq h
  subst this
  exact⟨r2.non,by rw[Ip r1];exact k.fz s (.bl _)⟩
 ·cases e
theorem Reps.atI{F:Hp}{xs:List D}{vs:List V}{i:Int}{d:D}(r:Reps K F xs vs)(e:L2.atI xs i=some d):∃v,L2.atI vs i=some v/\Rep K F d v:=by
 unfold L2.atI at e⊢
 refine bnd1 e fun j e1 e2=>?_
 obtain⟨v,h1,h2⟩:=r.get e2
 exact⟨v,Option.bind_eq_some_iff.mpr ⟨j,by rw[<-r.length];exact e1,h1⟩,h2⟩
@[simp] noncomputable def ixD:D->D->Option SV
 | .lst xs,.int i=>(L2.atI xs i).bind fun d=>some (.fz d)
 | .tup xs,.int i=>(L2.atI xs i).bind fun d=>some (.fz d)
 | .str z,.int i=>if z.length<=PySem.sizeLine then(L2.atI z.cps.toList i).bind fun c=>some (.fz (.str ⟨#[c]⟩))else none
 |_,_=>none
theorem Zqb:Yg Z (rIx K) ixD:=by
 intro F H σ δ own x y d1 d2 sv Q s r1 r2 e k
 unfold ixD at e
 split at e
 ·refine bnd1 e fun d e1 e2=>?_
  cases e2
  obtain⟨a,vs,ex,ha,ra⟩:=r1.lst s.le
  obtain⟨v,h1,h2⟩:=ra.atI e1
  exact .inl ⟨a,vs,_,v,ex,r2.int,ha,h1,k.fz s h2⟩
 ·refine bnd1 e fun d e1 e2=>?_
  cases e2
  obtain⟨a,vs,ex,ha,ra⟩:=r1.tup s.le
  obtain⟨v,h1,h2⟩:=ra.atI e1
  exact .inr (.inl ⟨a,vs,_,v,ex,r2.int,ha,h1,k.fz s h2⟩)
 ·split at e
  ·rename_i hz
   refine bnd1 e fun c e1 e2=>?_
   cases e2
   exact .inr (.inr ⟨_,_,c,r1.str,r2.int,hz,e1,k.fz s (.str _)⟩)
  ·cases e
 ·cases e
noncomputable abbrev FO:=Ya->Option (Option Int×Ya)
noncomputable def Tu(Z:Ent K)(f:FO):TO:=fun σ H Q=>∃F δ own o δ',SR Z F H σ δ own/\f δ=some (o,δ')/\∀H' F' own',Zh H H'->Zh F F'->SR Z F' H' σ δ' own'->Q o H'
@[simp] noncomputable def N7(fe:FE):FO:=fun δ=>(fe δ).bind fun p=>match p.1 with
 | .tmp (.fz (.int i))=>some (some i,p.2)
 |_=>none
section
variable{H:Hp}{σ:L2.St}{Q:VK}{R:Option Int->Hp->Prop}
theorem Zi4{fe:FE}(h:Tu Z (N7 fe) σ H R):Zgj (Zb Z fe) σ H R:=by
 obtain⟨F,δ,own,b,δ',s,e,k⟩:=h
 refine bnd2 e fun rv δ1 e1 e2=>?_
 refine⟨F,δ,own,rv,δ1,s,e1,fun v H1 F1 own1 sH sF s1 r1=>?_⟩
 dsimp only at e2
 split at e2
 ·cases e2
  obtain⟨ns,t⟩:=r1
  cases Ja t.sh
  exact⟨_,rfl,k H1 F1 own1 sH sF s1⟩
 ·cases e2
@[simp] noncomputable def slF(g:D->Option Int->Option Int->Option SV)(fe:FE)(fl fh:FO):FE:=fun δ=>(fe δ).bind fun p=>(fl p.2).bind fun l=>(fh l.2).bind fun h=>(N1 p.1 h.2).bind fun d=>(g d l.1 h.1).bind fun sv=>some (.tmp sv,h.2)
noncomputable def Zgu(Z:Ent K)(r:V->Option Int->Option Int->Hp->VK->Prop)(g:D->Option Int->Option Int->Option SV):Prop:=
 ∀(F H:Hp) (σ:L2.St) (δ:Ya) (own:Nat->Zg) (x:V) (d:D) (lo hi:Option Int) (sv:SV) (Q:VK),SR Z F H σ δ own->Yc K F H d x->g d lo hi=some sv->Ts Z F H σ δ own sv Q->r x lo hi H Q
theorem Zqd{r:V->Option Int->Option Int->Hp->VK->Prop}{g:D->Option Int->Option Int->Option SV}{fe:FE}{fl fh:FO}(hg:Zgu Z r g)(h:Zb Z (slF g fe fl fh) σ H Q):tSl r (Zb Z fe) (Tu Z fl) (Tu Z fh) σ H Q:=by
 obtain⟨F,δ,own,rv,δ',s,e,k⟩:=h
 refine bnd2 e fun rv1 δ1 e1 e=>?_
 refine bnd2 e fun lo δ2 e2 e=>?_
 refine bnd2 e fun hi δ3 e3 e=>?_
 refine bnd1 e fun d e4 e=>?_
 refine bnd1 e fun sv e5 e=>?_
 cases e
 refine⟨F,δ,own,rv1,δ1,s,e1,fun v H1 F1 own1 sH1 sF1 s1 r1=>?_⟩
 obtain⟨F1',sF1',s1',r1'⟩:=s1.settleR r1
 refine⟨F1',δ1,own1,lo,δ2,s1',e2,fun H2 F2 own2 sH2 sF2 s2=>⟨F2,δ2,own2,hi,δ3,s2,e3,fun H3 F3 own3 sH3 sF3 s3=>?_⟩⟩
 exact hg F3 H3 σ δ3 own3 v d lo hi sv Q s3 (s3.rd (r1'.mono (sF2.trans sF3)) e4) e5 fun q H4 F4 ns sH4 sF4 s4 t4=>
  k q H4 F4 own3 (sH1.trans (sH2.trans (sH3.trans sH4))) (sF1.trans (sF1'.trans (sF2.trans (sF3.trans sF4)))) s4 ⟨ns,t4⟩
end
noncomputable def Zab(xs:List D)(lo hi:Option Int):List D:=(xs.drop (HT.sIx xs.length 0 lo)).take (HT.sIx xs.length xs.length hi- HT.sIx xs.length 0 lo)
theorem Reps.cut{F:Hp}{xs:List D}{vs:List V}(r:Reps K F xs vs)(lo hi:Option Int):Reps K F (Zab xs lo hi) (Vf vs lo hi):=by
 unfold Zab Vf
 rw[r.length]
 exact(r.drop _).take _
noncomputable def Zm3:V->Option Int->Option Int->Hp->VK->Prop:=fun x lo hi H Q=>∃z,x= .str z/\z.length<=PySem.sizeLine/\Q (.str (Txt.slice z lo hi)) H
theorem Zi5{X:Cx}:SlR X Zm3:=by
 intro pins s σ H x v vl vu lo hi sl Q I rx hs pl pu h
 obtain⟨z,rfl,hz,q⟩:=h
 obtain⟨t,rfl⟩:=rx
 refine⟨"str",_,F.slot_str_getitem.lookup,typeIs_str _ _ _,?_⟩
 have fin:∀(t':Tok) (k:Nat),EP X pins σ Q (.str (Txt.slice z lo hi) t') {s with toks:=k}:=fun t' k=>⟨.str (Txt.slice z lo hi),H,I.tok _,⟨_,rfl⟩,q⟩
 cases pl with
 |none=>cases pu with
  |none=>exact wpAny_getItem_str_slice (l:=none) (u:=none) (st:=none) hs rfl (post_val_or_str ⟨Nat.le_trans (Txt.slice_le z _ _) hz,fin⟩)
  |int j tj=>exact wpAny_getItem_str_slice (l:=none) (u:=some (j,tj)) (st:=none) hs rfl (post_val_or_str ⟨Nat.le_trans (Txt.slice_le z _ _) hz,fin⟩)
 |int i ti=>cases pu with
  |none=>exact wpAny_getItem_str_slice (l:=some (i,ti)) (u:=none) (st:=none) hs rfl (post_val_or_str ⟨Nat.le_trans (Txt.slice_le z _ _) hz,fin⟩)
  |int j tj=>exact wpAny_getItem_str_slice (l:=some (i,ti)) (u:=some (j,tj)) (st:=none) hs rfl (post_val_or_str ⟨Nat.le_trans (Txt.slice_le z _ _) hz,fin⟩)
@[simp] noncomputable def slD:D->Option Int->Option Int->Option SV
 | .lst xs,lo,hi=>some (.ol (Zab xs lo hi))
 | .str z,lo,hi=>if z.length<=PySem.sizeLine then some (.fz (.str (Txt.slice z lo hi)))else none
 |_,_,_=>none
theorem Zqe:Zgu Z (fun x lo hi H Q=>Zl7 K x lo hi H Q\/Zm3 x lo hi H Q) slD:=by
 intro F H σ δ own x d lo hi sv Q s r1 e k
 unfold slD at e
 split at e
 ·cases e
  obtain⟨a,vs,ex,ha,ra⟩:=r1.lst s.le
  exact .inl ⟨a,vs,ex,ha,fun p hp=>k.lst s (ra.cut _ _) hp⟩
 ·split at e
  ·rename_i hz
   cases e
   exact .inr ⟨_,r1.str,hz,k.fz s (.str _)⟩
  ·cases e
 ·cases e
end DL
namespace L2
open PySem PySem.Spec PyProof.Rows
section
variable{X:Cx}{tg:Expr}
noncomputable def Ite(K:PySem.W.Frag)(a:Addr):It:=
 ⟨fun i H=>∃xs x,Of K H a xs/\xs[i]? =some x,fun i H x H'=>∃p v,x= .ref p/\H p=none/\H'=Ys H p (.tup [.int (i:Nat),v])/\∀xs,Of K H a xs->xs[i]? =some v,fun i H=>∃xs,Of K H a xs/\xs.length<=i⟩
theorem Inv.turnedT{pins:List (Addr×Obj)}{σ:L2.St}{H:Hp}{s:Shared}{h':Heap}{t':Nat}{e it T:Addr}{xs:List V}{its:List Value}(I:Inv X pins σ H s)(k:∀b o,b≠e->b≠it->s.heap.get? b=some o->h'.get? b=some o)
  (f1:Gv X pins H e) (f2:Gv X pins H it) (hT:T=s.heap.objs.size) (ht:IsTup h' T its.toArray) (rv:Yb xs its) (hz:xs.length<=sizeLine) (he:∃o,h'.get? e=some o) (hi:∃o,h'.get? it=some o):
  Inv X pins σ (Ys H T (.tup xs)) {s with heap:=h',toks:=t'}:=by
 have hTn:H T=none:=by rw[hT];exact I.hok.fresh (Nat.le_refl _)
 have neT:∀b o,s.heap.get? b=some o->b≠T:=fun b o q=>by rw[hT];exact Nat.ne_of_lt (Heap.lt_size q)
 have ntr:∀b u,H b=some u->b≠e/\b≠it:=fun b u q=>⟨(fun z=>by rw[z,f1.1]at q;cases q),(fun z=>by rw[z,f2.1]at q;cases q)⟩
 refine I.step (g':=s.gens) (d':=s.drawn) (ch:=[e,it]) (fun b hb=>?_) (fun b o _ _ hc q _=>k b o (fun z=>hc (by simp[z])) (fun z=>hc (by simp[z])) q)
  (fun b o _ _ hc q _=>⟨o.slots,k b o (fun z=>hc (by simp[z])) (fun z=>hc (by simp[z])) q⟩) (fun b o _ q n=>by rw[Zl (neT b o q)];exact n)
  (fun b o hc q=>⟨o,k b o (fun z=>hc (by simp[z])) (fun z=>hc (by simp[z])) q⟩) (fun b ys q=>by rw[Zl (Yt q hTn)];exact q) (fun b o u q=>by rw[Zl (Yt q hTn)];exact q)
  (fun b ps q=>⟨#[],by rw[Zl (Yt q hTn),q];simp⟩) (fun m hm=>?_) (fun b u q=>?_) I.bare
 ·have hb':b=e\/b=it:=by simpa using hb
  rcases hb' with z|z
  ·subst z;obtain⟨_,a1,_,a3,a4,a5⟩:=f1;exact⟨a3,a1,a4,a5⟩
  ·subst z;obtain⟨_,a1,_,a3,a4,a5⟩:=f2;exact⟨a3,a1,a4,a5⟩
 ·obtain⟨o,es,ep,ho,r⟩:=hm
  exact⟨o,es,ep,k _ o (Ne.symm f1.2.1) (Ne.symm f2.2.1) ho,r⟩
 ·by_cases hb:b=T
  ·subst hb
   rw[Zu]at q;cases q
   exact⟨hz,its,rv,ht⟩
  ·rw[Zl hb]at q
   refine(I.hok b u q).stay (fun c v hc z=>?_) (fun c z=>by rw[Zl (Yt z hTn)];exact z) fun c ys z=>by rw[Zl (Yt z hTn)];exact z
   rcases hc with y|y
   ·rw[y]at z⊢;exact k _ _ (ntr b u q).1 (ntr b u q).2 z
   ·exact k _ _ (ntr c _ y).1 (ntr c _ y).2 z
theorem Vx{P:Program}{w:World}{K:PySem.W.Frag}{elts:List Expr}{kk:Nat}{tpos:Pos}(a e it:Addr)(hei:e≠it):Turn P w K (.Tuple elts kk tpos) (Ite K a) [e,it] e (fun i h=>(∃old,IsEnum h e it ((i:Nat):Int) old)/\h.IsListIter it a i)where
 mem:=by simp
 obj:=fun i h st b hb=>by
  have hb':b=e\/b=it:=by simpa using hb
  rcases hb' with z|z
  ·subst z
   obtain⟨old,q⟩:=st.1
   exact⟨_,q,fun v y=>by
    have y':Data.fields _=Data.cell v:=y
    cases y'⟩
  ·subst z
   obtain⟨o,q,c,d⟩:=st.2
   exact⟨o,q,fun v y=>by rw[d]at y;cases y⟩
 keep:=fun i h h' st k=>⟨let⟨old,q⟩:=st.1;⟨old,k e (by simp) _ q⟩,st.2.at fun o q=>k it (by simp) o q⟩
 item:=by
  intro X hP hw hK hc i pins s σ H E I hf st hg
  subst hP hw hK
  obtain⟨xs,x,hq,hx⟩:=hg
  obtain⟨its,rv,p,hz⟩:=I.list hq
  obtain⟨u,hu,ru⟩:=rv.get hx
  obtain⟨⟨old,he⟩,hit⟩:=st
  have hl:s.heap.IsList a its.toArray:=p.isList
  have ai:a≠it:=fun z=>by
   obtain⟨o1,q1,c1,_⟩:=hit
   obtain⟨o2,q2,c2,_⟩:=hl
   rw[z,q1]at q2;cases q2
   rw[c1]at c2;exact absurd c2 (by decide)
  have ae:e∉[it,a]:=fun z=>by
   have z':e=it\/e=a:=by simpa using z
   rcases z' with z|z
   ·exact hei z
   ·obtain⟨o2,q2,c2,_⟩:=hl
    rw[<-z,he]at q2;cases q2;exact absurd (show Value.type "enumerate"=Value.type "list"from c2) (by decide)
  have D:=Draws.list (prog:=X.prog) (w:=X.w) (A:=X.A.in1) (by first|exact I.ok.hd hc| (rw[show X.A.in1.handled=X.A.handled from rfl];exact I.ok.hd hc)) it a ai its.toArray
  have hlt:i<its.toArray.size:=by
   have:=(List.getElem?_eq_some_iff.mp hu).1
   rw[List.size_toArray];exact this
  refine wpAny_pyNext_enum_itemD D he ⟨hit,hl⟩ hlt hei ae fun y h' tk hy hout st' hT hsz hk=>⟨.ref s.heap.objs.size,rfl,?_⟩
  refine wpAny_letOwnedTupleGo_enum hout fun h2 he2 hs2=>?_
  have hy':its.toArray[i]? =some y:=hy
  have ey:y=u:=by
   have:its[i]? =some y:=by simpa using hy'
   rw[hu]at this;cases this;rfl
  subst ey
  have kk:∀b o,b≠e->b≠it->s.heap.get? b=some o->h2.get? b=some o:=fun b o h1 h3 q=>(hs2.2 b h1).trans (hk b o h1 h3 q)
  have neT:s.heap.objs.size≠e:=Nat.ne_of_gt (Heap.lt_size he)
  have I2:=I.turnedT (h':=h2) (t':=tk+1) (e:=e) (it:=it) (T:=s.heap.objs.size) (xs:=[.int (i:Nat),x]) (its:=[.int i tk,y]) kk (hf e (by simp)) (hf it (by simp)) rfl ⟨_,(hs2.2 _ neT).trans hT,rfl,_,rfl⟩ (.cons ⟨tk,rfl⟩ (.cons ru .nil)) (by show 2<=sizeLine;decide)
   ⟨_,he2⟩ (let⟨o,q,_⟩:=st'.1;⟨o,(hs2.2 it (Ne.symm hei)).trans q⟩)
  refine⟨.ref s.heap.objs.size,_,I2,rfl,⟨s.heap.objs.size,x,rfl,I.hok.fresh (Nat.le_refl _),rfl,fun ys hy2=>by rw[I.list_inj hy2 hq];exact hx⟩,⟨⟨_,he2⟩,st'.1.at fun o q=>(hs2.2 it (Ne.symm hei)).trans q⟩,fun b hb=>?_⟩
  rw[Zl fun z=>?_]
  ·exact(hf b hb).1
  ·have hb':b=e\/b=it:=by simpa using hb
   rcases hb' with y|y
   ·rw[<-z,y]at neT;exact neT rfl
   ·obtain⟨o,q,_⟩:=hit
    rw[y]at z
    exact absurd (Heap.lt_size q) (by rw[z];exact Nat.lt_irrefl _)
 done:=by
  intro X hP hw hK hc i pins s σ H E I hf st hg
  subst hP hw hK
  obtain⟨xs,hq,hx⟩:=hg
  obtain⟨its,rv,p,hz⟩:=I.list hq
  obtain⟨⟨old,he⟩,hit⟩:=st
  obtain⟨f0,f1,f2,f3,f4,f5⟩:=hf it (by simp)
  have hl:=rv.length
  exact wpAny_pyNext_enum_end (I.ok.hd hc) he hit p.isList (by simp;omega) fun h' eb=>⟨rfl,I.turned (t':=s.toks) (fun b o hb q=>eb b o hb q) f0 f1 f3 f4 f5⟩
 self:=fun _ _ _ _ _ st h=>let⟨⟨old,he⟩,_⟩:=st;wpAny_pyIter_enum he h
noncomputable def Zgv(K:PySem.W.Frag)(ta:TA):TI:=fun σ H R=>ta σ H fun vs H1=>∃a xs,vs=[.ref a]/\Of K H1 a xs/\R (Ite K a) H1
theorem Zdz{l:Expr}{elts:List Expr}{kk:Nat}{tpos p pos:Pos}{ta:TA}(hg:Gl X "enumerate")(hm:X.mg "enumerate"=none)(ha:PA X [l] ta)(hs:starEach [l] X.env=[(false,eval l X.env)]:=by rfl):
  PI X (.Tuple elts kk tpos) (.Call (.Name "enumerate" p) [l] [] pos) (Zgv X.K ta):=by
 intro pins s σ H R I h
 refine Call_ (Rm I hg hm boot_enumerate (PyProof.Rows.callWith_type1 (Y3 (ha pos pins s σ H _ I h) fun us s1 ⟨vs,H1,I1,r1,q1⟩=>?_) hs rfl))
 obtain⟨a,xs,e,hq,q⟩:=q1
 subst e
 obtain⟨u,rfl,ru⟩:=Bz r1
 cases ru
 obtain⟨its,rv,p,hz⟩:=I1.list hq
 refine call_enumerate_list p.isList fun h' he hit hsz hk=>wpAny_pyIter_enum he ?_
 have I2:Inv X pins σ H1 {s1 with heap:=h'}:=I1.kept (t':=s1.toks) hk
 refine⟨s1.heap.objs.size+1,[s1.heap.objs.size+1,s1.heap.objs.size],_,_,H1,rfl,I2,Vx a _ _ (Nat.succ_ne_self _),⟨⟨.none,by simpa using he⟩,hit⟩,fun b hb=>?_,q⟩
 have hb':b=s1.heap.objs.size+1\/b=s1.heap.objs.size:=by simpa using hb
 rcases hb' with z|z
 ·subst z;exact I1.fpOk (Nat.le_succ _) (I1.hok.fresh (Nat.le_succ _))
 ·subst z;exact I1.fpOk (Nat.le_refl _) (I1.hok.fresh (Nat.le_refl _))
inductive TyX(K:PySem.W.Frag)(H:Hp):V->String->Prop where
 |non:TyX K H .non "NoneType"
 |bl (x:Bool):TyX K H (.bl x) "bool"
 |int (i:Int):TyX K H (.int i) "int"
 |str (x:Str):TyX K H (.str x) "str"
 |lst {a:Addr} {xs:List V} (e:Of K H a xs):TyX K H (.ref a) "list"
 |tup {a:Addr} {xs:List V} (e:Mu K H a xs):TyX K H (.ref a) "tuple"
 |dK {a:Addr} {kvs:List (Key×V)} {ep:Nat} (e:H a=some (.dK kvs ep)):TyX K H (.ref a) "dict"
 |dT {a:Addr} {kvs:List (List Key×V)} {ep:Nat} {bs:List Addr} (e:H a=some (.dT kvs ep bs)):TyX K H (.ref a) "dict"
theorem Zac{pins:List (Addr×Obj)}{σ:L2.St}{H:Hp}{s:Shared}{A:Around}{E:Value->Shared->Prop}{Q:Value->Shared->Prop}{c:Value}{b:Bool}{x:V}{u:Value}{T:String}(I:Inv X pins σ H s)(rx:Zw x u)(ty:TyX X.K H x T)(e:PySem.W.kitOne X.K (.type T) c=some b)(h:∀tk,Q (.bool b) {s with toks:=tk}):
  wpAny (model X.prog X.w) A (call (.builtin "isinstance") [u,c]) Q E s:=by
 cases ty with
 |non=>cases(show u=Value.none from rx);exact PySem.W.kia_one PySem.W.kitx_none I.kIn True.intro e (fun z=>nomatch z) h
 |bl y=>cases(show u=Value.bool y from rx);exact PySem.W.kia_one PySem.W.kitx_bool I.kIn True.intro e (fun z=>nomatch z) h
 |int i=>obtain⟨t,q⟩:=(show∃t,u=Value.int i t from rx);cases q;exact PySem.W.kia_one PySem.W.kitx_int I.kIn True.intro e (fun z=>nomatch z) h
 |str y=>obtain⟨t,q⟩:=(show∃t,u=Value.str y t from rx);cases q;exact PySem.W.kia_one PySem.W.kitx_str I.kIn True.intro e (fun z=>nomatch z) h
 | @lst a xs ea=>
  cases(show u=Value.ref a from rx)
  obtain⟨its,_,pl,_⟩:=I.list ea
  obtain⟨o,h1,h2,_⟩:=pl.isList
  exact PySem.W.kia_one PySem.W.kitx_list I.kIn ⟨o,h1,h2⟩ e (fun z=>nomatch z) h
 | @tup a xs ea=>
  cases(show u=Value.ref a from rx)
  obtain⟨its,_,pl,_⟩:=I.tuple ea
  obtain⟨o,h1,h2,_⟩:=pl
  exact PySem.W.kia_one PySem.W.kitx_tuple I.kIn ⟨o,h1,h2⟩ e (fun z=>nomatch z) h
 | @dK a kvs ep ea=>
  cases(show u=Value.ref a from rx)
  obtain⟨_,_,vs,_,p⟩:=(show Y4 X.prog X.w H s.heap a (.dK kvs ep)from I.hok a _ ea)
  obtain⟨o,es,h1,h2,_⟩:=p
  exact PySem.W.kia_one PySem.W.kitx_dict I.kIn ⟨o,h1,h2.1⟩ e (fun z=>nomatch z) h
 | @dT a kvs ep bs ea=>
  cases(show u=Value.ref a from rx)
  obtain⟨_,_,xs,_,o,es,h1,h2,_⟩:=(show Y4 X.prog X.w H s.heap a (.dT kvs ep bs)from I.hok a _ ea)
  exact PySem.W.kia_one PySem.W.kitx_dict I.kIn ⟨o,h1,h2.1⟩ e (fun z=>nomatch z) h
noncomputable def Zm4(K:PySem.W.Frag)(c:String):List V->Hp->VK->Prop:=fun xs H Q=>∃x t b,xs=[x,.ty c]/\TyX K H x t/\PySem.W.kitOne K (.type t) (.type c)=some b/\Q (.bl b) H
theorem Zad{c:String}:Jl X (.builtin "isinstance") (Zm4 X.K c):=by
 intro pins s σ H xs us Q I r h
 obtain⟨x,t,b,rfl,ty,e,q⟩:=h
 obtain⟨u,w',rfl,r1,r2⟩:=Hn r
 cases r2
 exact Zac I r1 ty e fun tk=>⟨.bl b,H,I.tok _,rfl,q⟩
end
end L2
namespace DL
open PySem PySem.Spec PyProof.Rows L2
variable{K:PySem.W.Frag}
noncomputable def Rx(xs:List D):List D:=xs.zipIdx.map fun p=>.tup [.int (p.2:Nat),p.1]
theorem Vy{xs:List D}{i:Nat}{d:D}(h:(Rx xs)[i]? =some d):∃x,xs[i]? =some x/\d= .tup [.int (i:Nat),x]:=by
 unfold Rx at h
 rw[List.getElem?_map,List.getElem?_zipIdx]at h
 cases e:xs[i]? with
 |none=>rw[e]at h;cases h
 |some x=>rw[e]at h;cases h;exact⟨x,rfl,by simp⟩
theorem Vz(xs:List D):(Rx xs).length=xs.length:=by unfold Rx;rw[List.length_map,List.length_zipIdx]
theorem Ir{F:Hp}{a:Addr}{xs:List D}{vs:List V}(h:Of K F a vs)(r:Reps K F xs vs):Cy K (Ite K a) F (Rx xs):=fun F' H sF sH i=>by
 have q:Of K H a vs:=Wu (sF.trans sH) h
 refine⟨fun d hd=>?_,fun hl=>⟨vs,q,by rw[<-r.length,<-Vz];exact hl⟩⟩
 obtain⟨x,hx,rfl⟩:=Vy hd
 obtain⟨v,h1,h2⟩:=r.get hx
 refine⟨⟨vs,v,q,h1⟩,fun y H' zq9=>?_⟩
 obtain⟨p,w,e1,e2,e3,e4⟩:=zq9
 subst e1 e3
 have e5:=e4 vs q
 rw[h1]at e5;cases e5
 have hp:F' p=none:=sH.free e2
 have sm:Zh F' (Qa F' [(p,.tup [.int (i:Nat),v])]):=Wo fun z hz=>by obtain rfl:=List.mem_singleton.mp hz;exact hp
 refine⟨Wg e2,[(p,.tup [.int (i:Nat),v])],Tq,fun z hz=>?_,.tup Zu (.cons (.int _) (.cons (h2.mono (sF.trans sm)) .nil))⟩
 obtain rfl:=List.mem_singleton.mp hz
 exact⟨e2,Zu⟩
section
variable{Z:Ent K}{H:Hp}{σ:L2.St}{Q:VK}
@[simp] noncomputable def Zae(fd:FD):FD:=fun δ=>(fd δ).bind fun p=>match p.1 with
 | [.lst xs]=>some (Rx xs,p.2)
 |_=>none
theorem Zd0{fd:FD}{R:It->Hp->Prop}(h:Oj Z (Zae fd) σ H R):Zgv K (Wd Z fd) σ H R:=by
 obtain⟨F,δ,own,ds,δ',s,e,k⟩:=h
 refine bnd2 e fun ds1 δ1 e1 e2=>?_
 refine⟨F,δ,own,ds1,δ1,s,e1,fun vs H1 F1 own1 sH sF s1 r1=>?_⟩
 dsimp only at e2
 split at e2
 ·rename_i xs
  cases e2
  cases r1 with
  |cons h t=>
   cases t
   cases h with
   |lst h _ r=>exact⟨_,_,rfl,Wu s1.le h,k _ H1 F1 own1 sH sF s1 (Ir h r)⟩
 ·cases e2
@[simp] noncomputable def D.ty:D->String
 | .str _=>"str"
 | .int _=>"int"
 | .lst _=>"list"
 | .dK _ _=>"dict"
 | .dT _ _=>"dict"
 |_=>"?"
@[simp] noncomputable def Zd1(T:String)(d:D):Bool:=T==d.ty&&(T=="str" ||T=="list" ||T=="dict")
theorem Zgw{F H:Hp}{d:D}{x:V}{T:String}(le:Zh F H)(r:Yc K F H d x)(h:Zd1 T d=true):tyV K T x H:=by
 unfold Zd1 at h
 simp only[Bool.and_eq_true,beq_iff_eq]at h
 obtain⟨h1,h2⟩:=h
 subst h1
 cases d with
 |str y=>rw[r.str];rfl
 |lst xs=>
  obtain⟨a,vs,e,ha,_⟩:=r.lst le
  subst e
  exact .inl ⟨rfl,vs,ha⟩
 |dK ks vs=>
  obtain⟨a,kvs,e,⟨ep,ha⟩,_⟩:=r.dK le
  subst e
  exact .inr (.inr (.inl ⟨rfl,.inl ⟨kvs,ep,ha⟩⟩))
 |dT ks vs=>
  obtain⟨a,kvs,e,⟨ep,bs,ha⟩,_⟩:=r.dT le
  subst e
  exact .inr (.inr (.inl ⟨rfl,.inr ⟨kvs,ep,bs,ha⟩⟩))
 |non=>exact absurd (show("?"=="str" || "?"=="list" || "?"=="dict")=true from h2) (by decide)
 |bl b=>exact absurd (show("?"=="str" || "?"=="list" || "?"=="dict")=true from h2) (by decide)
 |int i=>exact absurd (show("int"=="str" || "int"=="list" || "int"=="dict")=true from h2) (by decide)
 |tup xs=>exact absurd (show("?"=="str" || "?"=="list" || "?"=="dict")=true from h2) (by decide)
 |exc C ks vs=>exact absurd (show("?"=="str" || "?"=="list" || "?"=="dict")=true from h2) (by decide)
 |fn x=>exact absurd (show("?"=="str" || "?"=="list" || "?"=="dict")=true from h2) (by decide)
 |row n w x=>exact absurd (show("?"=="str" || "?"=="list" || "?"=="dict")=true from h2) (by decide)
 |ob c fs vs=>exact absurd (show("?"=="str" || "?"=="list" || "?"=="dict")=true from h2) (by decide)
 |dX ks vs=>exact absurd (show("?"=="str" || "?"=="list" || "?"=="dict")=true from h2) (by decide)
@[simp] noncomputable def bmF(T:String)(g:List D->Option SV)(fo:FE)(fa:FA):FE:=fun δ=>(fo δ).bind fun p=>(N1 p.1 p.2).bind fun d0=>if Zd1 T d0=true then(fa p.2).bind fun q=>(B9 (p.1::q.1) q.2).bind fun ds=>(g ds).bind fun sv=>some (.tmp sv,q.2)else none
noncomputable def N8(Z:Ent K)(r:V->List V->Hp->VK->Prop)(g:List D->Option SV):Prop:=Gk Z (fun vs H Q=>∃x xs,vs=x::xs/\r x xs H Q) g
theorem Zi7{T:String}{r:V->List V->Hp->VK->Prop}{g:List D->Option SV}{fo:FE}{fa:FA}(hg:N8 Z r g)(h:Zb Z (bmF T g fo fa) σ H Q):tBM K T r (Zb Z fo) (Jo Z fa) σ H Q:=by
 obtain⟨F,δ,own,rv,δ',s,e,k⟩:=h
 refine bnd2 e fun rv1 δ1 e1 e=>?_
 refine bnd1 e fun d0 e2 e=>?_
 dsimp only at e
 split at e
 ·rename_i ht
  refine bnd2 e fun rvs δ2 e3 e=>?_
  refine bnd1 e fun ds e4 e=>?_
  refine bnd1 e fun sv e5 e=>?_
  cases e
  refine⟨F,δ,own,rv1,δ1,s,e1,fun v H1 F1 own1 sH1 sF1 s1 r1=>?_⟩
  obtain⟨F1',sF1',s1',r1'⟩:=s1.settleR r1
  refine⟨Zgw s1'.le (s1'.rd r1' e2) ht,F1',δ1,own1,rvs,δ2,s1',e3,fun vs H2 F2 own2 sH2 sF2 s2 r2=>?_⟩
  obtain⟨x,xs,ex,q⟩:=hg F2 H2 σ δ2 own2 (v::vs) ds sv Q s2 (s2.rdAll (.cons (r1'.mono sF2) r2) e4) e5 fun q H4 F4 ns sH4 sF4 s4 t4=>
   k q H4 F4 own2 (sH1.trans (sH2.trans sH4)) (sF1.trans (sF1'.trans (sF2.trans sF4))) s4 ⟨ns,t4⟩
  injection ex with ex1 ex2
  subst ex1 ex2
  exact q
 ·cases e
end
variable{Z:Ent K}
@[simp] noncomputable def D.pyTy:D->String
 | .non=>"NoneType"
 | .bl _=>"bool"
 | .int _=>"int"
 | .str _=>"str"
 | .tup _=>"tuple"
 | .lst _=>"list"
 | .dK _ _=>"dict"
 | .dT _ _=>"dict"
 | .dX _ _=>"?"
 | .exc _ _ _=>"?"
 | .fn _=>"?"
 | .row _ _ _=>"?"
 | .ob _ _ _=>"?"
@[simp] noncomputable def D.isExc:D->Bool
 | .exc _ _ _=>true
 | .fn _=>true
 | .row _ _ _=>true
 | .ob _ _ _=>true
 | .dX _ _=>true
 |_=>false
theorem Zd2{F H:Hp}{d:D}{x:V}(le:Zh F H)(r:Yc K F H d x)(hx:d.isExc=false):TyX K H x d.pyTy:=by
 cases d with
 |exc C ks vs=>cases hx
 |fn x=>cases hx
 |row n w x=>cases hx
 |ob c fs vs=>cases hx
 |dX ks vs=>cases hx
 |non=>rw[r.non];exact .non
 |bl b=>rw[r.bl];exact .bl b
 |int i=>rw[r.int];exact .int i
 |str y=>rw[r.str];exact .str y
 |tup xs=>obtain⟨a,vs,e,ha,_⟩:=r.tup le;subst e;exact .tup ha
 |lst xs=>
  obtain⟨a,vs,e,ha,_⟩:=r.lst le
  subst e
  exact .lst ha
 |dK ks vs=>obtain⟨a,kvs,e,⟨ep,ha⟩,_⟩:=r.dK le;subst e;exact .dK ha
 |dT ks vs=>obtain⟨a,kvs,e,⟨ep,bs,ha⟩,_⟩:=r.dT le;subst e;exact .dT ha
@[simp] noncomputable def Zaf(c:String)(d:D):Option SV:=if d.isExc=true then none else some (.fz (.bl (d.pyTy==c|| (c=="int" &&d.pyTy=="bool"))))
theorem Zm5{c:String}(hk:∀d:D,d.isExc=false->PySem.W.kitOne K (.type d.pyTy) (.type c)=some (d.pyTy==c|| (c=="int" &&d.pyTy=="bool"))):Ru Z (fun x H Q=>Zm4 K c [x,.ty c] H Q) (Zaf c):=by
 intro F H σ δ own x d sv Q s r e k
 unfold Zaf at e
 split at e
 ·cases e
 ·rename_i hx
  cases e
  have hx':d.isExc=false:=by cases z:d.isExc with
   |true=>exact absurd z hx
   |false=>rfl
  exact⟨x,_,_,rfl,Zd2 s.le r hx',hk d hx',k.fz s (.bl _)⟩
@[simp] noncomputable def Jx:List D->Option SV
 | [.lst xs]=>some (.fz (.int (xs.length:Nat)))
 | [.tup xs]=>some (.fz (.int (xs.length:Nat)))
 | [.str x]=>if x.length<=PySem.sizeLine then some (.fz (.int (x.length:Nat)))else none
 |_=>none
theorem Zm6:Gk Z (fun xs H Q=>(∃p ys,xs=[V.ref p]/\(Of K H p ys\/Mu K H p ys)/\Q (.int ys.length) H)\/(∃z,xs=[V.str z]/\z.length<=PySem.sizeLine/\Q (.int z.length) H)) Jx:=by
 intro F H σ δ own vs ds sv Q s r e k
 unfold Jx at e
 split at e
 ·cases e
  cases r with
  |cons h t=>
   cases t
   obtain⟨a,us,ex,ha,ra⟩:=h.lst s.le
   subst ex
   exact .inl ⟨a,us,rfl,.inl ha,by rw[<-ra.length];exact k.fz s (.int _)⟩
 ·cases e
  cases r with
  |cons h t=>
   cases t
   obtain⟨a,us,ex,ha,ra⟩:=h.tup s.le
   subst ex
   exact .inl ⟨a,us,rfl,.inr ha,by rw[<-ra.length];exact k.fz s (.int _)⟩
 ·split at e
  ·rename_i hz
   cases e
   cases r with
   |cons h t=>
    cases t
    exact .inr ⟨_,by rw[h.str],hz,k.fz s (.int _)⟩
  ·cases e
 ·cases e
@[simp] noncomputable def Zd3:List D->Option SV
 | [.int i]=>some (.fz (.int i))
 | [.bl b]=>some (.fz (.int (if b then 1 else 0)))
 |_=>none
theorem Zm7:Gk Z (fun xs H Q=>(∃i,xs=[V.int i]/\Q (.int i) H)\/∃k,xs=[V.bl k]/\Q (.int (if k then 1 else 0)) H) Zd3:=by
 intro F H σ δ own vs ds sv Q s r e k
 unfold Zd3 at e
 split at e
 ·cases e
  cases r with
  |cons h t=>cases t;exact .inl ⟨_,by rw[h.int],k.fz s (.int _)⟩
 ·cases e
  cases r with
  |cons h t=>cases t;exact .inr ⟨_,by rw[h.bl],k.fz s (.int _)⟩
 ·cases e
section
variable{X:Cx}{Z:Ent X.K}{a b c:Expr}{fa fb fc:FE}{pos:Pos}
theorem Zc(i:Nat){x:Str}{pos:Pos}(hN:X.N[i]? =some x:=by rfl)(hv:Km X.env.scope x:=by first|exact Or.inl rfl|exact Or.inr (Or.inl rfl)|exact Or.inr (Or.inr rfl))(hd:(x==("__debug__":Str))=false:=by decide)
  (hcd:(x==("__classdict__":Str))=false:=by decide):PE X (.Name x pos) (Zb Z (Za i)):=(Q4 hN hv hd hcd).imp fun _ _ _ h=>Zmd h
theorem Zs{i:Int}{j:Nat}:PE X (.Constant (.int i) j pos) (Zb Z (Zd (.int i))):=Ko.imp fun _ _ _ h=>Oy (fun _=>.int _) h
theorem Lk{i:Bool}{j:Nat}:PE X (.Constant (.bool i) j pos) (Zb Z (Zd (.bl i))):=Zln.imp fun _ _ _ h=>Oy (fun _=>.bl _) h
theorem Gn{j:Nat}:PE X (.Constant .none j pos) (Zb Z (Zd .non)):=X4.imp fun _ _ _ h=>Oy (fun _=>.non) h
theorem Yl{i:Str}{j:Nat}:PE X (.Constant (.str i) j pos) (Zb Z (Zd (.str i))):=X5.imp fun _ _ _ h=>Oy (fun _=>.str _) h
theorem Zd4{x:Str}{y:Str}{t:Tok}(hm:X.mg x=some (.str y t))(hg:Gl X x:=by rfl)(hd:(x==("__debug__":Str))=false:=by decide):PE X (.Name x pos) (Zb Z (Zd (.str y))):=
 (Ak (v:=.str y) hg hm ⟨t,rfl⟩ hd).imp fun _ _ _ h=>Oy (fun _=>.str _) h
theorem Zd5{x:Str}{y:Int}{t:Tok}(hm:X.mg x=some (.int y t))(hg:Gl X x:=by rfl)(hd:(x==("__debug__":Str))=false:=by decide):PE X (.Name x pos) (Zb Z (Zd (.int y))):=
 (Ak (v:=.int y) hg hm ⟨t,rfl⟩ hd).imp fun _ _ _ h=>Oy (fun _=>.int _) h
theorem Tv{op:Operator}{r:R2}{g:D->D->Option SV}(ho:Jk X (binaryOp op) r)(hp:Yg Z r g)(ha:PE X a (Zb Z fa))(hb:PE X b (Zb Z fb)):PE X (.BinOp a op b pos) (Zb Z (Zj g fa fb)):=(Zlv ho ha hb).imp fun _ _ _ h=>Ii hp h
theorem Wf(ha:PE X a (Zb Z fa))(hb:PE X b (Zb Z fb)):PE X (.BinOp a .Add b pos) (Zb Z (Zj Yk fa fb)):=Tv Zdy Zm1 ha hb
theorem Zm8(ha:PE X a (Zb Z fa))(hb:PE X b (Zb Z fb)):PE X (.BinOp a .Sub b pos) (Zb Z (Zj Zi1 fa fb)):=Tv Zh5 Zmu ha hb
theorem Ol(ha:PE X a (Zb Z fa))(hb:PE X b (Zb Z fb)):PE X (.BinOp a .FloorDiv b pos) (Zb Z (Zj U9 fa fb)):=Tv Zc7 Zi2 ha hb
theorem Jp(ha:PE X a (Zb Z fa))(hb:PE X b (Zb Z fb)):PE X (.BinOp a .Mod b pos) (Zb Z (Zj Ut fa fb)):=Tv Zh7 Zmw ha hb
theorem Zgx(ha:PE X a (Zb Z fa))(hb:PE X b (Zb Z fb)):PE X (.BinOp a .Pow b pos) (Zb Z (Zj Vv fa fb)):=Tv Zh8 Zmx ha hb
theorem Zgy{op:CmpOp}{r:R2}{g:D->D->Option SV}(ho:Jk X (compareOp op) r)(hp:Yg Z r g)(ha:PE X a (Zb Z fa))(hb:PE X b (Zb Z fb))(hm:behindInMarks op b=false):PE X (.Compare a [op] [b] pos) (Zb Z (Zj g fa fb)):=(Np ho ha hb hm).imp fun _ _ _ h=>Ii hp h
theorem Go{op:CmpOp}{r:R2}{g:D->D->Option SV}(ho:Jk X (compareOp op) r)(hp:Yg Z r g)(ha:PE X a (Zb Z fa))(hb:PE X b (Zb Z fb))(hm:behindInMarks op b=false):PT X (.Compare a [op] [b] pos) (Z5 Z (Z6 (Zj g fa fb))):=
 (Nq ho ha hb hm).imp fun σ H Q h=>by
  obtain⟨F,δ,own,rv,δ',s,e,k⟩:=A5 h
  exact Ii hp ⟨F,δ,own,rv,δ',s,e,k⟩
theorem Zi8(ha:PE X a (Zb Z fa))(hb:PE X b (Zb Z fb)):PT X (.Compare a [.Lt] [b] pos) (Z5 Z (Z6 (Zj ltD fa fb))):=Go Zl0 Zp6 ha hb (Up _)
theorem Zi9(ha:PE X a (Zb Z fa))(hb:PE X b (Zb Z fb)):PT X (.Compare a [.Gt] [b] pos) (Z5 Z (Z6 (Zj gtD fa fb))):=Go Zl1 Zp7 ha hb (Up _)
theorem Zag(ha:PE X a (Zb Z fa))(hb:PE X b (Zb Z fb)):PT X (.Compare a [.Is] [b] pos) (Z5 Z (Z6 (Zj Vw fa fb))):=Go Zia Zm2 ha hb (Up _)
theorem Zja(ha:PE X a (Zb Z fa))(hb:PE X b (Zb Z fb)):PT X (.Compare a [.IsNot] [b] pos) (Z5 Z (Z6 (Zj N6 fa fb))):=Go Zc8 Zi3 ha hb (Up _)
theorem Zah{f:FT}(ha:PT X a (Z5 Z f)):PW X (.BoolOp .And [a] pos) (Z5 Z f):=Zc1 ha
theorem Zai{f:FT}(ha:PT X a (Z5 Z f)):PW X (.BoolOp .Or [a] pos) (Z5 Z f):=Zht ha
theorem Zgz{f g:FT}{rest:List Expr}(ha:PT X a (Z5 Z f))(hb:PW X (.BoolOp .And (b::rest) pos) (Z5 Z g)):PW X (.BoolOp .And (a::b::rest) pos) (Z5 Z (Zdr f g)):=(Zhu ha hb).imp fun _ _ _ h=>Zmg h
theorem Zd6{f g:FT}{rest:List Expr}(ha:PT X a (Z5 Z f))(hb:PW X (.BoolOp .Or (b::rest) pos) (Z5 Z g)):PW X (.BoolOp .Or (a::b::rest) pos) (Z5 Z (orF f g)):=(Zlq ha hb).imp fun _ _ _ h=>Zp2 h
theorem N9{f:FT}(ha:PT X a (Z5 Z f)):PT X (.UnaryOp .Not a pos) (Z5 Z (Vr f)):=(X7 ha).imp fun _ _ _ h=>Zmh h
theorem Pa(h:PE X a (Zb Z fa))(he:∀whole,isTrue a X.env whole=(do let v<-whole;standAt a.pos;holding [v] (truthy v)):=by intro _;rfl):PT X a (Z5 Z (Z6 fa)):=(X6 h he).imp fun _ _ _ h=>Zdq h
theorem Zg0{op:BoolOp}(h:PE X a (Zb Z fa)):PE X (.BoolOp op [a] pos) (Zb Z fa):=Zhv h
theorem Zaj{rest:List Expr}(ha:PE X a (Zb Z fa))(hb:PE X (.BoolOp .And (b::rest) pos) (Zb Z fb)):PE X (.BoolOp .And (a::b::rest) pos) (Zb Z (D3 fa fb)):=(Zhw ha hb).imp fun _ _ _ h=>Ziu h
theorem Zm9(ha:PE X a (Zb Z fa)):PE X (.UnaryOp .Not a pos) (Zb Z (Zit fa)):=(Zhx ha).imp fun _ _ _ h=>Ziv h
theorem Zna{t:FT}(hc:PT X c (Z5 Z t))(ha:PE X a (Zb Z fa))(hb:PE X b (Zb Z fb)):PE X (.IfExp c a b pos) (Zb Z (ifF t fa fb)):=(X8 hc ha hb).imp fun _ _ _ h=>Zp3 h
theorem Yx:PA X [] (Jo Z Zr):=Jv.imp fun _ _ _ h=>D2 h
theorem Zp{es:List Expr}{fr:FA}(ha:PE X a (Zb Z fa))(hr:PA X es (Jo Z fr))(hs:starEach (a::es) X.env=(false,eval a X.env)::starEach es X.env:=by rfl):PA X (a::es) (Jo Z (Ze fa fr)):=(Yn ha hr hs).imp fun _ _ _ h=>Vp h
theorem Yo:PA X [] (Wd Z Zm):=Jv.imp fun _ _ _ h=>Vq h
theorem Zz{es:List Expr}{fr:FD}(ha:PE X a (Zb Z fa))(hr:PA X es (Wd Z fr))(hs:starEach (a::es) X.env=(false,eval a X.env)::starEach es X.env:=by rfl):PA X (a::es) (Wd Z (Zi fa fr)):=(Yn ha hr hs).imp fun _ _ _ h=>Lg h
theorem Om{es:List Expr}{fd:FD}{k:Nat}(h:PA X es (Wd Z fd)):PE X (.Tuple es k pos) (Zb Z (tupF fd)):=(Hs h).imp fun _ _ _ h=>Zme h
theorem Bd{es:List Expr}{fd:FD}(h:PA X es (Wd Z fd)):PE X (.List es pos) (Zb Z (Ca fd)):=(Ht h).imp fun _ _ _ h=>Zmf h
theorem Zak(ha:PE X a (Zb Z fa)):PO X (some a) (Tu Z (N7 fa)):=fun pins s σ H Q I h=>Zdc ha pins s σ H Q I (Zi4 h)
theorem Zqg{lo hi:Option Expr}{fl fh:FO}{p2:Pos}(ha:PE X a (Zb Z fa))(hl:PO X lo (Tu Z fl))(hh:PO X hi (Tu Z fh)):PE X (.Subscript a (.Slice lo hi none p2) pos) (Zb Z (slF slD fa fl fh)):=
 (Hy (Zdf.or Zi5) ha hl hh).imp fun _ _ _ h=>Zqd Zqe h
theorem Zjb{k n:Nat}{f:Addr}{fd:FuncData}{ps:List Str}{g:List D->Option SV}{x:Str}{p:Pos}{es:List Expr}{fr:FA}(F:FnOk X.prog X.w X.K X.mg X.base Cw k f fd ps (Qy X.K n g))(hr:Room k X.A)(hm:X.mg x=some (.ref f))(hk:PySem.W.keepIn X.K (.ref f)=true)(hb:Qf X.K fd ps [])
  (ha:PA X (a::es) (Jo Z fr)) (hg:Gl X x:=by rfl) (hdb:(x==("__debug__":Str))=false:=by decide) (he:starEach (a::es) X.env=(false,eval a X.env)::starEach es X.env:=by rfl) (hpl:(backTo pos (starEach es X.env)).any (·.1)=false:=by rfl):
  PE X (.Call (.Name x p) (a::es) [] pos) (Zb Z (Y6 n g fr)):=(Zdb F hr hg hm hk hb .nil Zl9 ha hdb he hpl).imp fun _ _ _ h=>Zis h
theorem Pb{id:String}{r:List V->Hp->VK->Prop}{g:List D->Option SV}{x:Str}{p:Pos}{es:List Expr}{fr:FA}(hc:Jl X (.builtin id) r)(hp:Gk Z r g)(hm:X.mg x=none)(hv:bootBuiltins x=some (.builtin id))(ha:PA X (a::es) (Jo Z fr))(hg:Gl X x:=by rfl)(hn:x≠"__name__":=by decide)(hdb:(x==("__debug__":Str))=false:=by decide)
  (he:starEach (a::es) X.env=(false,eval a X.env)::starEach es X.env:=by rfl) (hpl:(backTo pos (starEach es X.env)).any (·.1)=false:=by rfl):PE X (.Call (.Name x p) (a::es) [] pos) (Zb Z (W6 g fr)):=(B0 hc hg hm hv ha hn hdb he hpl).imp fun _ _ _ h=>Le hp h
theorem Zd7{T:String}{r:List V->Hp->VK->Prop}{g:List D->Option SV}{x:Str}{p:Pos}{es:List Expr}{fr:FA}(hc:Jl X (.type T) r)(hp:Gk Z r g)(hm:X.mg x=none)(hv:bootBuiltins x=some (.type T))(ha:PA X (a::es) (Jo Z fr))(hg:Gl X x:=by rfl)(hn:x≠"__name__":=by decide)(hdb:(x==("__debug__":Str))=false:=by decide)
  (he:starEach (a::es) X.env=(false,eval a X.env)::starEach es X.env:=by rfl) (hpl:(backTo pos (starEach es X.env)).any (·.1)=false:=by rfl):PE X (.Call (.Name x p) (a::es) [] pos) (Zb Z (W6 g fr)):=(Ve hc hg hm hv ha hn hdb he hpl).imp fun _ _ _ h=>Le hp h
theorem Be{p:Pos}(hm:X.mg "len"=none)(ha:PE X a (Zb Z fa))(hg:Gl X "len":=by rfl)(he:starEach [a] X.env=(false,eval a X.env)::starEach [] X.env:=by rfl)(hpl:(backTo pos (starEach [] X.env)).any (·.1)=false:=by rfl):PE X (.Call (.Name "len" p) [a] [] pos) (Zb Z (W6 Jx (Ze fa Zr))):=
 Pb (Av.or Aw) Zm6 hm PySem.boot_len (Zp ha Yx he) hg (by decide) (by decide) he hpl
theorem Zjc{p:Pos}(hm:X.mg "int"=none)(ha:PE X a (Zb Z fa))(hg:Gl X "int":=by rfl)(he:starEach [a] X.env=(false,eval a X.env)::starEach [] X.env:=by rfl)(hpl:(backTo pos (starEach [] X.env)).any (·.1)=false:=by rfl):PE X (.Call (.Name "int" p) [a] [] pos) (Zb Z (W6 Zd3 (Ze fa Zr))):=
 Zd7 Vb Zm7 hm boot_int (Zp ha Yx he) hg (by decide) (by decide) he hpl
theorem Zg1{x:Str}{c:String}{p p2:Pos}(hm:X.mg "isinstance"=none)(hmc:X.mg x=none)(hv:bootBuiltins x=some (.type c))(hk:∀d:D,d.isExc=false->PySem.W.kitOne X.K (.type d.pyTy) (.type c)=some (d.pyTy==c|| (c=="int" &&d.pyTy=="bool")))(ha:PE X a (Zb Z fa))(hg:Gl X "isinstance":=by rfl)(hgc:Gl X x:=by rfl)
  (hn:x≠"__name__":=by decide) (hdb:(x==("__debug__":Str))=false:=by decide)
  (he:starEach [a,.Name x p2] X.env=(false,eval a X.env)::starEach [.Name x p2] X.env:=by rfl) (he2:starEach [.Name x p2] X.env=(false,eval (.Name x p2) X.env)::starEach [] X.env:=by rfl) (hpl:(backTo pos (starEach [.Name x p2] X.env)).any (·.1)=false:=by rfl):
  PE X (.Call (.Name "isinstance" p) [a,.Name x p2] [] pos) (Zb Z (G7 (Zaf c) fa)):=
 (B0 Zad hg hm boot_isinstance (Yn ha (Yn (Nh (v:=.ty c) hgc hmc hv rfl hn hdb) Jv he2) he) (by decide) (by decide) he hpl).imp fun σ H Q h=>by
  have h2:=Lf (Zm5 hk) h
  exact h2
theorem Zd8{op op':CmpOp}{r r':R2}{g g':D->D->Option SV}(ho:Jk X (compareOp op) r)(hp:Yg Z r g)(ho':Jk X (compareOp op') r')(hp':Yg Z r' g')(ha:PE X a (Zb Z fa))(hb:PE X b (Zb Z fb))(hc:PE X c (Zb Z fc))(hm:lastMarks [op,op'] [b,c]=false:=by with_unfolding_all rfl):
  PE X (.Compare a [op,op'] [b,c] pos) (Zb Z (Lh g g' fa fb fc)):=(Hm ho ho' ha hb hc hm).imp fun _ _ _ h=>Zds hp hp' h
theorem On(i:Nat){x:Str}(hN:X.N.Nodup)(hi:X.N[i]? =some x:=by rfl)(hx:Loc X.env.scope x:=by first|exact Or.inl rfl|exact Or.inr rfl)(hf:X.fn x=true\/X.env.scope.names.lookup x=some .local:=by first|exact .inl rfl|exact .inr rfl):PG X (.Name x pos) (U8 Z (Yq i)):=(Zc5 hN hi hx hf).imp fun _ _ _ _ h=>N2 h
theorem Zjd:Hc X [] (Oi Z Ij):=Zc6.imp fun _ _ _ _ h=>Zix h
theorem Pc{es:List Expr}{g:FG}{r:FGs}(h1:PG X a (U8 Z g))(h2:Hc X es (Oi Z r))(hs:(assignEach (a::es) X.env).map (·.2)=assign a X.env::(assignEach es X.env).map (·.2):=by rfl):Hc X (a::es) (Oi Z (Bm g r)):=(He h1 h2 hs).imp fun _ _ _ _ h=>Zdt h
theorem Znb{es:List Expr}{k n:Nat}{g:FGs}(hc:X.calm=true)(h:Hc X es (Oi Z g))(hn:(assignEach es X.env).length=n:=by rfl)(hst:(assignEach es X.env).findIdx? (·.1)=none:=by rfl):PG X (.Tuple es k pos) (U8 Z (Tt n g)):=(Zh0 hc h hn hst).imp fun _ _ _ _ h=>Ziy h
theorem Pd{tg:Expr}{p:Pos}(hm:X.mg "range"=none)(ha:PE X a (Zb Z fa))(hg:Gl X "range":=by rfl)(hs:starEach [a] X.env=[(false,eval a X.env)]:=by rfl):PI X tg (.Call (.Name "range" p) [a] [] pos) (Oj Z (Vs (Ze fa Zr))):=(S8 hg hm (Zp ha Yx hs) hs).imp fun _ _ _ h=>Ziz h
theorem Zje{elts:List Expr}{k:Nat}{tp p:Pos}(hm:X.mg "enumerate"=none)(ha:PE X a (Zb Z fa))(hg:Gl X "enumerate":=by rfl)(hs:starEach [a] X.env=[(false,eval a X.env)]:=by rfl):PI X (.Tuple elts k tp) (.Call (.Name "enumerate" p) [a] [] pos) (Oj Z (Zae (Zi fa Zm))):=(Zdz hg hm (Zz ha Yo hs) hs).imp fun _ _ _ h=>Zd0 h
theorem V0{N':List Str}{scope:Scope}{src:List BSrc}(kind:scope.kind= .function)(nocell:(scope.names.all fun y=>!(y.2== .cell))=true)(names:(scope.names.all fun y=>!(y.2== .local)|| (scope.names.lookup y.1==some .local))=true)
  (free:(scope.names.all fun y=>!(y.2== .free)|| (X.env.kindOf y.1==some .cell)|| (X.env.kindOf y.1==some .free))=true) (len:src.length=N'.length)
  (cap:((List.range src.length).all fun k=>match src[k]?,N'[k]? with
   |some (.cap j),some x=>(X.N[j]? ==some x)&&((X.env.kindOf x==some .cell)|| (X.env.kindOf x==some .free))&&(scope.names.lookup x==some .free)
   |some .acc,some x=>scope.names.lookup x==none
   |_,_=>true)=true):CompScope X N' scope src:=by
 have capk:∀(k:Nat) (q:BSrc) (x:Str),src[k]? =some q->N'[k]? =some x->(match some q,some x with
   |some (.cap j),some x=>(X.N[j]? ==some x)&&((X.env.kindOf x==some .cell)|| (X.env.kindOf x==some .free))&&(scope.names.lookup x==some .free)
   |some .acc,some x=>scope.names.lookup x==none
   |_,_=>true)=true:=fun k q x h1 h2=>by
  have hk:k<src.length:=(List.getElem?_eq_some_iff.mp h1).1
  have:=List.all_eq_true.mp cap k (List.mem_range.mpr hk)
  rw[h1,h2]at this
  exact this
 refine⟨kind,fun y hy e=>?_,fun y hy e=>?_,fun y hy e=>?_,len,fun k j x h1 h2=>?_,fun k x h1 h2=>?_⟩
 ·have:=List.all_eq_true.mp nocell y hy
  rw[e]at this;cases this
 ·have:=List.all_eq_true.mp names y hy
  rw[e]at this
  simpa using this
 ·have:=List.all_eq_true.mp free y hy
  rw[e]at this
  simpa using this
 ·have:=capk k (.cap j) x h1 h2
  simp only[Bool.and_eq_true,Bool.or_eq_true,beq_iff_eq]at this
  exact⟨this.1.1,this.1.2,this.2⟩
 ·have:=capk k .acc x h1 h2
  simpa using this
theorem Znc{src:List BSrc}(k:Nat)(acc:src[k]? =some .acc)(uni:((List.range src.length).all fun i=>match src[i]? with
   |some .acc=>i==k
   |_=>true)=true):SrcOk src k:=⟨acc,fun i h=>by
  have hi:i<src.length:=(List.getElem?_eq_some_iff.mp h).1
  have:=List.all_eq_true.mp uni i (List.mem_range.mpr hi)
  rw[h]at this
  simpa using this⟩
theorem Pe(K:PySem.W.Frag):∀d:D,d.isExc=false->PySem.W.kitOne K (.type d.pyTy) (.type "str")=some (d.pyTy=="str" || ("str"=="int" &&d.pyTy=="bool")):=by intro d h;cases d<;> first| (cases h;done)|with_unfolding_all rfl
theorem xg{tg:Expr}{g:FG}(h:∀Z:Ent X.K,PG X tg (U8 Z g)):PG X tg (xG X.K g):=fun pins s σ H v u Q I r ⟨Z,q⟩=>h Z pins s σ H v u Q I r q
theorem xe{e:Expr}{f:FE}(h:∀Z:Ent X.K,PE X e (Zb Z f)):PE X e (xE X.K f):=fun pins s σ H Q I ⟨Z,q⟩=>h Z pins s σ H Q I q
theorem xt0:PTs X [] (xT X.K N3):=fun pins s σ H Q I ⟨Z,q⟩=>by
 obtain⟨F,δ,own,b,δ',sr,e,k⟩:=q
 cases e
 exact Zdj pins s σ H Q I (k H F own (Zh.refl H) (Zh.refl F) sr)
theorem Zjf{N':List Str}{scope:Scope}{src:List BSrc}{k:Nat}{tg elt iter:Expr}{ifs:List Expr}{fi:FD}{g:FG}{tt:FT}{te:FE}(hc:X.calm=true)(S:CompScope X N' scope src)(So:SrcOk src k)(hk:k∉g.tch)(hi:PI X tg iter (Oj Z fi))
  (hg:∀(C:Addr) (s₀:Shared) (H₀:Hp) (ex:List Addr),PG (X.block N' scope C s₀ H₀ ex) tg (xG X.K g)) (ht:∀(C:Addr) (s₀:Shared) (H₀:Hp) (ex:List Addr),PTs (X.block N' scope C s₀ H₀ ex) ifs (xT X.K tt)) (he:∀(C:Addr) (s₀:Shared) (H₀:Hp) (ex:List Addr),PE (X.block N' scope C s₀ H₀ ex) elt (xE X.K te))
  (hs:∀x,foldedSetIterable iter X.env x=pure x:=by intro _;rfl):PE X (.ListComp elt [⟨tg,iter,ifs,0⟩] scope pos) (Zb Z (N4 src k fi g tt te)):=(Zdk hc S hi hg ht he hs).imp fun _ _ _ h=>Zi0 So hk h
theorem Y5:Ob X [] (Zq Z Wr):=Zc2.imp fun _ _ _ h=>Ziw h
theorem Zf{st:Stmt}{rest:List Stmt}{f g:FS}(h1:PS X st (Zq Z f))(h2:Ob X rest (Zq Z g)):Ob X (st::rest) (Zq Z (Zt f g)):=(X9 h1 h2).imp fun _ _ _ h=>Zmi h
theorem Zn{st:Stmt}{f:FS}(h:PS X st (Zq Z f)):Ob X [st] (Zq Z f):=Ni h
noncomputable def Bo:FS:=fun _=>none
theorem Oz{st:Stmt}:PS X st (Zq Z Bo):=Hb.imp fun _ _ _ h=>by obtain⟨F,δ,own,fl,s,e,k⟩:=h;cases e
theorem Wh(h:PE X a (Zb Z fa)):PS X (.Return (some a) pos) (Zq Z (Qv fa)):=(Kp h).imp fun _ _ _ h=>Zmk h
theorem Uf{t:FT}{f g:FS}{bt be:List Stmt}(hc:PT X c (Z5 Z t))(ha:Ob X bt (Zq Z f))(hb:Ob X be (Zq Z g)):PS X (.If c bt be pos) (Zq Z (Gy t f g)):=(Ha hc ha hb).imp fun _ _ _ h=>Zmj h
theorem Z7(i:Nat){x:Str}{pos':Pos}(hN:X.N.Nodup)(he:PE X a (Zb Z fa))(hi:X.N[i]? =some x:=by rfl)(hx:Loc X.env.scope x:=by first|exact Or.inl rfl|exact Or.inr rfl)(hs:swapsWith a (some (.Name x pos')) pos.line X.env=pure false:=by rfl)(hf:X.fn x=true\/X.env.scope.names.lookup x=some .local:=by first|exact .inl rfl|exact .inr rfl):
  PS X (.Assign [.Name x pos'] a pos) (Zq Z (Yp i fa)):=(Am hN hi hx he hs hf).imp fun _ _ _ h=>Zgq h
theorem Tw{tg iter:Expr}{body:List Stmt}{fi:FD}{g:FG}{f:FS}(hp:PassesOwn (model X.prog X.w) X.A X.env X.xe)(hc:X.calm=true)(hi:PI X tg iter (Oj Z fi))(hg:PG X tg (U8 Z g))(hb:Ob X body (Zq Z f))(hs:∀x,foldedSetIterable iter X.env x=pure x:=by intro _;rfl):
  PS X (.For tg iter body [] pos) (Zq Z (Ik fi g f)):=(Zh1 hp hc hi hg hb hs).imp fun _ _ _ h=>Zmn h
theorem Zd9(n:Nat){t:FT}{body:List Stmt}{f:FS}(hp:PassesOwn (model X.prog X.w) X.A X.env X.xe)(hc:PT X c (Z5 Z t))(hb:Ob X body (Zq Z f)):PS X (.While c body [] pos) (Zq Z (Qh t f n)):=(Hg hp hc hb).imp fun _ _ _ h=>Zdu h
theorem Zg2(i:Nat){x:Str}{px apos cpos:Pos}(hb:PE X b (Zb Z fb))(hN:X.N[i]? =some x:=by rfl)(hv:Km X.env.scope x:=by first|exact Or.inl rfl|exact Or.inr (Or.inl rfl)|exact Or.inr (Or.inr rfl))(hd:(x==("__debug__":Str))=false:=by decide)
  (hcd:(x==("__classdict__":Str))=false:=by decide) (hbase:attributeBase (.Name x px) "append" X.env (eval (.Name x px) X.env)=eval (.Name x px) X.env:=by rfl)
  (hfew:((backTo cpos (starEach [b] X.env)).all (fun x=>!x.1)&&(backToKw cpos (keywordEach [] X.env)).all (fun x=>x.1.isSome)&&decide ([b].length+([]:List Keyword).length+(if([]:List Keyword).isEmpty then 0 else 1)<30))=true:=by rfl)
  (hline:(apos.endLine==cpos.line)=true:=by rfl) (hs:starEach [b] X.env=(false,eval b X.env)::starEach [] X.env:=by rfl) (hpl:(backTo cpos (starEach [] X.env)).any (·.1)=false:=by rfl) (hsw:swapsWith (.Call (.Attribute (.Name x px) "append" apos) [b] [] cpos) none pos.line X.env=pure false:=by rfl):
  PS X (.Expr (.Call (.Attribute (.Name x px) "append" apos) [b] [] cpos) pos) (Zq Z (D6 i fb)):=
 (Al (E6 PySem.F.plainAttrs_list PySem.F.slot_list_append PySem.F.type_list_append Te (Q4 (i:=i) hN hv hd hcd) (Yn hb Jv hs) hbase hfew hline hs hpl) hsw).imp fun _ _ _ h=>Zmo h
end
@[simp] noncomputable def Qb(f:FS)(n:Nat)(ds:List D):Option SV:=match f (Cz n ds)with
 |some (.rt sv)=>some sv
 |some (.nx _)=>some (.fz .non)
 |_=>none
theorem Zal{N:List Str}{n:Nat}{f:FS}{vs:List V}{H:Hp}{Q:VK}{E:XK}(h:Qy K n (Qb f N.length) vs H Q E):∃F,Zq (ent H F:Ent K) f {nx:=fun _ H'=>Q .non H',rt:=Q} (L2.start N vs) H:=by
 obtain⟨F,ds,sv,le,r,hn,e,k⟩:=h
 unfold Qb at e
 split at e
 ·rename_i sw hf
  cases e
  exact⟨F,F,_,_,.rt sv,Rw (N:=N) le r,hf,fun v H' F' ns a b c d e' nd ok=>k v H' F' ns d a b c e' nd ok⟩
 ·rename_i δ hf
  cases e
  exact⟨F,F,_,_,.nx δ,Rw (N:=N) le r,hf,fun σ' H' F' own' a s'=>k .non H' F' [] s'.old a s'.le s'.fro (.fz .non) List.nodup_nil fun _ h=>(nomatch h)⟩
 ·cases e
theorem Iu{F:Hp}:∀ns:List Int,Reps K F (ns.map D.int) (ns.map V.int)
 | []=>.nil
 |n::r=>.cons (.int n) (Iu r)
end DL
namespace DL
open PySem PySem.Spec PyProof.Rows L2
variable{K:PySem.W.Frag}
@[simp] noncomputable def Iv(f:D->D->Option Bool):List D->List D->Option Bool
 |x::xs,y::ys=>(f x y).bind fun b=>(Iv f xs ys).bind fun c=>some (b&&c)
 |_,_=>some true
@[simp] noncomputable def C3(f:D->D->Option Bool):D->D->Option Bool
 | .lst xs,.lst ys=>if xs.length=ys.length then Iv f xs ys else some false
 | .tup xs,.tup ys=>(Iv f xs ys).bind fun b=>some (b&&decide (xs.length=ys.length))
 | .lst _,.tup _=>some false
 | .tup _,.lst _=>some false
 |d1,d2=>eqS d1 d2
@[simp] noncomputable def eqN:Nat->D->D->Option Bool
 |0=>fun _ _=>none
 |n+1=>C3 (eqN n)
theorem Ry{F H:Hp}{d1 d2:D}{x y:V}{b:Bool}(e:eqS d1 d2=some b)(r1:Yc K F H d1 x)(r2:Yc K F H d2 y):Wc x=true/\Wc y=true/\b=Kz x y:=by
 unfold eqS at e
 split at e<;> cases e<;> (first|obtain rfl:=r1.non|obtain rfl:=r1.int|obtain rfl:=r1.bl|obtain rfl:=r1.str)<;> (first|obtain rfl:=r2.non|obtain rfl:=r2.int|obtain rfl:=r2.bl|obtain rfl:=r2.str)<;> refine⟨rfl,rfl,?_⟩<;> first|rfl|simp[Kz]
section
variable{X:Cx}{pins:List (Addr×Obj)}{σ:L2.St}{F H:Hp}{s:Shared}
theorem Zam{x y:V}{v:Value}(rx:Zw x v)(ry:Zw y v)(fx:Wc x=true)(fy:Wc y=true):Kz x y=true:=by
 cases x with
 |non=>cases rx;cases y with
  |non=>rfl
  |bl b=>cases ry
  |int b=>obtain⟨t,e⟩:=ry;cases e
  |str b=>obtain⟨t,e⟩:=ry;cases e
  |_=>cases fy
 |bl a=>cases rx;cases y with
  |non=>cases ry
  |bl b=>cases ry;simp[Kz]
  |int b=>obtain⟨t,e⟩:=ry;cases e
  |str b=>obtain⟨t,e⟩:=ry;cases e
  |_=>cases fy
 |int a=>obtain⟨t,rfl⟩:=rx;cases y with
  |non=>cases ry
  |bl b=>cases ry
  |int b=>obtain⟨t,e⟩:=ry;cases e;simp[Kz]
  |str b=>obtain⟨t,e⟩:=ry;cases e
  |_=>cases fy
 |str a=>obtain⟨t,rfl⟩:=rx;cases y with
  |non=>cases ry
  |bl b=>cases ry
  |int b=>obtain⟨t,e⟩:=ry;cases e
  |str b=>obtain⟨t,e⟩:=ry;cases e;simp[Kz]
  |_=>cases fy
 |_=>cases fx
theorem Ll{h:Heap}{a:Addr}{i1 i2:Array Value}(h1:h.IsList a i1)(h2:h.IsList a i2):i1=i2:=by
 obtain⟨o,e1,c1,n1,d1⟩:=h1
 obtain⟨o2,e2,c2,n2,d2⟩:=h2
 rw[e1]at e2;cases e2
 rw[d1]at d2;cases d2;rfl
theorem Iw{h:Heap}{a:Addr}{i1 i2:Array Value}(h1:h.IsTuple a i1)(h2:h.IsTuple a i2):i1=i2:=by
 obtain⟨o,e1,c1,n1,d1⟩:=h1
 obtain⟨o2,e2,c2,n2,d2⟩:=h2
 rw[e1]at e2;cases e2
 rw[d1]at d2;cases d2;rfl
theorem Pf{f:D->D->Option Bool}(hf:∀d1 d2 b x y v,Rep X.K F d1 x->Zw x v->Rep X.K F d2 y->Zw y v->f d1 d2=some b->b=true){xs:List D}:∀{ys:List D} {vs ws:List V} {us:List Value} {b:Bool},Reps X.K F xs vs->Yb vs us->Reps X.K F ys ws->Yb ws us->Iv f xs ys=some b->b=true:=by
 induction xs with
 |nil=>intro ys vs ws us b _ _ _ _ e;cases e;rfl
 |cons x xs ih=>
  intro ys vs ws us b r1 v1 r2 v2 e
  cases r1 with
  |cons h1 t1=>
   cases v1 with
   |cons a1 w1=>
    cases v2 with
    |cons a2 w2=>
     cases r2 with
     |cons h2 t2=>
      obtain⟨b,e1,e2⟩:=Option.bind_eq_some_iff.mp e
      obtain⟨c,e3,e4⟩:=Option.bind_eq_some_iff.mp e2
      cases e4
      rw[hf _ _ _ _ _ _ h1 a1 h2 a2 e1,ih t1 w1 t2 w2 e3];rfl
theorem V1(I:Inv X pins σ H s)(le:Zh F H){f:D->D->Option Bool}(ih:∀(d1 d2:D) (b:Bool) (x y:V) (v:Value),Rep X.K F d1 x->Zw x v->Rep X.K F d2 y->Zw y v->f d1 d2=some b->b=true)(d1 d2:D)(b:Bool)(x y:V)(v:Value)(r1:Rep X.K F d1 x)(v1:Zw x v)(r2:Rep X.K F d2 y)(v2:Zw y v)(e:C3 f d1 d2=some b):b=true:=by
  unfold C3 at e
  split at e
  ·rename_i xs ys
   cases r1 with
   |lst q1 _ p1=>
   cases r2 with
   |lst q2 _ p2=>
   cases v1;cases v2
   obtain⟨i1,w1,l1,_⟩:=I.list (Wu le q1)
   obtain⟨i2,w2,l2,_⟩:=I.list (Wu le q2)
   have z:=Ll l1.isList l2.isList
   have z:i1=i2:=by simpa using z
   subst z
   split at e
   ·exact Pf (ih) p1 w1 p2 w2 e
   ·rename_i hl
    have h1:=w1.length
    have h2:=w2.length
    have h3:=p1.length
    have h4:=p2.length
    exact absurd (by omega) hl
  ·rename_i xs ys
   cases r1 with
   |tup q1 p1=>
   cases r2 with
   |tup q2 p2=>
   cases v1;cases v2
   obtain⟨i1,w1,l1,_⟩:=I.tuple (Qq le (Gj q1))
   obtain⟨i2,w2,l2,_⟩:=I.tuple (Qq le (Gj q2))
   have z:=Iw l1 l2
   have z:i1=i2:=by simpa using z
   subst z
   refine bnd1 e fun c e1 e2=>?_
   cases e2
   have h1:=w1.length
   have h2:=w2.length
   have h3:=p1.length
   have h4:=p2.length
   rw[Pf (ih) p1 w1 p2 w2 e1,decide_eq_true (by omega)];rfl
  ·cases r1 with
   |lst q1 _ p1=>
   cases r2 with
   |tup q2 p2=>
   cases v1;cases v2
   obtain⟨i1,w1,l1,_⟩:=I.list (Wu le q1)
   obtain⟨i2,w2,l2,_⟩:=I.tuple (Qq le (Gj q2))
   exact absurd rfl (SeqAt.ne_of_list_tuple (s:=s) l1.isList l2)
  ·cases r1 with
   |tup q1 p1=>
   cases r2 with
   |lst q2 _ p2=>
   cases v1;cases v2
   obtain⟨i1,w1,l1,_⟩:=I.tuple (Qq le (Gj q1))
   obtain⟨i2,w2,l2,_⟩:=I.list (Wu le q2)
   exact absurd rfl (SeqAt.ne_of_list_tuple (s:=s) l2.isList l1)
  ·obtain⟨f1,f2,rfl⟩:=Ry (H:=H) e (Yc.of r1) (Yc.of r2)
   exact Zam v1 v2 f1 f2
theorem Ix(I:Inv X pins σ H s)(le:Zh F H):∀(n:Nat) (d1 d2:D) (b:Bool) (x y:V) (v:Value),Rep X.K F d1 x->Zw x v->Rep X.K F d2 y->Zw y v->eqN n d1 d2=some b->b=true
 |0,_,_,_,_,_,_,_,_,_,_,e=>by cases e
 |n+1,d1,d2,b,x,y,v,r1,v1,r2,v2,e=>V1 I le (Ix I le n) d1 d2 b x y v r1 v1 r2 v2 e
theorem Iy{A:Around}{f:D->D->Option Bool}(hf:∀d1 d2 b x y v u,Rep X.K F d1 x->Zw x v->Rep X.K F d2 y->Zw y u->f d1 d2=some b->SeqAt.EqAt A s v u b){xs:List D}:∀{ys:List D} {vs ws:List V} {us zs:List Value} {b:Bool},Reps X.K F xs vs->Yb vs us->Reps X.K F ys ws->Yb ws zs->Iv f xs ys=some b->
  ∃e:Nat->Bool,(∀j (h1:j<us.length) (h2:j<zs.length),SeqAt.EqAt A s us[j] zs[j] (e j))/\(List.range (min us.length zs.length)).all e=b:=by
 induction xs with
 |nil=>
  intro ys vs ws us zs b r1 v1 _ _ e
  cases r1
  cases v1
  cases e
  exact⟨fun _=>true,fun j h1=>absurd h1 (Nat.not_lt_zero _),by rw[List.length_nil,Nat.zero_min];rfl⟩
 |cons x xs ih=>
  intro ys vs ws us zs b r1 v1 r2 v2 e
  cases r1 with
  |cons h1 t1=>
   cases v1 with
   |cons a1 w1=>
    cases v2 with
    |nil=>
     cases r2
     cases e
     exact⟨fun _=>true,fun j _ h2=>absurd h2 (Nat.not_lt_zero _),by rw[List.length_nil,Nat.min_zero];rfl⟩
    |cons a2 w2=>
     cases r2 with
     |cons h2 t2=>
      obtain⟨b,e1,e2⟩:=Option.bind_eq_some_iff.mp e
      obtain⟨c,e3,e4⟩:=Option.bind_eq_some_iff.mp e2
      cases e4
      obtain⟨g,g1,g2⟩:=ih t1 w1 t2 w2 e3
      refine⟨fun j=>Nat.casesOn j b g,fun j h1 h2=>?_,?_⟩
      ·cases j with
       |zero=>exact hf _ _ _ _ _ _ _ ‹_› a1 ‹_› a2 e1
       |succ j=>exact g1 j (Nat.lt_of_succ_lt_succ h1) (Nat.lt_of_succ_lt_succ h2)
      ·rw[List.length_cons,List.length_cons,Nat.succ_min_succ,List.range_succ_eq_map,List.all_cons,List.all_map,<-g2]
       rfl
theorem rcN(I:Inv X pins σ H s)(le:Zh F H){A:Around}{f:D->D->Option Bool}{d1 d2:D}{b:Bool}{x y:V}{v u:Value}
  (ih:∀d1 d2 b x y v u,Rep X.K F d1 x->Zw x v->Rep X.K F d2 y->Zw y u->f d1 d2=some b->SeqAt.EqAt A.in1 s v u b) (r1:Yc X.K F H d1 x) (v1:Zw x v) (r2:Yc X.K F H d2 y) (v2:Zw y u)
  (e:C3 f d1 d2=some b) (hu:A.units<cLine) (hr:Wc x=false\/Wc y=false):(∃a c,v= .ref a/\u= .ref c)/\SeqAt.RcAt A s v u b/\SeqAt.RcNeAt A s v u (!b):=by
 unfold C3 at e
 split at e
 ·obtain⟨a1,vs1,rfl,q1,p1⟩:=r1.lst le
  obtain⟨a2,vs2,rfl,q2,p2⟩:=r2.lst le
  cases v1;cases v2
  obtain⟨i1,w1,l1,_⟩:=I.list q1
  obtain⟨i2,w2,l2,_⟩:=I.list q2
  have h1:=w1.length
  have h2:=w2.length
  have h3:=p1.length
  have h4:=p2.length
  refine⟨⟨_,_,rfl,rfl⟩,?_⟩
  split at e
  ·rename_i hl
   obtain⟨g,g1,g2⟩:=Iy ih p1 w1 p2 w2 e
   have hm:min i1.length i2.length=i1.toArray.size:=by simp;omega
   rw[hm]at g2
   subst g2
   have hz:i1.toArray.size=i2.toArray.size:=by simp;omega
   exact⟨SeqAt.RcAt.lists l1.isList l2.isList hz hu (fun j j1 j2=>by simpa using g1 j (by simpa using j1) (by simpa using j2)),SeqAt.RcNeAt.lists l1.isList l2.isList hz hu (fun j j1 j2=>by simpa using g1 j (by simpa using j1) (by simpa using j2))⟩
  ·rename_i hl
   cases e
   have hz:(i1.toArray.size !=i2.toArray.size)=true:=by simp;omega
   exact⟨SeqAt.RcAt.lists_lengths l1.isList l2.isList hz hu,SeqAt.RcNeAt.lists_lengths l1.isList l2.isList hz hu⟩
 ·rename_i xs ys
  obtain⟨a1,vs1,rfl,q1,p1⟩:=r1.tup le
  obtain⟨a2,vs2,rfl,q2,p2⟩:=r2.tup le
  cases v1;cases v2
  obtain⟨i1,w1,l1,_⟩:=I.tuple q1
  obtain⟨i2,w2,l2,_⟩:=I.tuple q2
  have h1:=w1.length
  have h2:=w2.length
  have h3:=p1.length
  have h4:=p2.length
  refine bnd1 e fun c e1 e2=>?_
  cases e2
  refine⟨⟨_,_,rfl,rfl⟩,?_⟩
  obtain⟨g,g1,g2⟩:=Iy ih p1 w1 p2 w2 e1
  subst g2
  have e3:((List.range (min i1.length i2.length)).all g&&decide (xs.length=ys.length))=((List.range (min i1.toArray.size i2.toArray.size)).all g&&i1.toArray.size==i2.toArray.size):=by
   have:(i1.toArray.size==i2.toArray.size)=decide (xs.length=ys.length):=by
    rw[List.size_toArray,List.size_toArray,<-h1,<-h2,<-h3,<-h4];rfl
   rw[this];simp
  rw[e3]
  exact⟨SeqAt.RcAt.tuples l1 l2 hu (fun j j1 j2=>by simpa using g1 j (by simpa using j1) (by simpa using j2)),SeqAt.RcNeAt.tuples l1 l2 hu (fun j j1 j2=>by simpa using g1 j (by simpa using j1) (by simpa using j2))⟩
 ·obtain⟨a1,vs1,rfl,q1,p1⟩:=r1.lst le
  obtain⟨a2,vs2,rfl,q2,p2⟩:=r2.tup le
  cases v1;cases v2
  cases e
  obtain⟨i1,w1,l1,_⟩:=I.list q1
  obtain⟨i2,w2,l2,_⟩:=I.tuple q2
  exact⟨⟨_,_,rfl,rfl⟩,SeqAt.RcAt.list_tuple l1.isList l2 hu,SeqAt.RcNeAt.list_tuple l1.isList l2 hu⟩
 ·obtain⟨a1,vs1,rfl,q1,p1⟩:=r1.tup le
  obtain⟨a2,vs2,rfl,q2,p2⟩:=r2.lst le
  cases v1;cases v2
  cases e
  obtain⟨i1,w1,l1,_⟩:=I.tuple q1
  obtain⟨i2,w2,l2,_⟩:=I.list q2
  exact⟨⟨_,_,rfl,rfl⟩,SeqAt.RcAt.tuple_list l1 l2.isList hu,SeqAt.RcNeAt.tuple_list l1 l2.isList hu⟩
 ·obtain⟨f1,f2,_⟩:=Ry e r1 r2
  rcases hr with hr|hr
  ·rw[f1]at hr;cases hr
  ·rw[f2]at hr;cases hr
theorem Lm(I:Inv X pins σ H s)(le:Zh F H):∀(n:Nat) (A:Around) (d1 d2:D) (b:Bool) (x y:V) (v u:Value),A.units+n<cLine->Rep X.K F d1 x->Zw x v->Rep X.K F d2 y->Zw y u->eqN n d1 d2=some b->SeqAt.EqAt A s v u b
 |0,_,_,_,_,_,_,_,_,_,_,_,_,_,e=>by cases e
 |n+1,A,d1,d2,b,x,y,v,u,hu,r1,v1,r2,v2,e=>by
  by_cases hf:Wc x=true/\Wc y=true
  ·have e':eqS d1 d2=some b:=by
    unfold eqN C3 at e
    split at e
    ·cases r1;cases hf.1
    ·cases r1;cases hf.1
    ·cases r1;cases hf.1
    ·cases r1;cases hf.1
    ·exact e
   obtain⟨f1,f2,rfl⟩:=Ry (H:=H) e' (Yc.of r1) (Yc.of r2)
   exact Hz v1 v2 f1 f2
  ·have hf':Wc x=false\/Wc y=false:=by
    cases h1:Wc x with
    |false=>exact .inl rfl
    |true=>cases h2:Wc y with
     |false=>exact .inr rfl
     |true=>exact absurd ⟨h1,h2⟩ hf
   obtain⟨⟨a,c,rfl,rfl⟩,h1,_⟩:=rcN I le (A:=A) (f:=eqN n) (fun d1 d2 b x y v u q1 w1 q2 w2 e=>Lm I le n A.in1 d1 d2 b x y v u (by have:A.in1.units=A.units+1:=rfl;omega) q1 w1 q2 w2 e) (Yc.of r1) v1 (Yc.of r2) v2 e (by omega) hf'
   by_cases hac:a=c
   ·subst hac
    rw[Ix I le (n+1) d1 d2 b x y _ r1 v1 r2 v2 e]
    exact SeqAt.EqAt.same _
   ·exact SeqAt.EqAt.of_refs hac h1
noncomputable def Zea(K:PySem.W.Frag)(neg:Bool):R2:=fun x y H Q=>∃F d1 d2 b,Zh F H/\Yc K F H d1 x/\Yc K F H d2 y/\eqN 48 d1 d2=some b/\(Wc x=false\/Wc y=false)/\Q (.bl (if neg then !b else b)) H
theorem Ln(hu:X.A.units+64<cLine):Jk X (compareOp .Eq) (Zea X.K false):=by
 intro pins s σ H x y v u Q I rx ry h
 obtain⟨F,d1,d2,b,le,r1,r2,e,hf,q⟩:=h
 obtain⟨_,h1,_⟩:=rcN I le (A:=X.A) (f:=eqN 47) (fun d1 d2 b x y v u q1 w1 q2 w2 e=>Lm I le 47 X.A.in1 d1 d2 b x y v u (by have:X.A.in1.units=X.A.units+1:=rfl;omega) q1 w1 q2 w2 e) r1 rx r2 ry e (by omega) hf
 exact h1 X.prog X.w X.xe _ ⟨.bl b,H,I,rfl,q⟩
theorem Zan(hu:X.A.units+64<cLine):Jk X (compareOp .NotEq) (Zea X.K true):=by
 intro pins s σ H x y v u Q I rx ry h
 obtain⟨F,d1,d2,b,le,r1,r2,e,hf,q⟩:=h
 obtain⟨_,_,h1⟩:=rcN I le (A:=X.A) (f:=eqN 47) (fun d1 d2 b x y v u q1 w1 q2 w2 e=>Lm I le 47 X.A.in1 d1 d2 b x y v u (by have:X.A.in1.units=X.A.units+1:=rfl;omega) q1 w1 q2 w2 e) r1 rx r2 ry e (by omega) hf
 exact h1 X.prog X.w X.xe _ ⟨.bl !b,H,I,rfl,q⟩
end
@[simp] noncomputable def D.isFlat:D->Bool
 | .non=>true| .bl _=>true| .int _=>true| .str _=>true|_=>false
@[simp] noncomputable def Gz(d1 d2:D):Option SV:=if d1.isFlat=true/\d2.isFlat=true then eqD d1 d2 else(eqN 48 d1 d2).bind fun b=>some (.fz (.bl b))
@[simp] noncomputable def neX(d1 d2:D):Option SV:=if d1.isFlat=true/\d2.isFlat=true then neD d1 d2 else(eqN 48 d1 d2).bind fun b=>some (.fz (.bl !b))
theorem Uu{F H:Hp}{d:D}{x:V}(r:Yc K F H d x)(h:d.isFlat=false):Wc x=false:=by
 obtain⟨sv,ns,e,n,sh,hp⟩:=r
 cases sh with
 |fz r=>cases e;cases r<;> first|rfl|cases h
 |ol r=>rfl
 |oK e' r=>rfl
 |oT kb e' r=>rfl
 |oN e' r=>rfl
 |oR e' r=>rfl
 |oG hp' r=>cases n
 |oX kb' e' r=>rfl
 |oD r=>rfl
 |oM kb' e' r=>rfl
 |oL _ r=>rfl
 |oQ e' r=>rfl
section
variable{Z:Ent K}
theorem Zao:Yg Z (fun x y H Q=>rEq x y H Q\/Zea K false x y H Q) Gz:=by
 intro F H σ δ own x y d1 d2 sv Q s r1 r2 e k
 unfold Gz at e
 split at e
 ·exact .inl (Zp9 F H σ δ own x y d1 d2 sv Q s r1 r2 e k)
 ·rename_i hf
  refine bnd1 e fun b e1 e2=>?_
  cases e2
  refine .inr ⟨F,d1,d2,b,s.le,r1,r2,e1,?_,k.fz s (.bl _)⟩
  cases h1:d1.isFlat with
  |false=>exact .inl (Uu r1 h1)
  |true=>cases h2:d2.isFlat with
   |false=>exact .inr (Uu r2 h2)
   |true=>exact absurd ⟨h1,h2⟩ hf
theorem Zg3:Yg Z (fun x y H Q=>rNe x y H Q\/Zea K true x y H Q) neX:=by
 intro F H σ δ own x y d1 d2 sv Q s r1 r2 e k
 unfold neX at e
 split at e
 ·exact .inl (Zqa F H σ δ own x y d1 d2 sv Q s r1 r2 e k)
 ·rename_i hf
  refine bnd1 e fun b e1 e2=>?_
  cases e2
  refine .inr ⟨F,d1,d2,b,s.le,r1,r2,e1,?_,k.fz s (.bl _)⟩
  cases h1:d1.isFlat with
  |false=>exact .inl (Uu r1 h1)
  |true=>cases h2:d2.isFlat with
   |false=>exact .inr (Uu r2 h2)
   |true=>exact absurd ⟨h1,h2⟩ hf
@[simp] noncomputable def Zeb:D->Option SV
 | .int i=>some (.fz (.int (-i)))
 |_=>none
theorem Znd:Ru Z (rU fun i=>.int (-i)) Zeb:=by
 intro F H σ δ own x d sv Q s r e k
 unfold Zeb at e
 split at e
 ·cases e;exact⟨_,r.int,k.fz s (.int _)⟩
 ·cases e
end
section
variable{X:Cx}{Z:Ent X.K}{a b c:Expr}{fa fb fc:FE}{pos:Pos}
theorem Zne(ha:PE X a (Zb Z fa)):PE X (.UnaryOp .USub a pos) (Zb Z (G7 Zeb fa)):=(Zlw Zh9 ha).imp fun _ _ _ h=>Lf Znd h
theorem Znf(hv:X.A.units+64<cLine)(ha:PE X a (Zb Z fa))(hb:PE X b (Zb Z fb)):PE X (.Compare a [.Eq] [b] pos) (Zb Z (Zj Gz fa fb)):=Zgy (Hk.or (Ln hv)) Zao ha hb (Up _)
theorem Tx(hv:X.A.units+64<cLine)(ha:PE X a (Zb Z fa))(hb:PE X b (Zb Z fb)):PT X (.Compare a [.Eq] [b] pos) (Z5 Z (Z6 (Zj Gz fa fb))):=Go (Hk.or (Ln hv)) Zao ha hb (Up _)
theorem Zng(hv:X.A.units+64<cLine)(ha:PE X a (Zb Z fa))(hb:PE X b (Zb Z fb)):PT X (.Compare a [.NotEq] [b] pos) (Z5 Z (Z6 (Zj neX fa fb))):=Go (Zgd.or (Zan hv)) Zg3 ha hb (Up _)
end
end DL
namespace L2
open PySem PySem.Spec PyProof.Rows
section
variable{X:Cx}{tg:Expr}
noncomputable def Its(z:Str):It:=⟨fun i _=>i<z.length,fun i H x H'=>H'=H/\∃c,z.cps[i]? =some c/\x= .str ⟨#[c]⟩,fun i _=>z.length<=i⟩
theorem V2{P:Program}{w:World}{K:PySem.W.Frag}{tg:Expr}(z:Str)(t:Tok)(it:Addr):Turn P w K tg (Its z) [it] it (fun i h=>h.IsStrIter it (strIterType z) z t i)where
 mem:=by simp
 obj:=fun i h st b hb=>by
  have e:b=it:=by simpa using hb
  subst e
  obtain⟨o,e,c,d⟩:=st
  exact⟨o,e,fun v q=>by rw[d]at q;cases q⟩
 keep:=fun i h h' st k=>by
  obtain⟨o,e,c,d⟩:=st
  exact⟨o,k it (by simp) o e,c,d⟩
 item:=by
  intro X hP hw hK hc i pins s σ H E I hf st hg
  subst hP hw hK
  obtain⟨f0,f1,f2,f3,f4,f5⟩:=hf it (by simp)
  have hlt:i<z.cps.size:=hg
  have hx:z.cps[i]? =some z.cps[i]:=by simp[hlt]
  have fin:∀h',h'.IsStrIter it (strIterType z) z t (i+1)->Heap.SameBut it s.heap h'->∃u,some (Value.str ⟨#[z.cps[i]]⟩ s.toks)=some u/\wpAny (model X.prog X.w) X.A (letOwnedTupleGo tg (.ref it) u) (fun _ s2=>∃x H',Inv X pins σ H' s2/\Zw x u/\(Its z).yld i H x H'/\s2.heap.IsStrIter it (strIterType z) z t (i+1)/\∀b∈[it],H' b=none) E {s with heap:=h',toks:=s.toks+1}:=fun h' st' sb=>by
   have I1:Inv X pins σ H {s with heap:=h',toks:=s.toks+1}:=I.turned (t':=s.toks+1) (fun b o hb q=>(sb.2 b hb).trans q) f0 f1 f3 f4 f5
   obtain⟨o,e,c,d⟩:=id st'
   have hn:["enumerate","zip","dict_itemiterator","dict_reverseitemiterator","odict_iterator","itertools.zip_longest","itertools.pairwise"].contains (strIterType z)=false:=by
    unfold strIterType
    split<;> decide
   exact⟨_,rfl,Nj (s:={s with heap:=h',toks:=s.toks+1}) e c d hn ⟨.str ⟨#[z.cps[i]]⟩,H,I1,⟨_,rfl⟩,⟨rfl,_,hx,rfl⟩,st',fun b hb=>(hf b hb).1⟩⟩
  cases ha:z.cps.all (· <128)with
  |false=>
   have et:strIterType z="str_iterator":=by unfold strIterType;rw[ha];rfl
   rw[et]at st fin
   rw[et]
   exact wpAny_pyNext_wide_item st hx fin
  |true=>
   have et:strIterType z="str_ascii_iterator":=by unfold strIterType;rw[ha];rfl
   rw[et]at st fin
   rw[et]
   exact wpAny_pyNext_ascii_item st hx fin
 done:=by
  intro X hP hw hK hc i pins s σ H E I hf st hg
  subst hP hw hK
  obtain⟨f0,f1,f2,f3,f4,f5⟩:=hf it (by simp)
  have hge:z.cps.size<=i:=hg
  have hx:z.cps[i]? =none:=by simp[hge]
  cases ha:z.cps.all (· <128)with
  |false=>
   have et:strIterType z="str_iterator":=by unfold strIterType;rw[ha];rfl
   rw[et]at st
   exact wpAny_pyNext_wide_end (I.ok.hd hc) st hx fun h' eb=>⟨rfl,I.turned (t':=s.toks) (fun b o hb q=>eb b o hb q) f0 f1 f3 f4 f5⟩
  |true=>
   have et:strIterType z="str_ascii_iterator":=by unfold strIterType;rw[ha];rfl
   rw[et]at st
   exact wpAny_pyNext_ascii_end (I.ok.hd hc) st hx fun h' eb=>⟨rfl,I.turned (t':=s.toks) (fun b o hb q=>eb b o hb q) f0 f1 f3 f4 f5⟩
 self:=fun _ _ _ _ _ st h=>by
  cases ha:z.cps.all (· <128)with
  |false=>
   have et:strIterType z="str_iterator":=by unfold strIterType;rw[ha];rfl
   rw[et]at st
   exact wpAny_pyIter_striter_wide st h
  |true=>
   have et:strIterType z="str_ascii_iterator":=by unfold strIterType;rw[ha];rfl
   rw[et]at st
   exact wpAny_pyIter_striter_ascii st h
noncomputable def Znh(K:PySem.W.Frag)(tl:TE):TI:=fun σ H R=>tl σ H fun x H1=>(∃a,x= .ref a/\(∃xs,Of K H1 a xs)/\R (Itl K a) H1)\/(∃a,x= .ref a/\(∃xs,Mu K H1 a xs)/\R (Itt K a) H1)\/(∃z,x= .str z/\R (Its z) H1)
theorem Zjh{l:Expr}{tl:TE}(hl:PE X l tl):PI X tg l (Znh X.K tl):=by
 intro pins s σ H R I h
 refine Y3 (hl pins s σ H _ I h) fun v s1 zq9=>?_
 obtain⟨x,H1,I1,r1,q1⟩:=zq9
 rcases q1 with⟨a,e,⟨xs,hq⟩,q⟩|⟨a,e,⟨xs,hq⟩,q⟩|⟨z,e,q⟩
 ·subst e
  cases r1
  obtain⟨its,rv,p,hz⟩:=I1.list hq
  refine wpAny_pyIter_list p.isList ?_
  refine⟨s1.heap.objs.size,[s1.heap.objs.size],_,_,H1,rfl,I1.kept (t':=s1.toks) fun b o e=>Heap.get?_push_of_some _ e,S7 a _,⟨_,Heap.get?_push_size _ rfl,rfl,rfl⟩,fun b hb=>?_,q⟩
  have e:b=s1.heap.objs.size:=by simpa using hb
  subst e
  exact I1.fpOk (Nat.le_refl _) (I1.hok.fresh (Nat.le_refl _))
 ·subst e
  cases r1
  obtain⟨its,rv,p,hz⟩:=I1.tuple hq
  refine wpAny_pyIter_tuple (show s1.heap.IsTuple a its.toArray from p) ?_
  refine⟨s1.heap.objs.size,[s1.heap.objs.size],_,_,H1,rfl,I1.kept (t':=s1.toks) fun b o e=>Heap.get?_push_of_some _ e,Kq a _,⟨_,Heap.get?_push_size _ rfl,rfl,rfl⟩,fun b hb=>?_,q⟩
  have e:b=s1.heap.objs.size:=by simpa using hb
  subst e
  exact I1.fpOk (Nat.le_refl _) (I1.hok.fresh (Nat.le_refl _))
 ·subst e
  obtain⟨t,rfl⟩:=r1
  refine wpAny_pyIter_strU ?_
  refine⟨s1.heap.objs.size,[s1.heap.objs.size],_,_,H1,rfl,I1.kept (t':=s1.toks) fun b o e=>Heap.get?_push_of_some _ e,V2 z t _,⟨_,Heap.get?_push_size _ rfl,rfl,rfl⟩,fun b hb=>?_,q⟩
  have e:b=s1.heap.objs.size:=by simpa using hb
  subst e
  exact I1.fpOk (Nat.le_refl _) (I1.hok.fresh (Nat.le_refl _))
theorem C4:∀l:List (Str×Tok),Yb ((l.map (·.1)).map V.str) (strValues l)
 | []=>.nil
 | (x,t)::r=>.cons ⟨t,rfl⟩ (C4 r)
noncomputable def Zap:V->List V->Hp->VK->Prop:=fun x xs H Q=>∃a b,x= .str a/\xs=[.str b]/\(b.length==0)=false/\a.length<=sizeLine/\(Txt.split a b).length<=sizeLine/\∀p,H p=none->Q (.ref p) (Ys H p (.lst ((Txt.split a b).map V.str)))
theorem Zaq:MtR X "str.split" Zap:=by
 intro pins s σ H x xs v us Q I rx rs h
 obtain⟨a,b,rfl,rfl,hb,ha,hz,q⟩:=h
 obtain⟨t,rfl⟩:=rx
 obtain⟨u,rfl,ru⟩:=Bz rs
 obtain⟨t',rfl⟩:=ru
 have one:Txt.split a b=[a]->∀tk,EP X pins σ Q (.ref s.heap.objs.size) {s with toks:=tk,heap:=s.heap.push {cls:=.type "list",data:=.seq #[.str a t]}}:=fun e tk=>by
  rw[e]at q
  exact⟨.ref _,_,I.lnew (t':=tk) (ys:=[.str a]) (its:=[.str a t]) (.cons ⟨t,rfl⟩ .nil) (by show 1<=sizeLine;decide),rfl,q _ I.fresh⟩
 cases h1:(decide (a.length<b.length)||decide (Builtin.Str.strKind a<Builtin.Str.strKind b))
 ·cases hf:(Builtin.Str.occurrences a b 0 a.length (a.length+1)).isEmpty
  ·have e:Txt.split a b=Builtin.Str.partsBetween a (Builtin.Str.occurrences a b 0 a.length (a.length+1)) b.length:=(if_neg (ne_true_of_eq_false h1)).trans (if_neg (ne_true_of_eq_false hf))
   rw[e]at hz q
   refine call_meets F.slot_str_split (typeIs_str _ _ _) F.entry_str_split (F.args_str_split_2 _ _) (meets_str_split_sep a b t t' h1 hb hf ha hz) ?_
   rw[strsFrom_eq]
   have hv:=C4 (numbered s.toks (Builtin.Str.partsBetween a (Builtin.Str.occurrences a b 0 a.length (a.length+1)) b.length))
   rw[numbered_texts]at hv
   exact⟨.ref _,_,I.lnew (t':=_) hv (by rw[List.length_map];exact hz),rfl,q _ I.fresh⟩
  ·exact call_meets F.slot_str_split (typeIs_str _ _ _) F.entry_str_split (F.args_str_split_2 _ _) (meets_str_split_not_found a b t t' h1 hb hf) (one ((if_neg (ne_true_of_eq_false h1)).trans (if_pos hf)) s.toks)
 ·exact call_meets F.slot_str_split (typeIs_str _ _ _) F.entry_str_split (F.args_str_split_2 _ _) (meets_str_split_cannot_occur a b t t' h1) (one (if_pos h1) s.toks)
noncomputable def Zg4:V->List V->Hp->VK->Prop:=fun x xs H Q=>∃a b,x= .str a/\xs=[.str b]/\(b.length==0)=false/\a.length<=sizeLine/\∀p,H p=none->Q (.ref p) (Ys H p (.tup [.str (Txt.partition a b).1,.str (Txt.partition a b).2.1,.str (Txt.partition a b).2.2]))
theorem Inv.tnew{pins:List (Addr×Obj)}{σ:L2.St}{H:Hp}{s:Shared}{ys:List V}{its:List Value}{t':Nat}(I:Inv X pins σ H s)(hv:Yb ys its)(hz:ys.length<=sizeLine):
  Inv X pins σ (Ys H s.heap.objs.size (.tup ys)) {s with heap:=s.heap.push {cls:=.type "tuple",data:=.seq its.toArray},toks:=t'}:=
 I.laid (fun _ _ q=>Heap.get?_push_of_some _ q) (Nat.le_refl _) ⟨hz,its,hv,⟨_,Heap.get?_push_size _ rfl,rfl,_,rfl⟩⟩
theorem Zec:MtR X "str.partition" Zg4:=by
 intro pins s σ H x xs v us Q I rx rs h
 obtain⟨a,b,rfl,rfl,hb,ha,q⟩:=h
 obtain⟨t,rfl⟩:=rx
 obtain⟨u,rfl,ru⟩:=Bz rs
 obtain⟨t',rfl⟩:=ru
 refine call_meets F.slot_str_partition (typeIs_str _ _ _) F.entry_str_partition (F.args_str_partition_2 _ _) (meets_str_partition a b t t' hb ha) ?_
 unfold Txt.partition at q
 cases e:Builtin.Str.occurrences a b 0 a.length 1 with
 |nil=>
  rw[e]at q
  exact⟨.ref _,_,I.tnew (t':=s.toks+1) (ys:=[.str a,.str Str.empty,.str Str.empty]) (its:=[.str a t,.str Str.empty s.toks,.str Str.empty s.toks]) (.cons ⟨_,rfl⟩ (.cons ⟨_,rfl⟩ (.cons ⟨_,rfl⟩ .nil))) (by show 3<=sizeLine;decide),rfl,q _ I.fresh⟩
 |cons i r=>
  rw[e]at q
  exact⟨.ref _,_,I.tnew (t':=s.toks+1+1) (ys:=[.str (Builtin.Str.strSub a 0 i),.str b,.str (Builtin.Str.strSub a (i+b.length) a.length)]) (its:=[.str (Builtin.Str.strSub a 0 i) s.toks,.str b t',.str (Builtin.Str.strSub a (i+b.length) a.length) (s.toks+1)]) (.cons ⟨_,rfl⟩ (.cons ⟨_,rfl⟩ (.cons ⟨_,rfl⟩ .nil))) (by show 3<=sizeLine;decide),rfl,q _ I.fresh⟩
noncomputable def Zni(K:PySem.W.Frag):List V->Hp->VK->Prop:=fun xs H Q=>∃(p:Addr) (bs:List Bool),xs=[.ref p]/\Of K H p (bs.map V.bl)/\Q (.bl (bs.all id)) H
theorem Iz:∀{bs:List Bool} {us:List Value},Yb (bs.map V.bl) us->us=bs.map Value.bool
 | [],_,r=>by rw[List.map_nil]at r;cases r;rfl
 |b::bs,_,r=>by
  rw[List.map_cons]at r
  cases r with
  |cons h t=>
   cases(show _=Value.bool b from h)
   rw[Iz t];rfl
theorem Tz:∀bs:List Bool,(List.range bs.length).all (fun i=>(bs[i]?).getD true)=bs.all id
 | []=>rfl
 |b::bs=>by
  rw[List.length_cons,List.range_succ_eq_map,List.all_cons,List.all_map,List.all_cons,<-Tz bs]
  rfl
theorem Zar(hc:X.calm=true):Jl X (.builtin "all") (Zni X.K):=by
 intro pins s σ H xs us Q I rs h
 obtain⟨p,bs,rfl,hq,q⟩:=h
 obtain⟨u,rfl,ru⟩:=Bz rs
 cases ru
 obtain⟨its,rv,pl,hz⟩:=I.list hq
 have e:=Iz rv
 subst e
 refine call_all_walk (wpAny_pyIter_list pl.isList ?_)
 have hne:p≠s.heap.objs.size:=fun z=>by
  obtain⟨o,ho,_⟩:=pl.isList
  have:=Heap.lt_size ho
  rw[z]at this;exact Nat.lt_irrefl _ this
 refine⟨s.heap.objs.size,_,_,_,_,_,fun i=>(bs[i]?).getD true,rfl,Walks.list (by first|exact I.ok.hd hc| (rw[show X.A.in1.handled=X.A.handled from rfl];exact I.ok.hd hc)) _ p hne (bs.map Value.bool).toArray,⟨⟨_,Heap.get?_push_size _ rfl,rfl,rfl⟩,pl.isList.at fun o e=>Heap.get?_push_of_some _ e⟩,?_,fun h' tk hk=>?_⟩
 ·intro i v s' Q' E' hP hQ
  have hP':(bs.map Value.bool)[i]? =some v:=by simpa using hP
  rw[List.getElem?_map]at hP'
  cases hb:bs[i]? with
  |none=>rw[hb]at hP';cases hP'
  |some b=>
   rw[hb]at hP'
   cases hP'
   dsimp only at hQ
   rw[hb]at hQ
   exact wpAny_truthy_bool hQ
 ·have e:(List.range (bs.map Value.bool).toArray.size).all (fun i=>(bs[i]?).getD true)=bs.all id:=by
   rw[List.size_toArray,List.length_map];exact Tz bs
  rw[e]
  refine⟨.bl _,H,I.kept (t':=tk) fun b o hb=>hk b o (fun z=>?_) (Heap.get?_push_of_some _ hb),rfl,q⟩
  have z':b=s.heap.objs.size:=by simpa using z
  have:=Heap.lt_size hb
  rw[z']at this;exact Nat.lt_irrefl _ this
end
end L2
namespace DL
open PySem PySem.Spec PyProof.Rows L2
variable{K:PySem.W.Frag}
noncomputable def signs(z:Str):List D:=z.cps.toList.map fun c=>.str ⟨#[c]⟩
theorem I0{z:Str}{F:Hp}:Cy K (Its z) F (signs z):=fun F' H sF sH i=>by
 have hl:(signs z).length=z.length:=by unfold signs;rw[List.length_map];rfl
 refine⟨fun d hd=>?_,fun h=>by rw[hl]at h;exact h⟩
 have hi:i<z.length:=by
  have:=(List.getElem?_eq_some_iff.mp hd).1
  rw[hl]at this;exact this
 refine⟨hi,fun x H' zq9=>?_⟩
 obtain⟨e1,c,e2,e3⟩:=zq9
 subst e1 e3
 unfold signs at hd
 rw[List.getElem?_map]at hd
 have e4:z.cps.toList[i]? =some c:=by simpa using e2
 rw[e4]at hd
 cases hd
 exact⟨Zh.refl _,[],List.nodup_nil,fun _ h=>(nomatch h),.str _⟩
section
variable{Z:Ent K}{H:Hp}{σ:L2.St}{Q:VK}{E:Ends}
@[simp] noncomputable def Zed(fe:FE):FD:=fun δ=>(fe δ).bind fun p=>(frz p.1 p.2).bind fun q=>match q.1 with
 | .lst xs=>some (xs,q.2)
 | .tup xs=>some (xs,q.2)
 | .str z=>some (signs z,q.2)
 |_=>none
theorem Zji{fe:FE}{R:It->Hp->Prop}(h:Oj Z (Zed fe) σ H R):Znh K (Zb Z fe) σ H R:=by
 obtain⟨F,δ,own,ds,δ',s,e,k⟩:=h
 refine bnd2 e fun rv δ1 e1 e2=>?_
 refine bnd2 e2 fun d δ2 e3 e4=>?_
 refine⟨F,δ,own,rv,δ1,s,e1,fun v H1 F1 own1 sH sF s1 r1=>?_⟩
 obtain⟨F2,sF2,s2,r2⟩:=s1.settleR r1
 obtain⟨F3,own3,sF3,s3,r3⟩:=s2.frzR r2 e3
 dsimp only at e4
 split at e4
 ·cases e4
  cases r3 with
  |lst h _ r=>exact .inl ⟨_,rfl,⟨_,Wu s3.le h⟩,k _ H1 F3 own3 sH (sF.trans (sF2.trans sF3)) s3 (Il h r)⟩
 ·cases e4
  cases r3 with
  |tup h r=>exact .inr (.inl ⟨_,rfl,⟨_,Qq s3.le (Gj h)⟩,k _ H1 F3 own3 sH (sF.trans (sF2.trans sF3)) s3 (Li (Gj h) r)⟩)
 ·cases e4
  cases r3 with
  |str x=>exact .inr (.inr ⟨_,rfl,k _ H1 F3 own3 sH (sF.trans (sF2.trans sF3)) s3 I0⟩)
 ·cases e4
@[simp] noncomputable def inS(i j:Str):Bool:=!(Builtin.Str.occurrences j i 0 j.length 1).isEmpty
@[simp] noncomputable def inD:D->D->Option SV
 | .str i,.str j=>some (.fz (.bl (inS i j)))
 |_,_=>none
@[simp] noncomputable def Lo:D->D->Option SV
 | .str i,.str j=>some (.fz (.bl (!inS i j)))
 |_,_=>none
theorem Zqj:Yg Z (fun x y H Q=>∃i j,x= .str i/\y= .str j/\Q (.bl (!(Builtin.Str.occurrences j i 0 j.length 1).isEmpty)) H) inD:=by
 intro F H σ δ own x y d1 d2 sv Q s r1 r2 e k
 unfold inD at e
 split at e
 ·cases e;exact⟨_,_,r1.str,r2.str,k.fz s (.bl _)⟩
 ·cases e
theorem Zee:Yg Z (fun x y H Q=>∃i j,x= .str i/\y= .str j/\Q (.bl (!(!(Builtin.Str.occurrences j i 0 j.length 1).isEmpty))) H) Lo:=by
 intro F H σ δ own x y d1 d2 sv Q s r1 r2 e k
 unfold Lo at e
 split at e
 ·cases e;exact⟨_,_,r1.str,r2.str,k.fz s (.bl _)⟩
 ·cases e
@[simp] noncomputable def A7:List D->Option SV
 | [.str a,.str b]=>if(b.length==0)=false/\a.length<=PySem.sizeLine/\(Txt.split a b).length<=PySem.sizeLine then some (.ol ((Txt.split a b).map D.str))else none
 |_=>none
theorem C5{F:Hp}:∀xs:List Str,Reps K F (xs.map D.str) (xs.map V.str)
 | []=>.nil
 |x::r=>.cons (.str x) (C5 r)
theorem Zef:N8 Z Zap A7:=by
 intro F H σ δ own vs ds sv Q s r e k
 unfold A7 at e
 split at e
 ·rename_i a b
  split at e
  ·rename_i h
   cases e
   cases r with
   |cons h1 t=>cases t with
    |cons h2 t=>cases t;exact⟨_,_,rfl,a,b,h1.str,by rw[h2.str],h.1,h.2.1,h.2.2,fun p hp=>k.lst s (C5 _) hp⟩
  ·cases e
 ·cases e
@[simp] noncomputable def Uv:List D->Option SV
 | [.str a,.str b]=>if(b.length==0)=false/\a.length<=PySem.sizeLine then some (.fz (.tup [.str (Txt.partition a b).1,.str (Txt.partition a b).2.1,.str (Txt.partition a b).2.2]))else none
 |_=>none
theorem I8:N8 Z Zg4 Uv:=by
 intro F H σ δ own vs ds sv Q s r e k
 unfold Uv at e
 split at e
 ·rename_i a b
  split at e
  ·rename_i h
   cases e
   cases r with
   |cons h1 t=>cases t with
    |cons h2 t=>cases t;exact⟨_,_,rfl,a,b,h1.str,by rw[h2.str],h.1,h.2,fun p hp=>k.tup s (.cons (.str _) (.cons (.str _) (.cons (.str _) .nil))) hp⟩
  ·cases e
 ·cases e
@[simp] noncomputable def bools?:List D->Option (List Bool)
 | []=>some []
 | .bl x::r=>(bools? r).bind fun t=>some (x::t)
 |_=>none
theorem I9{F:Hp}:∀{ds:List D} {xs:List Bool} {vs:List V},bools? ds=some xs->Reps K F ds vs->vs=xs.map V.bl
 | [],_,_,e,r=>by cases e;cases r;rfl
 |d::ds,_,_,e,r=>by
  cases r with
  |cons h t=>
   unfold bools? at e
   split at e
   ·rename_i e0;cases e0
   ·rename_i x r0 e0
    cases e0
    refine bnd1 e fun ys e1 e2=>?_
    cases e2
    cases h
    rw[I9 e1 t];rfl
   ·cases e
@[simp] noncomputable def Zeg:List D->Option SV
 | [.lst xs]=>(bools? xs).bind fun bs=>some (.fz (.bl (bs.all id)))
 |_=>none
theorem Znj:Gk Z (Zni K) Zeg:=by
 intro F H σ δ own vs ds sv Q s r e k
 unfold Zeg at e
 split at e
 ·refine bnd1 e fun bs e1 e2=>?_
  cases e2
  cases r with
  |cons h1 t=>
   cases t
   obtain⟨a,vs,rfl,ha,ra⟩:=h1.lst s.le
   rw[I9 e1 ra]at ha
   exact⟨a,bs,rfl,ha,k.fz s (.bl _)⟩
 ·cases e
end
section
variable{X:Cx}{Z:Ent X.K}{a b c:Expr}{fa fb fc:FE}{pos:Pos}{tg:Expr}
theorem Zg6(ha:PE X a (Zb Z fa)):PI X tg a (Oj Z (Zed fa)):=fun pins s σ H R I h=>Zjh ha pins s σ H R I (Zji h)
theorem Zeh{apos cpos:Pos}(ha:PE X a (Zb Z fa))(hb:PE X b (Zb Z fb))(hbase:attributeBase a "split" X.env (eval a X.env)=eval a X.env:=by rfl)
  (hfew:((backTo cpos (starEach [b] X.env)).all (fun x=>!x.1)&&(backToKw cpos (keywordEach [] X.env)).all (fun x=>x.1.isSome)&&decide ([b].length+([]:List Keyword).length+(if([]:List Keyword).isEmpty then 0 else 1)<30))=true:=by rfl)
  (hline:(apos.endLine==cpos.line)=true:=by rfl) (hs:starEach [b] X.env=(false,eval b X.env)::starEach [] X.env:=by rfl) (hpl:(backTo cpos (starEach [] X.env)).any (·.1)=false:=by rfl):
  PE X (.Call (.Attribute a "split" apos) [b] [] cpos) (Zb Z (bmF "str" A7 fa (Ze fb Zr))):=
 (E6 PySem.F.plainAttrs_str PySem.F.slot_str_split PySem.F.type_str_split Zaq ha (Zp hb Yx hs) hbase hfew hline hs hpl).imp fun _ _ _ h=>Zi7 Zef h
theorem Fa{apos cpos:Pos}(ha:PE X a (Zb Z fa))(hb:PE X b (Zb Z fb))(hbase:attributeBase a "partition" X.env (eval a X.env)=eval a X.env:=by rfl)
  (hfew:((backTo cpos (starEach [b] X.env)).all (fun x=>!x.1)&&(backToKw cpos (keywordEach [] X.env)).all (fun x=>x.1.isSome)&&decide ([b].length+([]:List Keyword).length+(if([]:List Keyword).isEmpty then 0 else 1)<30))=true:=by rfl)
  (hline:(apos.endLine==cpos.line)=true:=by rfl) (hs:starEach [b] X.env=(false,eval b X.env)::starEach [] X.env:=by rfl) (hpl:(backTo cpos (starEach [] X.env)).any (·.1)=false:=by rfl):
  PE X (.Call (.Attribute a "partition" apos) [b] [] cpos) (Zb Z (bmF "str" Uv fa (Ze fb Zr))):=
 (E6 PySem.F.plainAttrs_str PySem.F.slot_str_partition PySem.F.type_str_partition Zec ha (Zp hb Yx hs) hbase hfew hline hs hpl).imp fun _ _ _ h=>Zi7 I8 h
theorem Znk{p:Pos}(hm:X.mg "all"=none)(ha:PE X a (Zb Z fa))(hc:X.calm=true:=by rfl)(hg:Gl X "all":=by rfl)(he:starEach [a] X.env=(false,eval a X.env)::starEach [] X.env:=by rfl)(hpl:(backTo pos (starEach [] X.env)).any (·.1)=false:=by rfl):PE X (.Call (.Name "all" p) [a] [] pos) (Zb Z (W6 Zeg (Ze fa Zr))):=
 Pb (Zar hc) Znj hm boot_all (Zp ha Yx he) hg (by decide) (by decide) he hpl
end
end DL
namespace L2
open PySem PySem.Spec PyProof.Rows
variable{X:Cx}
noncomputable def Znl:R2:=fun x y H Q=>∃a v,x= .ref a/\Ua H a y (some v)/\Q v H
noncomputable def Zas:R2:=fun y x H Q=>∃a o,x= .ref a/\Ua H a y o/\Q (.bl o.isSome) H
noncomputable def Cf:R2:=fun y x H Q=>∃a o,x= .ref a/\Ua H a y o/\Q (.bl (!o.isSome)) H
theorem Rz(hu:X.A.units+1<cLine):Jk X (compareOp .In) Zas:=by
 intro pins s σ H y x v u Q I ry rx h
 obtain⟨a,o,rfl,g,q⟩:=h
 cases rx
 exact Zp1 hu I g ry fun s' I'=>⟨.bl o.isSome,H,I',rfl,q⟩
theorem M0(hu:X.A.units+1<cLine):Jk X (compareOp .NotIn) Cf:=by
 intro pins s σ H y x v u Q I ry rx h
 obtain⟨a,o,rfl,g,q⟩:=h
 cases rx
 exact Zdg hu I g ry fun s' I'=>⟨.bl (!o.isSome),H,I',rfl,q⟩
end L2
namespace DL
open PySem PySem.Spec PyProof.Rows L2
variable{K:PySem.W.Frag}
@[simp] noncomputable def D.key?:D->Option Key
 | .int i=>some (.inl i)
 | .str x=>some (.inr x)
 |_=>none
@[simp] noncomputable def keys?:List D->Option (List Key)
 | []=>some []
 |d::r=>d.key?.bind fun k=>(keys? r).bind fun t=>some (k::t)
section
variable{κ:Type}[DecidableEq κ]
@[simp] noncomputable def look(ks:List κ)(vs:List D)(k:κ):Option D:=match ks,vs with
 |a::ks,v::vs=>if a=k then some v else look ks vs k
 |_,_=>none
theorem G8{F:Hp}(k:κ):∀(kvs:List (κ×V)) (ds:List D),Reps K F ds (kvs.map (·.2))->match look (kvs.map (·.1)) ds k with
  |some d=>∃v,W8 kvs k=some v/\Rep K F d v
  |none=>W8 kvs k=none
 | [],_,r=>by cases r;exact Da
 |p::kvs,_,r=>by
  cases r with
  | @cons d v ds vs h t=>
   show match(if p.1=k then some d else look (kvs.map (·.1)) ds k)with
    |some d=>∃v,W8 (p::kvs) k=some v/\Rep K F d v
    |none=>W8 (p::kvs) k=none
   by_cases e:p.1=k
   ·rw[if_pos e]
    exact⟨p.2,Q6 e,h⟩
   ·rw[if_neg e,Q7 e]
    exact G8 k kvs ds t
@[simp] noncomputable def Bp(ks:List κ)(vs:List D)(k:κ)(v:D):List κ×List D:=
 if k∈ks then(ks,(ks.zip vs).map fun p=>if p.1=k then v else p.2)else(ks++[k],vs++[v])
theorem Reps.length_map{F:Hp}{α:Type}{ds:List D}{kvs:List (α×V)}(r:Reps K F ds (kvs.map (·.2))):ds.length=kvs.length:=by rw[r.length,List.length_map]
theorem Pg{F:Hp}{k:κ}{d:D}{v:V}(hd:Rep K F d v):∀(kvs:List (κ×V)) (ds:List D),Reps K F ds (kvs.map (·.2))->
  Reps K F (((kvs.map (·.1)).zip ds).map fun p=>if p.1=k then d else p.2) ((kvs.map fun kv=>if kv.1=k then(kv.1,v)else kv).map (·.2))
 | [],_,r=>by cases r;exact .nil
 |p::kvs,_,r=>by
  cases r with
  | @cons d' v' ds vs h t=>
   have ih:=Pg (k:=k) hd kvs ds t
   show Reps K F ((if p.1=k then d else d')::(((kvs.map (·.1)).zip ds).map fun p=>if p.1=k then d else p.2)) ((if p.1=k then(p.1,v)else p).2::((kvs.map fun kv=>if kv.1=k then(kv.1,v)else kv).map (·.2)))
   refine .cons ?_ ih
   by_cases e:p.1=k
   ·rw[if_pos e,if_pos e];exact hd
   ·rw[if_neg e,if_neg e];exact h
theorem Zat{k:κ}{v:V}(kvs:List (κ×V)):(kvs.map fun kv=>if kv.1=k then(kv.1,v)else kv).map (·.1)=kvs.map (·.1):=by
 rw[List.map_map]
 refine List.map_congr_left fun p _=>?_
 show(if p.1=k then(p.1,v)else p).1=p.1
 split<;> rfl
theorem Ph(k:κ)(kvs:List (κ×V)):(kvs.any fun kv=>decide (kv.1=k))=true↔k∈kvs.map (·.1):=by
 rw[List.any_eq_true,List.mem_map]
 constructor
 ·rintro⟨p,h1,h2⟩;exact⟨p,h1,of_decide_eq_true h2⟩
 ·rintro⟨p,h1,h2⟩;exact⟨p,h1,decide_eq_true h2⟩
theorem Lp{F:Hp}{k:κ}{d:D}{v:V}(hd:Rep K F d v)(kvs:List (κ×V))(ds:List D)(r:Reps K F ds (kvs.map (·.2))):
  (Qp kvs k v).map (·.1)=(Bp (kvs.map (·.1)) ds k d).1/\Reps K F (Bp (kvs.map (·.1)) ds k d).2 ((Qp kvs k v).map (·.2)):=by
 unfold Qp Bp
 by_cases h:k∈kvs.map (·.1)
 ·rw[if_pos h,if_pos ((Ph k kvs).mpr h)]
  exact⟨Zat kvs,Pg hd kvs ds r⟩
 ·rw[if_neg h,if_neg fun z=>h ((Ph k kvs).mp z),List.map_append,List.map_append]
  exact⟨rfl,r.snoc hd⟩
end
theorem A8{F H:Hp}{d:D}{k:Key}{y:V}(e:d.key? =some k)(r:Yc K F H d y):y=kV k:=by
 cases d with
 |int i=>cases e;exact r.int
 |str x=>cases e;exact r.str
 |_=>cases e
theorem Zei{F:Hp}{d:D}{k:Key}{y:V}(e:d.key? =some k)(r:Rep K F d y):y=kV k:=A8 (H:=F) e (Yc.of r)
theorem A9{F:Hp}:∀{ds:List D} {ks:List Key} {vs:List V},keys? ds=some ks->Reps K F ds vs->vs=ks.map kV
 | [],_,_,e,r=>by cases e;cases r;rfl
 |d::ds,_,_,e,r=>by
  cases r with
  |cons h t=>
   refine bnd1 e fun k e1 e2=>?_
   refine bnd1 e2 fun t' e3 e4=>?_
   cases e4
   rw[Zei e1 h,A9 e3 t];rfl
theorem Yc.tupH{F H:Hp}{xs:List D}{v:V}(le:Zh F H)(h:Yc K F H (.tup xs) v):∃a vs,v= .ref a/\H a=some (.tup vs)/\Reps K F xs vs:=by
 obtain⟨sv,ns,e,n,sh,hp⟩:=h
 cases sh with
 |fz r=>cases e;cases r with|tup h r=>exact⟨_,_,rfl,le _ _ h,r⟩
 |ol r=>cases e
 |oK e' r=>cases e
 |oT kb e' r=>cases e
 |oN e' r=>cases n
 |oR e' r=>cases n
 |oG hp' r=>cases n
 |oX kb' e' r=>cases n
 |oD r=>cases n
 |oM kb' e' r=>cases n
 |oL _ r=>cases n
 |oQ e' r=>cases e
@[simp] noncomputable def Lq:D->D->Option (Option D)
 | .dK ks vs,d=>d.key?.bind fun k=>some (look ks vs k)
 | .dT ks vs,.tup xs=>(keys? xs).bind fun k=>some (look ks vs k)
 |_,_=>none
theorem R0{F H:Hp}{d1 d2:D}{x y:V}{o:Option D}(le:Zh F H)(e:Lq d1 d2=some o)(r1:Yc K F H d1 x)(r2:Yc K F H d2 y):
  ∃a,x= .ref a/\IsD H a/\match o with
   |some d=>∃v,Ua H a y (some v)/\Rep K F d v
   |none=>Ua H a y none:=by
 unfold Lq at e
 split at e
 ·refine bnd1 e fun k e1 e2=>?_
  obtain⟨a,kvs,rfl,ha,rfl,rr⟩:=r1.dK le
  refine⟨a,rfl,.inl ⟨kvs,ha.rd⟩,?_⟩
  rw[A8 e1 r2]
  have z:=G8 k kvs _ rr
  have g:=Ua.k (k:=k) ha
  rw[Option.some.inj e2]at z
  cases o with
  |none=>rw[show W8 kvs k=none from z]at g;exact g
  |some d=>obtain⟨v,z1,z2⟩:=z;rw[z1]at g;exact⟨v,g,z2⟩
 ·refine bnd1 e fun k e1 e2=>?_
  obtain⟨a,kvs,rfl,ha,rfl,rr⟩:=r1.dT le
  obtain⟨b,vs,rfl,hb,rb⟩:=r2.tupH le
  refine⟨a,rfl,.inr ⟨kvs,ha.rd⟩,?_⟩
  rw[A9 e1 rb]at hb
  have z:=G8 k kvs _ rr
  have g:=Ua.t ha hb
  rw[Option.some.inj e2]at z
  cases o with
  |none=>rw[show W8 kvs k=none from z]at g;exact g
  |some d=>obtain⟨v,z1,z2⟩:=z;rw[z1]at g;exact⟨v,g,z2⟩
 ·cases e
section
variable{Z:Ent K}
@[simp] noncomputable def Zau(d1 d2:D):Option SV:=(Lq d1 d2).bind fun o=>o.bind fun d=>some (.fz d)
theorem Zjj:Yg Z Znl Zau:=by
 intro F H σ δ own x y d1 d2 sv Q s r1 r2 e k
 refine bnd1 e fun o e1 e2=>?_
 refine bnd1 e2 fun d e3 e4=>?_
 cases e4
 subst e3
 obtain⟨a,rfl,_,v,g,rv⟩:=R0 s.le e1 r1 r2
 exact⟨a,v,rfl,g,k.fz s rv⟩
@[simp] noncomputable def Znm(d1 d2:D):Option SV:=(Lq d2 d1).bind fun o=>some (.fz (.bl o.isSome))
@[simp] noncomputable def Pj(d1 d2:D):Option SV:=(Lq d2 d1).bind fun o=>some (.fz (.bl (!o.isSome)))
theorem Zjk:Yg Z Zas Znm:=by
 intro F H σ δ own x y d1 d2 sv Q s r1 r2 e k
 refine bnd1 e fun o e1 e2=>?_
 cases e2
 obtain⟨a,rfl,_,g⟩:=R0 s.le e1 r2 r1
 cases o with
 |none=>exact⟨a,none,rfl,g,k.fz s (.bl _)⟩
 |some d=>obtain⟨v,g,_⟩:=g;exact⟨a,some v,rfl,g,k.fz s (.bl _)⟩
theorem V3:Yg Z Cf Pj:=by
 intro F H σ δ own x y d1 d2 sv Q s r1 r2 e k
 refine bnd1 e fun o e1 e2=>?_
 cases e2
 obtain⟨a,rfl,_,g⟩:=R0 s.le e1 r2 r1
 cases o with
 |none=>exact⟨a,none,rfl,g,k.fz s (.bl _)⟩
 |some d=>obtain⟨v,g,_⟩:=g;exact⟨a,some v,rfl,g,k.fz s (.bl _)⟩
@[simp] noncomputable def D.isD:D->Bool
 | .dK _ _=>true| .dT _ _=>true|_=>false
@[simp] noncomputable def Bq(d1 d2:D):Option SV:=if d1.isD=true then Zau d1 d2 else ixD d1 d2
@[simp] noncomputable def inX(d1 d2:D):Option SV:=if d2.isD=true then Znm d1 d2 else inD d1 d2
@[simp] noncomputable def Lr(d1 d2:D):Option SV:=if d2.isD=true then Pj d1 d2 else Lo d1 d2
theorem V4{H:Hp}{σ:L2.St}{Q:VK}{fa fb:FE}{g g1 g2':D->D->Option SV}(hg:∀d1 d2 sv,g d1 d2=some sv->g1 d1 d2=some sv\/g2' d1 d2=some sv)(h:Zb Z (Zj g fa fb) σ H Q):Zb Z (Zj g1 fa fb) σ H Q\/Zb Z (Zj g2' fa fb) σ H Q:=by
 obtain⟨F,δ,own,rv,δ',s,e,k⟩:=h
 refine bnd2 e fun rvs δ1 e1 e2=>?_
 refine bnd1 e2 fun ds e3 e4=>?_
 refine bnd1 e4 fun sv e5 e6=>?_
 have:(g2 g1) ds=some sv\/(g2 g2') ds=some sv:=by
  unfold g2 at e5⊢
  split at e5
  ·exact hg _ _ _ e5
  ·cases e5
 rcases this with z|z
 ·exact .inl ⟨F,δ,own,rv,δ',s,Option.bind_eq_some_iff.mpr ⟨_,e1,Option.bind_eq_some_iff.mpr ⟨_,e3,Option.bind_eq_some_iff.mpr ⟨_,z,e6⟩⟩⟩,k⟩
 ·exact .inr ⟨F,δ,own,rv,δ',s,Option.bind_eq_some_iff.mpr ⟨_,e1,Option.bind_eq_some_iff.mpr ⟨_,e3,Option.bind_eq_some_iff.mpr ⟨_,z,e6⟩⟩⟩,k⟩
theorem Znn:Yg Z (fun x y H Q=>(∃i j,x= .str i/\y= .str j/\Q (.bl (!(Builtin.Str.occurrences j i 0 j.length 1).isEmpty)) H)\/Zas x y H Q) inX:=by
 intro F H σ δ own x y d1 d2 sv Q s r1 r2 e k
 unfold inX at e
 split at e
 ·exact .inr (Zjk F H σ δ own x y d1 d2 sv Q s r1 r2 e k)
 ·exact .inl (Zqj F H σ δ own x y d1 d2 sv Q s r1 r2 e k)
theorem Zav:Yg Z (fun x y H Q=>(∃i j,x= .str i/\y= .str j/\Q (.bl (!(!(Builtin.Str.occurrences j i 0 j.length 1).isEmpty))) H)\/Cf x y H Q) Lr:=by
 intro F H σ δ own x y d1 d2 sv Q s r1 r2 e k
 unfold Lr at e
 split at e
 ·exact .inr (V3 F H σ δ own x y d1 d2 sv Q s r1 r2 e k)
 ·exact .inl (Zee F H σ δ own x y d1 d2 sv Q s r1 r2 e k)
end
section
variable{X:Cx}{Z:Ent X.K}{a b c:Expr}{fa fb fc:FE}{pos:Pos}
theorem Yj(hu:X.A.units+1<cLine)(ha:PE X a (Zb Z fa))(hb:PE X b (Zb Z fb))(hs:B4 b:=by intro _ _;rfl):PE X (.Subscript a b pos) (Zb Z (Zj Bq fa fb)):=fun pins s σ H Q I h=>by
 rcases V4 (g1:=Zau) (g2':=ixD) (fun d1 d2 sv e=>by
  unfold Bq at e
  split at e
  ·exact .inl e
  ·exact .inr e) h with h|h
 ·exact Nw hu ha hb hs pins s σ H Q I (Ii Zjj h)
 ·exact Nu Zij ha hb hs pins s σ H Q I (Ii Zqb h)
end
end DL
namespace L2
open PySem PySem.Spec PyProof.Rows
variable{X:Cx}
noncomputable def Zaw:V->List V->Hp->VK->Prop:=fun x xs H Q=>∃a,x= .ref a/\((∃y o,xs=[y]/\Ua H a y o/\Q (o.getD .non) H)\/(∃y z o,xs=[y,z]/\Ua H a y o/\Q (o.getD z) H))
theorem Zej(hu:X.A.units+1<cLine):MtR X "dict.get" Zaw:=by
 intro pins s σ H x xs v us Q I rx rs h
 obtain⟨a,rfl,h⟩:=h
 cases rx
 rcases h with⟨y,o,rfl,g,q⟩|⟨y,z,o,rfl,g,q⟩
 ·obtain⟨u,rfl,ru⟩:=Bz rs
  exact Zim hu I g ru fun w' s' I' r'=>⟨_,H,I',r',q⟩
 ·obtain⟨u,w',rfl,r1,r2⟩:=Hn rs
  exact Zin hu I g r1 r2 fun w' s' I' r'=>⟨_,H,I',r',q⟩
end L2
namespace DL
open PySem PySem.Spec PyProof.Rows L2
variable{K:PySem.W.Frag}
section
variable{Z:Ent K}{H:Hp}{σ:L2.St}{Q:VK}{E:Ends}
@[simp] noncomputable def Zax:FE:=fun δ=>some (.tmp (.oK [] []),δ)
@[simp] noncomputable def Zay:FE:=fun δ=>some (.tmp (.oT [] []),δ)
theorem Zek(h:Zb Z Zax σ H Q):Ay σ H Q:=by
 obtain⟨F,δ,own,rv,δ',s,e,k⟩:=h
 cases e
 intro p hp
 have f:Ts Z F H σ δ own (.oK [] []) Q:=fun v H' F' ns a b c t=>k v H' F' own a b c ⟨ns,t⟩
 exact f.one s (.oK (kvs:=[]) rfl .nil) hp
theorem Zel(h:Zb Z Zay σ H Q):Di σ H Q:=by
 obtain⟨F,δ,own,rv,δ',s,e,k⟩:=h
 cases e
 intro p hp
 have f:Ts Z F H σ δ own (.oT [] []) Q:=fun v H' F' ns a b c t=>k v H' F' own a b c ⟨ns,t⟩
 exact f.one s (.oT (kvs:=[]) .nil rfl .nil) hp
@[simp] noncomputable def SV.isOD:Option (Option SV)->Bool
 |some (some (.oK _ _))=>true
 |some (some (.oT _ _))=>true
 |some (some (.oQ _ _ _))=>true
 |_=>false
@[simp] noncomputable def Zno(kd d:D):Option (Option SV)->Option SV
 |some (some (.oK ks vs))=>kd.key?.bind fun k=>if vs.length<PySem.sizeLine then some (.oK (Bp ks vs k d).1 (Bp ks vs k d).2)else none
 |some (some (.oT ks vs))=>match kd with
  | .tup xs=>(keys? xs).bind fun k=>if vs.length<PySem.sizeLine then some (.oT (Bp ks vs k d).1 (Bp ks vs k d).2)else none
  |_=>none
 |some (some (.oQ q ks vs))=>kd.key?.bind fun k=>if vs.length<PySem.sizeLine then some (.oQ q (Bp ks vs k d).1 (Bp ks vs k d).2)else none
 |_=>none
@[simp] noncomputable def Zem(i:Nat)(fk fv:FE):FS:=fun δ=>(fv δ).bind fun p=>(frz p.1 p.2).bind fun q=>if SV.isOD (q.2[i]?)=true then(fk q.2).bind fun r=>(N1 r.1 r.2).bind fun kd=>(Zno kd q.1 (r.2[i]?)).bind fun sv=>some (.nx (r.2.set i (some sv)))else none
theorem Zaz{F:Hp}{ks:List Key}{ds:List D}{v:V}{ns:Zg}(h:Shape K F (.oK ks ds) v ns):∃a kvs ep,v= .ref a/\ns=[(a,.dK kvs ep)]/\kvs.map (·.1)=ks/\Reps K F ds (kvs.map (·.2)):=by
 cases h with
 |oK e r=>exact⟨_,_,_,rfl,rfl,e,r⟩
theorem Za0{F:Hp}{q:Addr}{ks:List Key}{ds:List D}{v:V}{ns:Zg}(h:Shape K F (.oQ q ks ds) v ns):∃kvs ep,v= .ref q/\ns=[(q,.dK kvs ep)]/\kvs.map (·.1)=ks/\Reps K F ds (kvs.map (·.2)):=by
 cases h with
 |oQ e r=>exact⟨_,_,rfl,rfl,e,r⟩
theorem Za1{F:Hp}{ks:List (List Key)}{ds:List D}{v:V}{ns:Zg}(h:Shape K F (.oT ks ds) v ns):∃a kvs ep bs,v= .ref a/\ns=[(a,.dT kvs ep bs)]/\KB F kvs bs/\kvs.map (·.1)=ks/\Reps K F ds (kvs.map (·.2)):=by
 cases h with
 |oT kb e r=>exact⟨_,_,_,_,rfl,rfl,kb,e,r⟩
theorem KB.put{F:Hp}{kvs:List (List Key×V)}{bs:List Addr}{k:List Key}{b:Addr}{v:V}(h:KB F kvs bs)(hb:F b=some (.tup (k.map kV))):KB F (Qp kvs k v) (E3 kvs bs k b):=by
 unfold Qp E3
 split
 ·unfold KB at*
  clear hb
  rename_i hq
  clear hq
  induction h with
  |nil=>exact .nil
  | @cons p c ps cs h1 t ih=>
   rw[List.map_cons]
   refine .cons ?_ ih
   by_cases e:p.1=k
   ·rw[if_pos e];exact h1
   ·rw[if_neg e];exact h1
 ·exact Paired.snoc h hb
theorem Yc.tupF{F H:Hp}{xs:List D}{v:V}(h:Yc K F H (.tup xs) v):∃a vs,v= .ref a/\F a=some (.tup vs)/\Reps K F xs vs:=by
 obtain⟨sv,ns,e,n,sh,hp⟩:=h
 cases sh with
 |fz r=>cases e;cases r with|tup h r=>exact⟨_,_,rfl,h,r⟩
 |ol r=>cases e
 |oK e' r=>cases e
 |oT kb e' r=>cases e
 |oN e' r=>cases n
 |oR e' r=>cases n
 |oG hp' r=>cases n
 |oX kb' e' r=>cases n
 |oD r=>cases n
 |oM kb' e' r=>cases n
 |oL _ r=>cases n
 |oQ e' r=>cases e
theorem Zen{o:Option (Option SV)}(h:SV.isOD o=true):∃sv,o=some (some sv):=by
 unfold SV.isOD at h
 split at h
 ·exact⟨_,rfl⟩
 ·exact⟨_,rfl⟩
 ·exact⟨_,rfl⟩
 ·cases h
theorem Znp{i:Nat}{fk fv:FE}(h:Zq Z (Zem i fk fv) E σ H):Df (Jg i) (Zb Z fk) (Zb Z fv) E σ H:=by
 obtain⟨F,δ,own,fl,s,e,k⟩:=h
 refine bnd2 e fun rv δ1 e1 e=>?_
 refine bnd2 e fun d δ2 e2 e=>?_
 dsimp only at e
 split at e
 ·rename_i hod
  refine bnd2 e fun rk δ3 e3 e=>?_
  refine bnd1 e fun kd e4 e=>?_
  refine bnd1 e fun sv e5 e=>?_
  cases e
  refine⟨F,δ,own,rv,δ1,s,e1,fun v H1 F1 own1 sH1 sF1 s1 r1=>?_⟩
  obtain⟨F2,sF2,s2,r2⟩:=s1.settleR r1
  obtain⟨F3,own3,sF3,s3,r3⟩:=s2.frzR r2 e2
  obtain⟨sv0,hsv0⟩:=Zen hod
  obtain⟨x,hx,_⟩:=s3.at' i sv0 hsv0
  refine⟨x,hx,F3,δ2,own3,rk,δ3,s3,e3,fun y H4 F4 own4 sH4 sF4 s4 r4=>?_⟩
  obtain⟨F5,sF5,s5,r5⟩:=s4.settleR r4
  have rk':=s5.rd r5 e4
  have rd:Rep K F5 d v:=r3.mono (sF4.trans sF5)
  have sF:Zh F F5:=sF1.trans (sF2.trans (sF3.trans (sF4.trans sF5)))
  dsimp only at e5
  generalize ho:δ3[i]? =o at e5
  unfold Zno at e5
  split at e5
  ·rename_i ks vs
   refine bnd1 e5 fun kk f1 f2=>?_
   split at f2
   ·rename_i hz
    cases f2
    obtain⟨x',hx',sh⟩:=s5.at' i _ ho
    rw[hx]at hx';cases hx'
    obtain⟨a,kvs,ep0,ea,en,rfl,rr⟩:=Zaz sh
    subst ea
    have mb:(a,HO.dK kvs ep0)∈own4 i:=by rw[en];exact List.mem_cons_self
    have hH:=(s5.ok i _ mb).2.2
    have z:=Lp (k:=kk) rd kvs vs rr
    refine⟨a,rfl,?_⟩
    rw[A8 f1 rk']
    refine Mx.k ⟨_,hH⟩ (by rw[<-rr.length_map];exact hz) fun ep=>?_
    exact k σ _ F5 _ sF (s5.change (sv':=.oK (Bp (kvs.map (·.1)) vs kk d).1 (Bp (kvs.map (·.1)) vs kk d).2) (o':=.dK (Qp kvs kk v) ep) (ns':=[(a,.dK (Qp kvs kk v) ep)]) ho hx mb (.oK z.1 z.2) (fun p hp=>.inl (List.mem_singleton.mp hp)) Tq)
   ·cases f2
  ·rename_i ks vs
   split at e5
   ·rename_i xs
    refine bnd1 e5 fun kk f1 f2=>?_
    split at f2
    ·rename_i hz
     cases f2
     obtain⟨x',hx',sh⟩:=s5.at' i _ ho
     rw[hx]at hx';cases hx'
     obtain⟨a,kvs,ep0,bs0,ea,en,kb,rfl,rr⟩:=Za1 sh
     subst ea
     have mb:(a,HO.dT kvs ep0 bs0)∈own4 i:=by rw[en];exact List.mem_cons_self
     have hH:=(s5.ok i _ mb).2.2
     have z:=Lp (k:=kk) rd kvs vs rr
     obtain⟨b,us,rfl,hbF,rb⟩:=rk'.tupF
     rw[A9 f1 rb]at hbF
     refine⟨a,rfl,Mx.t ⟨_,_,hH⟩ (s5.le _ _ hbF) (by rw[<-rr.length_map];exact hz) fun ep ep1 bs1 hq=>?_⟩
     rw[hH]at hq
     cases hq
     exact k σ _ F5 _ sF (s5.change (sv':=.oT (Bp (kvs.map (·.1)) vs kk d).1 (Bp (kvs.map (·.1)) vs kk d).2) (o':=.dT (Qp kvs kk v) ep (E3 kvs bs0 kk b)) (ns':=[(a,.dT (Qp kvs kk v) ep (E3 kvs bs0 kk b))]) ho hx mb (.oT (kb.put hbF) z.1 z.2) (fun p hp=>.inl (List.mem_singleton.mp hp)) Tq)
    ·cases f2
   ·cases e5
  ·rename_i q ks vs
   refine bnd1 e5 fun kk f1 f2=>?_
   split at f2
   ·rename_i hz
    cases f2
    obtain⟨x',hx',sh⟩:=s5.at' i _ ho
    rw[hx]at hx';cases hx'
    obtain⟨kvs,ep0,ea,en,rfl,rr⟩:=Za0 sh
    subst ea
    have mb:(q,HO.dK kvs ep0)∈own4 i:=by rw[en];exact List.mem_cons_self
    have hH:=(s5.ok i _ mb).2.2
    have z:=Lp (k:=kk) rd kvs vs rr
    refine⟨q,rfl,?_⟩
    rw[A8 f1 rk']
    refine Mx.k ⟨_,hH⟩ (by rw[<-rr.length_map];exact hz) fun ep=>?_
    exact k σ _ F5 _ sF (s5.change (sv':=.oQ q (Bp (kvs.map (·.1)) vs kk d).1 (Bp (kvs.map (·.1)) vs kk d).2) (o':=.dK (Qp kvs kk v) ep) (ns':=[(q,.dK (Qp kvs kk v) ep)]) ho hx mb (.oQ z.1 z.2) (fun p hp=>.inl (List.mem_singleton.mp hp)) Tq)
   ·cases f2
  ·cases e5
 ·cases e
@[simp] noncomputable def V5(T:String)(g:D->List D->Option SV)(fo:FE)(fd:FD):FE:=fun δ=>(fo δ).bind fun p=>(N1 p.1 p.2).bind fun d0=>if Zd1 T d0=true then(fd p.2).bind fun q=>(N1 p.1 q.2).bind fun d1=>(g d1 q.1).bind fun sv=>some (.tmp sv,q.2)else none
noncomputable def Zg7(Z:Ent K)(r:V->List V->Hp->VK->Prop)(g:D->List D->Option SV):Prop:=
 ∀(F H:Hp) (σ:L2.St) (δ:Ya) (own:Nat->Zg) (x:V) (d:D) (vs:List V) (ds:List D) (sv:SV) (Q:VK),SR Z F H σ δ own->Yc K F H d x->Reps K F ds vs->g d ds=some sv->Ts Z F H σ δ own sv Q->r x vs H Q
theorem Znq{T:String}{r:V->List V->Hp->VK->Prop}{g:D->List D->Option SV}{fo:FE}{fd:FD}(hg:Zg7 Z r g)(h:Zb Z (V5 T g fo fd) σ H Q):tBM K T r (Zb Z fo) (Wd Z fd) σ H Q:=by
 obtain⟨F,δ,own,rv,δ',s,e,k⟩:=h
 refine bnd2 e fun rv1 δ1 e1 e=>?_
 refine bnd1 e fun d0 e2 e=>?_
 dsimp only at e
 split at e
 ·rename_i ht
  refine bnd2 e fun ds δ2 e3 e=>?_
  refine bnd1 e fun d1 e4 e=>?_
  refine bnd1 e fun sv e5 e=>?_
  cases e
  refine⟨F,δ,own,rv1,δ1,s,e1,fun v H1 F1 own1 sH1 sF1 s1 r1=>?_⟩
  obtain⟨F1',sF1',s1',r1'⟩:=s1.settleR r1
  refine⟨Zgw s1'.le (s1'.rd r1' e2) ht,F1',δ1,own1,ds,δ2,s1',e3,fun vs H2 F2 own2 sH2 sF2 s2 r2=>?_⟩
  exact hg F2 H2 σ δ2 own2 v d1 vs ds sv Q s2 (s2.rd (r1'.mono sF2) e4) r2 e5 fun q H4 F4 ns sH4 sF4 s4 t4=>
   k q H4 F4 own2 (sH1.trans (sH2.trans sH4)) (sF1.trans (sF1'.trans (sF2.trans sF4))) s4 ⟨ns,t4⟩
 ·cases e
@[simp] noncomputable def Br:D->List D->Option SV
 |d,[y]=>(Lq d y).bind fun o=>some (.fz (o.getD .non))
 |d,[y,z]=>(Lq d y).bind fun o=>some (.fz (o.getD z))
 |_,_=>none
theorem Zeo:Zg7 Z Zaw Br:=by
 intro F H σ δ own x d vs ds sv Q s r1 r2 e k
 unfold Br at e
 split at e
 ·refine bnd1 e fun o e1 e2=>?_
  cases e2
  cases r2 with
  |cons h t=>
   cases t
   obtain⟨a,rfl,_,g⟩:=R0 s.le e1 r1 (Yc.of h)
   cases o with
   |none=>exact⟨a,rfl,.inl ⟨_,none,rfl,g,k.fz s .non⟩⟩
   |some d=>obtain⟨v,g,rv⟩:=g;exact⟨a,rfl,.inl ⟨_,some v,rfl,g,k.fz s rv⟩⟩
 ·refine bnd1 e fun o e1 e2=>?_
  cases e2
  cases r2 with
  |cons h t=>
   cases t with
   |cons h2 t=>
    cases t
    obtain⟨a,rfl,_,g⟩:=R0 s.le e1 r1 (Yc.of h)
    cases o with
    |none=>exact⟨a,rfl,.inr ⟨_,_,none,rfl,g,k.fz s h2⟩⟩
    |some d=>obtain⟨v,g,rv⟩:=g;exact⟨a,rfl,.inr ⟨_,_,some v,rfl,g,k.fz s rv⟩⟩
 ·cases e
end
section
variable{X:Cx}{Z:Ent X.K}{a b c:Expr}{fa fb fc:FE}{pos:Pos}
theorem Zep:PE X (.Dict [] [] pos) (Zb Z Zax):=Rq.imp fun _ _ _ h=>Zek h
theorem Zeq:PE X (.Dict [] [] pos) (Zb Z Zay):=Dj.imp fun _ _ _ h=>Zel h
theorem Ea{apos cpos:Pos}{es:List Expr}{fd:FD}(hu:X.A.units+1<cLine)(ha:PE X a (Zb Z fa))(hb:PA X (b::es) (Wd Z fd))(hbase:attributeBase a "get" X.env (eval a X.env)=eval a X.env:=by rfl)
  (hfew:((backTo cpos (starEach (b::es) X.env)).all (fun x=>!x.1)&&(backToKw cpos (keywordEach [] X.env)).all (fun x=>x.1.isSome)&&decide ((b::es).length+([]:List Keyword).length+(if([]:List Keyword).isEmpty then 0 else 1)<30))=true:=by rfl)
  (hline:(apos.endLine==cpos.line)=true:=by rfl) (hs:starEach (b::es) X.env=(false,eval b X.env)::starEach es X.env:=by rfl) (hpl:(backTo cpos (starEach es X.env)).any (·.1)=false:=by rfl):
  PE X (.Call (.Attribute a "get" apos) (b::es) [] cpos) (Zb Z (V5 "dict" Br fa fd)):=
 (E6 PySem.F.plainAttrs_dict PySem.F.slot_dict_get PySem.F.type_dict_get (Zej hu) ha hb hbase hfew hline hs hpl).imp fun _ _ _ h=>Znq Zeo h
theorem Znr(i:Nat){x:Str}{px p1:Pos}(hu:X.A.units+1<cLine)(hb:PE X b (Zb Z fb))(hv':PE X a (Zb Z fa))(hN:X.N[i]? =some x:=by rfl)(hv:Km X.env.scope x:=by first|exact Or.inl rfl|exact Or.inr (Or.inl rfl)|exact Or.inr (Or.inr rfl))(hd:(x==("__debug__":Str))=false:=by decide)
  (hcd:(x==("__classdict__":Str))=false:=by decide) (hs:swapsWith a (some (.Subscript (.Name x px) b p1)) pos.line X.env=pure false:=by rfl):
  PS X (.Assign [.Subscript (.Name x px) b p1] a pos) (Zq Z (Zem i fb fa)):=(Nx hu (Q4 (i:=i) hN hv hd hcd) hb hv' hs).imp fun _ _ _ h=>Znp h
end
end DL
namespace L2
open PySem PySem.Spec PyProof.Rows
section
variable{prog:Program}{w:World}{A:Around}{E:Value->Shared->Prop}{s:Shared}
theorem Ls{Q:Int->Shared->Prop}(h:Q 0xFCA86420 {s with toks:=s.toks+1}):wpAny (model prog w) A (pyHash .none) Q E s:=by
 have hT:s.TypeIs .none "NoneType":=rfl
 refine PySem.W.pyHash_slot (v:=.none) (Q:=Q) hT F.slot_NoneType_hash F.entry_NoneType_hash (F.args_NoneType_hash_1 _) rfl (.inl rfl) ?_
 show wpAny (model prog w) A.in1 (mkInt 0xFCA86420 >>=fun v=>ret v) _ E s
 refine wpAny_bind (wpAny_mkInt ?_)
 exact wpAny_pure ⟨_,_,rfl,h⟩
end
noncomputable def Za2:Option Key->Value->Bool
 |none,.none=>true
 |none,_=>false
 |some k,v=>Bb k v
theorem Yr{k:Option Key}{v:Value}(h:Za2 k v=true):(k=none/\v= .none)\/∃j,k=some j/\Bb j v=true:=by
 cases k with
 |none=>cases v<;> first|exact .inl ⟨rfl,rfl⟩|cases h
 |some j=>exact .inr ⟨j,rfl,h⟩
theorem R3{j:Key}(h:Bb j .none=true):False:=by
 rcases Z2 h with⟨i,t,_,e⟩|⟨x,t,_,e⟩<;> cases e
noncomputable def Eb(prog:Program)(w:World):PySem.KeyKind prog w (Option Key)where
 is:=Za2
 hash:=fun|none=>0xFCA86420|some k=>(Zo prog w).hash k
 inj:=fun v a b ha hb=>by
  rcases Yr ha with⟨rfl,rfl⟩|⟨i,rfl,hi⟩
  ·rcases Yr hb with⟨rfl,_⟩|⟨j,rfl,hj⟩
   ·rfl
   ·exact(R3 hj).elim
  ·rcases Yr hb with⟨rfl,rfl⟩|⟨j,rfl,hj⟩
   ·exact(R3 hi).elim
   ·rw[(Zo prog w).inj v i j hi hj]
 byValue:=fun k v h=>by
  rcases Yr h with⟨rfl,rfl⟩|⟨i,rfl,hi⟩
  ·rfl
  ·exact(Zo prog w).byValue i v hi
 pyHash:=fun{A E s k v Q} hv h=>by
  rcases Yr hv with⟨rfl,rfl⟩|⟨i,rfl,hi⟩
  ·exact Ls h
  ·exact(Zo prog w).pyHash hi h
 eqBool:=fun{A E s a b u v Q} hu hv h=>by
  rcases Yr hu with⟨rfl,rfl⟩|⟨i,rfl,hi⟩
  ·rcases Yr hv with⟨rfl,rfl⟩|⟨j,rfl,hj⟩
   ·exact SeqAt.EqAt.same _ _ _ _ _ (by simpa using h)
   ·rw[decide_eq_false (fun z=>nomatch z)]at h
    rcases Z2 hj with⟨i,t,rfl,rfl⟩|⟨x,t,rfl,rfl⟩
    ·exact SeqAt.EqAt.none_int i t _ _ _ _ h
    ·exact SeqAt.EqAt.none_str x t _ _ _ _ h
  ·rcases Yr hv with⟨rfl,rfl⟩|⟨j,rfl,hj⟩
   ·rw[decide_eq_false (fun z=>nomatch z)]at h
    rcases Z2 hi with⟨i,t,rfl,rfl⟩|⟨x,t,rfl,rfl⟩
    ·exact SeqAt.EqAt.int_none i t _ _ _ _ h
    ·exact SeqAt.EqAt.str_none x t _ _ _ _ h
   ·refine(Zo prog w).eqBool hi hj ?_
    have e:decide (some i=some j)=decide (i=j):=by simp
    rw[<-e];exact h
 «strs»:=fun k x t v h=>by
  rcases Yr h with⟨rfl,e⟩|⟨i,rfl,hi⟩
  ·cases e
  ·exact(Zo prog w).strs i x t v hi
variable{X:Cx}
theorem Pk{P:Program}{w:World}{h:Heap}{a:Addr}{vs:List (Key×Value)}(d:h.DictOf (Zo P w) a vs):h.MapOf (Eb P w) a (fun|none=>none|some k=>valueAt vs k):=by
 obtain⟨o,es,ep,ho,hc,hd,hk,hf⟩:=d.mapOf
 refine⟨o,es,ep,ho,hc,hd,fun e he=>?_,fun k=>?_⟩
 ·obtain⟨k,h1,h2⟩:=hk e he
  exact⟨some k,h1,h2⟩
 ·cases k with
  |some k=>exact hf k
  |none=>
   show(es.find? fun e=>Za2 none e.key).map (·.val)=none
   rw[Array.find?_eq_none.mpr fun e he z=>?_]
   ·rfl
   ·obtain⟨k,h1,_⟩:=hk e he
    rcases Yr z with⟨_,e2⟩|⟨j,e2,_⟩
    ·rw[e2]at h1;exact R3 h1
    ·cases e2
noncomputable def C6(neg:Bool):R2:=fun y x H Q=>∃a kvs,y= .non/\x= .ref a/\RdK H a kvs/\Q (.bl neg) H
theorem T3:Jk X (compareOp .In) (C6 false):=by
 intro pins s σ H y x v u Q I ry rx h
 obtain⟨a,kvs,rfl,rfl,e,q⟩:=h
 cases ry
 cases rx
 obtain⟨z,hd,vs,rel,dd⟩:=Bc I.hok e
 exact wpAny_in_of (knd:=Eb X.prog X.w) (k:=none) rfl hd (Pk dd) ⟨.bl false,H,I.tok _,rfl,q⟩
theorem Ec:Jk X (compareOp .NotIn) (C6 true):=by
 intro pins s σ H y x v u Q I ry rx h
 obtain⟨a,kvs,rfl,rfl,e,q⟩:=h
 cases ry
 cases rx
 obtain⟨z,hd,vs,rel,dd⟩:=Bc I.hok e
 exact wpAny_notIn_of (knd:=Eb X.prog X.w) (k:=none) rfl hd (Pk dd) ⟨.bl true,H,I.tok _,rfl,q⟩
end L2
namespace DL
open PySem PySem.Spec PyProof.Rows L2
variable{K:PySem.W.Frag}
@[simp] noncomputable def inY(d1 d2:D):Option SV:=match d1,d2 with
 | .non,.dK _ _=>some (.fz (.bl false))
 |_,_=>inX d1 d2
@[simp] noncomputable def Lu(d1 d2:D):Option SV:=match d1,d2 with
 | .non,.dK _ _=>some (.fz (.bl true))
 |_,_=>Lr d1 d2
section
variable{Z:Ent K}
theorem Zns:Yg Z (fun x y H Q=>((∃i j,x= .str i/\y= .str j/\Q (.bl (!(Builtin.Str.occurrences j i 0 j.length 1).isEmpty)) H)\/Zas x y H Q)\/C6 false x y H Q) inY:=by
 intro F H σ δ own x y d1 d2 sv Q s r1 r2 e k
 unfold inY at e
 split at e
 ·cases e
  obtain⟨a,kvs,rfl,ha,_,_⟩:=r2.dK s.le
  exact .inr ⟨a,kvs,r1.non,rfl,ha.rd,k.fz s (.bl _)⟩
 ·exact .inl (Znn F H σ δ own x y d1 d2 sv Q s r1 r2 e k)
theorem Za3:Yg Z (fun x y H Q=>((∃i j,x= .str i/\y= .str j/\Q (.bl (!(!(Builtin.Str.occurrences j i 0 j.length 1).isEmpty))) H)\/Cf x y H Q)\/C6 true x y H Q) Lu:=by
 intro F H σ δ own x y d1 d2 sv Q s r1 r2 e k
 unfold Lu at e
 split at e
 ·cases e
  obtain⟨a,kvs,rfl,ha,_,_⟩:=r2.dK s.le
  exact .inr ⟨a,kvs,r1.non,rfl,ha.rd,k.fz s (.bl _)⟩
 ·exact .inl (Zav F H σ δ own x y d1 d2 sv Q s r1 r2 e k)
end
end DL
namespace L2
open PySem PySem.Spec PyProof.Rows
variable{X:Cx}
noncomputable def Zg8:R2:=fun x y H Q=>∃a k,x= .str a/\y= .int k/\MulOk a k/\Q (.str (Txt.mul a k)) H
theorem Zer:Jk X (binaryOp .Mult) Zg8:=by
 intro pins s σ H x y v u Q I rx ry h
 obtain⟨a,k,rfl,rfl,hm,q⟩:=h
 obtain⟨t,rfl⟩:=rx
 obtain⟨t',rfl⟩:=ry
 exact SB.mul hm fun t' k=>⟨.str _,H,I.tok _,⟨_,rfl⟩,q⟩
end L2
namespace DL
open PySem PySem.Spec PyProof.Rows L2
variable{K:PySem.W.Frag}
@[simp] noncomputable def D.fv:D->V
 | .bl b=>.bl b
 | .int i=>.int i
 | .str x=>.str x
 |_=>.non
theorem Za4{F H:Hp}{d:D}{x:V}(r:Yc K F H d x)(h:d.isFlat=true):x=d.fv/\Wc x=true:=by
 cases d with
 |non=>rw[r.non];exact⟨rfl,rfl⟩
 |bl b=>rw[r.bl];exact⟨rfl,rfl⟩
 |int i=>rw[r.int];exact⟨rfl,rfl⟩
 |str y=>rw[r.str];exact⟨rfl,rfl⟩
 |_=>cases h
theorem Lv{F:Hp}:∀{ds:List D} {vs:List V},Reps K F ds vs->ds.all D.isFlat=true->vs=ds.map D.fv/\vs.all Wc=true
 |_,_,.nil,_=>⟨rfl,rfl⟩
 |_,_,.cons h t,e=>by
  rw[List.all_cons,Bool.and_eq_true]at e
  obtain⟨a1,a2⟩:=Za4 (H:=F) (Yc.of h) e.1
  obtain⟨b1,b2⟩:=Lv t e.2
  refine⟨by rw[List.map_cons,<-a1,<-b1],by rw[List.all_cons,a2,b2];rfl⟩
noncomputable def Zes(y x:D):Bool:=Kz y.fv x.fv
@[simp] theorem Znt(a b:Str):Zes (.str a) (.str b)=decide (a=b):=by
 show(a==b)=decide (a=b)
 by_cases h:a=b
 ·subst h;simp
 ·rw[decide_eq_false h];exact beq_eq_false_iff_ne.mpr h
@[simp] theorem Znu:Zes .non .non=true:=rfl
@[simp] theorem Zpd(a:Str):Zes (.str a) .non=false:=rfl
noncomputable def Lw(x:D)(xs:List D):Bool:=xs.any fun y=>Zes y x
theorem Pl{d:D}{ds:List D}:inV d.fv (ds.map D.fv)=Lw d ds:=by
 unfold inV Lw
 rw[List.any_map];rfl
noncomputable def D.seq?:D->Option (List D)
 | .lst xs=>some xs
 | .tup xs=>some xs
 |_=>none
@[simp] theorem Zpe(xs:List D):D.seq? (.lst xs)=some xs:=rfl
@[simp] theorem Zpf(xs:List D):D.seq? (.tup xs)=some xs:=rfl
@[simp] theorem Zpg(x:Str):D.seq? (.str x)=none:=rfl
@[simp] theorem Zqm(ks:List Key)(vs:List D):D.seq? (.dK ks vs)=none:=rfl
@[simp] theorem Zqn(ks:List (List Key))(vs:List D):D.seq? (.dT ks vs)=none:=rfl
@[simp] noncomputable def inZ(d1 d2:D):Option SV:=match d2.seq? with
 |some xs=>if d1.isFlat=true/\xs.all D.isFlat=true then some (.fz (.bl (Lw d1 xs)))else none
 |none=>inY d1 d2
@[simp] noncomputable def Bs(d1 d2:D):Option SV:=match d2.seq? with
 |some xs=>if d1.isFlat=true/\xs.all D.isFlat=true then some (.fz (.bl (!Lw d1 xs)))else none
 |none=>Lu d1 d2
section
variable{Z:Ent K}{H:Hp}{σ:L2.St}{Q:VK}{E:Ends}
theorem Za5{F:Hp}{d:D}{x:V}{xs:List D}(le:Zh F H)(r:Yc K F H d x)(h:d.seq? =some xs):∃a vs,x= .ref a/\(Of K H a vs\/Mu K H a vs)/\Reps K F xs vs:=by
 cases d with
 |lst ys=>cases h;obtain⟨a,vs,e,q,rr⟩:=r.lst le;exact⟨a,vs,e,.inl q,rr⟩
 |tup ys=>cases h;obtain⟨a,vs,e,q,rr⟩:=r.tup le;exact⟨a,vs,e,.inr q,rr⟩
 |_=>cases h
theorem Zg9:Yg Z (fun x y H Q=>(((∃i j,x= .str i/\y= .str j/\Q (.bl (!(Builtin.Str.occurrences j i 0 j.length 1).isEmpty)) H)\/Zas x y H Q)\/C6 false x y H Q)\/rIn K false x y H Q) inZ:=by
 intro F H σ δ own x y d1 d2 sv Q s r1 r2 e k
 unfold inZ at e
 split at e
 ·rename_i xs hx
  split at e
  ·rename_i hf
   cases e
   obtain⟨a,vs,rfl,hq,rr⟩:=Za5 s.le r2 hx
   obtain⟨e1,f1⟩:=Za4 r1 hf.1
   obtain⟨e2,f2⟩:=Lv rr hf.2
   refine .inr ⟨a,vs,rfl,hq,f1,f2,?_⟩
   rw[e1,e2,Pl]
   exact k.fz s (.bl _)
  ·cases e
 ·exact .inl (Zns F H σ δ own x y d1 d2 sv Q s r1 r2 e k)
theorem Za6:Yg Z (fun x y H Q=>(((∃i j,x= .str i/\y= .str j/\Q (.bl (!(!(Builtin.Str.occurrences j i 0 j.length 1).isEmpty))) H)\/Cf x y H Q)\/C6 true x y H Q)\/rIn K true x y H Q) Bs:=by
 intro F H σ δ own x y d1 d2 sv Q s r1 r2 e k
 unfold Bs at e
 split at e
 ·rename_i xs hx
  split at e
  ·rename_i hf
   cases e
   obtain⟨a,vs,rfl,hq,rr⟩:=Za5 s.le r2 hx
   obtain⟨e1,f1⟩:=Za4 r1 hf.1
   obtain⟨e2,f2⟩:=Lv rr hf.2
   refine .inr ⟨a,vs,rfl,hq,f1,f2,?_⟩
   rw[e1,e2,Pl]
   exact k.fz s (.bl _)
  ·cases e
 ·exact .inl (Za3 F H σ δ own x y d1 d2 sv Q s r1 r2 e k)
open Classical in
noncomputable def Lx(a:Str)(k:Int):Option SV:=if MulOk a k then some (.fz (.str (Txt.mul a k)))else none
theorem Zeu{a:Str}{k:Int}(h:MulOk a k):Lx a k=some (.fz (.str (Txt.mul a k))):=by unfold Lx;rw[if_pos h]
theorem Zev{a:Str}{k:Int}{sv:SV}(h:Lx a k=some sv):MulOk a k/\sv= .fz (.str (Txt.mul a k)):=by
 unfold Lx at h
 split at h
 ·rename_i hm;cases h;exact⟨hm,rfl⟩
 ·cases h
noncomputable def Pm(i j:Int):Prop:=D9 i j=true
open Classical in
noncomputable def Ed(i j:Int):Option SV:=if Pm i j then some (.fz (.int (i*j)))else none
theorem Zew{i j:Int}{sv:SV}(h:Ed i j=some sv):Zmq (.int i) (.int j)=some sv:=by
 unfold Ed at h
 split at h
 ·rename_i hc
  cases h
  unfold Pm at hc
  simp[hc]
 ·cases h
theorem Za7{i j:Int}(h:-(2^64)<j/\j<2^64):Ed i j=some (.fz (.int (i*j))):=by
 unfold Ed
 rw[if_pos]
 unfold Pm D9
 rw[decide_eq_true h.1,decide_eq_true h.2];simp
theorem Zjl{i j:Int}(h:-(2^64)<i/\i<2^64):Ed i j=some (.fz (.int (i*j))):=by
 unfold Ed
 rw[if_pos]
 unfold Pm D9
 rw[decide_eq_true h.1,decide_eq_true h.2];simp
noncomputable def Ee:D->D->Option SV
 | .str a,.int k=>Lx a k
 | .int i,.int j=>Ed i j
 |_,_=>none
@[simp] theorem Zph(a:Str)(k:Int):Ee (.str a) (.int k)=Lx a k:=rfl
@[simp] theorem Zpi(i j:Int):Ee (.int i) (.int j)=Ed i j:=rfl
theorem Zjm:Yg Z (fun x y H Q=>rI Hi (fun i j=>V.int (i*j)) x y H Q\/Zg8 x y H Q) Ee:=by
 intro F H σ δ own x y d1 d2 sv Q s r1 r2 e k
 unfold Ee at e
 split at e
 ·obtain⟨hm,rfl⟩:=Zev e
  exact .inr ⟨_,_,r1.str,r2.int,hm,k.fz s (.str _)⟩
 ·exact .inl (Zmv F H σ δ own x y _ _ sv Q s r1 r2 (Zew e) k)
 ·cases e
end
section
variable{X:Cx}{Z:Ent X.K}{a b c:Expr}{fa fb fc:FE}{pos:Pos}
theorem Znv(hu:X.A.units+1<cLine)(ha:PE X a (Zb Z fa))(hb:PE X b (Zb Z fb))(hm:behindInMarks .In b=false:=by rfl):PE X (.Compare a [.In] [b] pos) (Zb Z (Zj inZ fa fb)):=Zgy (((M6.or (Rz hu)).or T3).or Td) Zg9 ha hb hm
theorem Pn(hu:X.A.units+1<cLine)(ha:PE X a (Zb Z fa))(hb:PE X b (Zb Z fb))(hm:behindInMarks .In b=false:=by rfl):PT X (.Compare a [.In] [b] pos) (Z5 Z (Z6 (Zj inZ fa fb))):=Go (((M6.or (Rz hu)).or T3).or Td) Zg9 ha hb hm
theorem R4(hu:X.A.units+1<cLine)(ha:PE X a (Zb Z fa))(hb:PE X b (Zb Z fb))(hm:behindInMarks .NotIn b=false:=by rfl):PT X (.Compare a [.NotIn] [b] pos) (Z5 Z (Z6 (Zj Bs fa fb))):=Go (((Au.or (M0 hu)).or Ec).or As) Za6 ha hb hm
theorem Ef(ha:PE X a (Zb Z fa))(hb:PE X b (Zb Z fb)):PE X (.BinOp a .Mult b pos) (Zb Z (Zj Ee fa fb)):=Tv (Zh6.or Zer) Zjm ha hb
end
end DL
namespace DL
open PySem L2
variable{K:PySem.W.Frag}
inductive RX where
 |v (rv:RV) (δ:Ya)|x (e:Exn) (δ:Ya)
inductive RL(α:Type)where
 |v (xs:List α) (δ:Ya)|x (e:Exn) (δ:Ya)
noncomputable abbrev FX:=Ya->Option RX
noncomputable abbrev FAX:=Ya->Option (RL RV)
noncomputable def Kk(Z:Ent K)(F:Hp)(σ:St)(e:Exn)(δ:Ya):Prop:=∀H' F' own' cls od,Zh F F'->SR Z F' H' σ δ own'->A4 K F' e cls od->Z.x cls od σ H'
theorem Kk.mono{Z:Ent K}{F F':Hp}{σ:St}{e:Exn}{δ:Ya}(s:Zh F F')(h:Kk Z F σ e δ):Kk Z F' σ e δ:=fun H2 F2 own cls od a=>h H2 F2 own cls od (s.trans a)
noncomputable def Qc(Z:Ent K)(f:FX):TE:=fun σ H Q=>∃F δ own r,SR Z F H σ δ own/\f δ=some r/\match r with
 | .v rv δ'=>∀v H' F' own',Zh H H'->Zh F F'->SR Z F' H' σ δ' own'->Tp Z F' H' σ own' rv v->Q v H'
 | .x e δ'=>Kk Z F σ e δ'
noncomputable def Uw(Z:Ent K)(f:FAX):TA:=fun σ H Q=>∃F δ own r,SR Z F H σ δ own/\f δ=some r/\match r with
 | .v rvs δ'=>∀vs H' F' own',Zh H H'->Zh F F'->SR Z F' H' σ δ' own'->RVSs K F' σ rvs vs->Q vs H'
 | .x e δ'=>Kk Z F σ e δ'
@[simp] noncomputable def FX.val(f:FX):FE:=fun δ=>match f δ with
 |some (.v rv δ')=>some (rv,δ')
 |_=>none
section
variable{Z:Ent K}{H:Hp}{σ:St}{Q:VK}{E:Ends}
theorem Za8{f:FX}(h:Zb Z f.val σ H Q):Qc Z f σ H Q:=by
 obtain⟨F,δ,own,rv,δ',s,e,k⟩:=h
 unfold FX.val at e
 split at e
 ·rename_i rv' δ2 hf
  cases e
  exact⟨F,δ,own,_,s,hf,k⟩
 ·cases e
theorem Za9{f:FX}{F:Hp}{δ δ':Ya}{own:Nat->Zg}{x:Exn}(s:SR Z F H σ δ own)(hf:f δ=some (.x x δ'))(k:Kk Z F σ x δ'):Qc Z f σ H Q:=⟨F,δ,own,_,s,hf,k⟩
@[simp] noncomputable def Ug(fe:FE):FX:=fun δ=>(fe δ).bind fun p=>some (.v p.1 p.2)
theorem Zex{fe:FE}(h:Qc Z (Ug fe) σ H Q):Zb Z fe σ H Q:=by
 obtain⟨F,δ,own,r,s,e,k⟩:=h
 refine bnd2 e fun rv δ' e1 e2=>?_
 cases e2
 exact⟨F,δ,own,rv,δ',s,e1,k⟩
@[simp] noncomputable def Eg:FAX:=fun δ=>some (.v [] δ)
@[simp] noncomputable def Cg(fx:FX)(fa:FAX):FAX:=fun δ=>(fx δ).bind fun
 | .v rv δ1=>(fa δ1).bind fun
  | .v rvs δ2=>some (.v (rv::rvs) δ2)
  | .x e δ2=>some (.x e δ2)
 | .x e δ1=>some (.x e δ1)
theorem V6{R:List V->Hp->Prop}(h:Uw Z Eg σ H R):Mv σ H R:=by
 obtain⟨F,δ,own,r,s,e,k⟩:=h
 cases e
 exact k [] H F own (Zh.refl H) (Zh.refl F) s .nil
theorem Ly{fx:FX}{fa:FAX}{R:List V->Hp->Prop}(h:Uw Z (Cg fx fa) σ H R):Q5 (Qc Z fx) (Uw Z fa) σ H R:=by
 obtain⟨F,δ,own,r,s,e,k⟩:=h
 refine bnd1 e fun r1 e1 e2=>?_
 cases r1 with
 |x x1 δ1=>cases e2;exact⟨F,δ,own,_,s,e1,k⟩
 |v rv δ1=>
  refine bnd1 e2 fun r2 e3 e4=>?_
  refine⟨F,δ,own,_,s,e1,fun v H1 F1 own1 sH sF s1 r1=>?_⟩
  obtain⟨F2,sF2,s2,rr⟩:=s1.settleR r1
  cases r2 with
  |x x2 δ2=>cases e4;exact⟨F2,δ1,own1,_,s2,e3,Kk.mono (sF.trans sF2) k⟩
  |v rvs δ2=>
   cases e4
   exact⟨F2,δ1,own1,_,s2,e3,fun vs H3 F3 own3 sH3 sF3 s3 r3=>k _ H3 F3 own3 (sH.trans sH3) (sF.trans (sF2.trans sF3)) s3 (.cons (rr.mono sF3) r3)⟩
end
inductive XO where
 |v (sv:SV)|x (e:Exn)
noncomputable def spX(K:PySem.W.Frag)(n:Nat)(g:List D->Option XO):Sp:=fun vs H Q E=>∃F ds o,Zh F H/\Reps K F ds vs/\ds.length=n/\g ds=some o/\match o with
 | .v sv=>∀v H' F' ns,Zh H H'->Zh F F'->Zh F' H'->(∀(b:Addr) (o:HO),F' b=some o->F b=some o\/H b=none)->Shape K F' sv v ns->(Yi ns).Nodup->(∀p∈ns,F' p.1=none/\H p.1=none/\H' p.1=some p.2)->Q v H'
 | .x e=>∀cls od H' F',Zh H H'->Zh F F'->Zh F' H'->(∀(b:Addr) (o:HO),F' b=some o->F b=some o\/H b=none)->A4 K F' e cls od->E cls od H'
theorem Zey{n:Nat}{g:List D->Option XO}{vs:List V}{H:Hp}{Q:VK}{E:XK}(h:spX K n g vs H Q E):vs.length=n:=by
 obtain⟨F,ds,o,le,r,hn,e,k⟩:=h
 rw[<-r.length];exact hn
@[simp] noncomputable def Zez(f:FS)(n:Nat)(ds:List D):Option XO:=match f (Cz n ds)with
 |some (.rt sv)=>some (.v sv)
 |some (.nx _)=>some (.v (.fz .non))
 |some (.ex e _)=>some (.x e)
 |_=>none
noncomputable abbrev entX(H F:Hp)(E:XK):Ent K:=⟨H,F,fun cls od _ H'=>E cls od H'⟩
theorem SR.ent{Z Y:Ent K}{F H:Hp}{σ:St}{δ:Ya}{own:Nat->Zg}(s:SR Z F H σ δ own)(h1:Z.h=Y.h:=by rfl)(h2:Z.f=Y.f:=by rfl):SR Y F H σ δ own:=
 ⟨s.le,h1▸h2▸s.fro,h1▸s.old,s.len,s.at',s.nod,fun i p hp=>h1▸s.ok i p hp,s.sep⟩
theorem V7{N:List Str}{n:Nat}{f:FS}{vs:List V}{H:Hp}{Q:VK}{E:XK}(h:spX K n (Zez f N.length) vs H Q E):∃F,Zq (entX H F E:Ent K) f {nx:=fun _ H'=>Q .non H',rt:=Q} (L2.start N vs) H:=by
 obtain⟨F,ds,o,le,r,hn,e,k⟩:=h
 have s0:SR (entX H F E:Ent K) F H (L2.start N vs) (Cz N.length ds) fun _=>[]:=(Rw (N:=N) le r).ent
 unfold Zez at e
 split at e
 ·rename_i sw hf
  cases e
  exact⟨F,F,_,_,.rt sw,s0,hf,fun v H' F' ns a b c d e' nd ok=>k v H' F' ns d a b c e' nd ok⟩
 ·rename_i δ hf
  cases e
  exact⟨F,F,_,_,.nx δ,s0,hf,fun σ' H' F' own' a s'=>k .non H' F' [] s'.old a s'.le s'.fro (.fz .non) List.nodup_nil fun _ h=>(nomatch h)⟩
 ·rename_i x δ hf
  cases e
  exact⟨F,F,_,_,.ex x δ,s0,hf,fun σ' H' F' own' cls od a s' r'=>k cls od H' F' s'.old a s'.le s'.fro r'⟩
 ·cases e
section
variable{Z:Ent K}{H:Hp}{σ:St}{Q:VK}{E:Ends}
theorem SR.behind{F2 H1 F3 H3:Hp}{δ2:Ya}{own2:Nat->Zg}(s2:SR Z F2 H1 σ δ2 own2)(sH3:Zh H1 H3)(sF3:Zh F2 F3)(le3:Zh F3 H3)(fro3:∀(b:Addr) (o:HO),F3 b=some o->F2 b=some o\/H1 b=none):SR Z F3 H3 σ δ2 own2:=by
 refine⟨le3,fun b o e=>?_,s2.old.trans sH3,s2.len,fun i sw ei=>?_,s2.nod,fun i p hp=>?_,s2.sep⟩
 ·rcases fro3 b o e with z|z
  ·exact s2.fro b o z
  ·exact .inr (s2.old.free z)
 ·obtain⟨w,h1,h2⟩:=s2.at' i sw ei
  exact⟨w,h1,h2.mono sF3⟩
 ·obtain⟨a,b,c⟩:=s2.ok i p hp
  refine⟨?_,b,sH3 _ _ c⟩
  cases z:F3 p.1 with
  |none=>rfl
  |some u=>
   rcases fro3 _ u z with y|y
   ·rw[a]at y;cases y
   ·rw[c]at y;cases y
@[simp] noncomputable def Po(n:Nat)(g:List D->Option XO)(fa:FAX):FX:=fun δ=>(fa δ).bind fun
 | .x e δ1=>some (.x e δ1)
 | .v rvs δ1=>(DL.frzAll rvs δ1).bind fun q=>if q.1.length=n then(g q.1).bind (fun
  | .v sv=>some (.v (.tmp sv) (if sv.scal then δ1 else q.2))
  | .x e=>some (.x e q.2))else none
theorem Ze0{n:Nat}{g:List D->Option XO}{fa:FAX}(h:Qc Z (Po n g fa) σ H Q):Bk (spX K n g) Z.x (Uw Z fa) σ H Q:=by
 obtain⟨F,δ,own,rx,s,e,k⟩:=h
 refine bnd1 e fun r1 e1 e2=>?_
 cases r1 with
 |x x1 δ1=>cases e2;exact⟨F,δ,own,_,s,e1,k⟩
 |v rvs δ1=>
  refine bnd2 e2 fun ds δ2 e3 e4=>?_
  refine⟨F,δ,own,_,s,e1,fun vs H1 F1 own1 sH sF s1 r1=>?_⟩
  obtain⟨F2,own2,sF2,s2,r2⟩:=s1.frzAll (own:=own) (F:=F) (δ:=δ) r1 e3
  by_cases hn:ds.length=n
  ·rw[if_pos hn]at e4
   refine bnd1 e4 fun o e5 e6=>?_
   refine⟨F2,ds,o,s2.le,r2,hn,e5,?_⟩
   cases o with
   |x x2=>
    cases e6
    exact fun cls od H3 F3 sH3 sF3 le3 fro3 rr=>k H3 F3 own2 cls od (sF.trans (sF2.trans sF3)) (s2.behind sH3 sF3 le3 fro3) rr
   |v sv=>
    cases e6
    intro v H3 F3 ns sH3 sF3 le3 fro3 sh nd ok
    by_cases hs:sv.scal=true
    ·rw[if_pos hs]at k
     obtain⟨_,sh'⟩:=Rv (F':=F1) hs sh
     exact k v H3 F1 own1 (sH.trans sH3) sF (s1.grow sH3) ⟨[],sh',List.nodup_nil,fun _ h=>(nomatch h),fun _ _ _ h=>(nomatch h)⟩
    ·rw[if_neg hs]at k
     exact k v H3 F3 own2 (sH.trans sH3) (sF.trans (sF2.trans sF3)) (s2.behind sH3 sF3 le3 fro3) ⟨ns,sh,nd,fun p hp=>⟨(ok p hp).1,(s2.old).free (ok p hp).2.1,(ok p hp).2.2⟩,fun i p q hp hq e=>by
      have z:=(s2.ok i q hq).2.2
      rw[<-e,(ok p hp).2.1]at z;cases z⟩
  ·rw[if_neg hn]at e4;cases e4
@[simp] noncomputable def Lz(i:Nat)(fx:FX):FS:=fun δ=>(fx δ).bind fun
 | .v rv δ1=>(stow i rv δ1).bind fun δ'=>some (.nx δ')
 | .x e δ1=>some (.ex e δ1)
theorem Kk.of{F:Hp}{x:Exn}{δ:Ya}(k:Bl Z F E (.ex x δ)):Kk Z F σ x δ:=fun H' F' own' cls od a b c=>k σ H' F' own' cls od a b c
theorem Zjo{i:Nat}{fx:FX}(h:Zq Z (Lz i fx) E σ H):S6 (Qc Z fx) (Rn i) E σ H:=by
 obtain⟨F,δ,own,fl,s,e,k⟩:=h
 refine bnd1 e fun r e1 e2=>?_
 cases r with
 |x x1 δ1=>cases e2;exact Za9 s e1 (.of k)
 |v rv δ1=>exact Za8 (Zgq (Z:=Z) (E:=E) (i:=i) (fe:=fx.val) ⟨F,δ,own,fl,s,by unfold Yp FX.val;rw[e1];exact e2,k⟩)
set_option genInjectivity false in
structure HX where
 x:Str
 np:Pos
 nm:Option (Str×Nat)
 b0:Stmt
 suite:List Stmt
 pos:Pos
 B:Addr
 yes:List Str
 no:List Str
 f:FS
set_option genInjectivity false in
structure HX.Sub(K:PySem.W.Frag)(h:HX):Prop where
 yes:∀c∈h.yes,∀C,Yf K c C->PySem.W.mroIn K C (.ref h.B)=some true
 no:∀c∈h.no,∀C,Yf K c C->PySem.W.mroIn K C (.ref h.B)=some false
noncomputable def HX.hd(Z:Ent K)(h:HX):Hd:=⟨h.x,h.np,h.nm,h.b0,h.suite,h.pos,h.B,Zq Z h.f⟩
set_option genInjectivity false in
structure HF where
 i:Option Nat
 yes:List Str
 no:List Str
 f:FS
@[simp] noncomputable def HX.hf(h:HX):HF:=⟨h.nm.map (·.2),h.yes,h.no,h.f⟩
@[simp] noncomputable def Pp(c:Str):List HF->Option HF
 | []=>none
 |h::r=>if c∈h.yes then some h else if c∈h.no then Pp c r else none
theorem T4(Z:Ent K){c:Str}{C:Addr}(cl:Yf K c C):∀(hs:List HX) {f:HF},(∀h∈hs,h.Sub K)->Pp c (hs.map HX.hf)=some f->∃h:HX,h.hf=f/\Tl K C (hs.map (HX.hd Z))=some (h.hd Z)
 | [],f,_,e=>nomatch e
 |h::r,f,ok,e=>by
  have e:(if c∈h.yes then some h.hf else if c∈h.no then Pp c (r.map HX.hf)else none)=some f:=e
  show∃g:HX,g.hf=f/\(match PySem.W.mroIn K C (.ref h.B)with|some true=>some (h.hd Z)|some false=>Tl K C (r.map (HX.hd Z))|none=>none)=some (g.hd Z)
  have kh:=ok h List.mem_cons_self
  by_cases q:c∈h.yes
  ·rw[if_pos q]at e;cases e;exact⟨h,rfl,by rw[kh.yes c q C cl]⟩
  ·rw[if_neg q]at e
   by_cases q2:c∈h.no
   ·rw[if_pos q2]at e
    obtain⟨g,g1,g2⟩:=T4 Z cl r (fun g hg=>ok g (List.mem_cons_of_mem _ hg)) e
    exact⟨g,g1,by rw[kh.no c q2 C cl];exact g2⟩
   ·rw[if_neg q2]at e;cases e
@[simp] noncomputable def Fl.but(i:Nat):Fl->Fl
 | .nx δ=>.nx (δ.set i none)
 | .bk δ=>.bk (δ.set i none)
 | .ct δ=>.ct (δ.set i none)
 | .ex e δ=>.ex e (δ.set i none)
 | .rt sv=>.rt sv
 | .rg d δ=>.rg d (δ.set i none)
@[simp] noncomputable def Fl.isEx:Fl->Bool
 | .ex _ _=>true
 |_=>false
@[simp] noncomputable def HF.run(h:HF)(x:Exn)(δ:Ya):Option Fl:=match h.i with
 |none=>h.f δ
 |some i=>if i<δ.length then(h.f (δ.set i (some (.fz (.exc x.c x.ks x.vs))))).bind fun fl=>if fl.isEx=true then none else some (fl.but i)else none
@[simp] noncomputable def Ze1(fb:FS)(hs:List HF):FS:=fun δ=>(fb δ).bind fun
 | .ex x δ1=>(Pp x.c hs).bind fun h=>h.run x δ1
 |fl=>some fl
noncomputable abbrev Ent.wish(Z:Ent K)(EX:Ib):Ent K:=⟨Z.h,Z.f,EX⟩
theorem SR.unset{F:Hp}{δ:Ya}{own:Nat->Zg}(s:SR Z F H σ δ own)(i:Nat):SR Z F H (σ.set i none) (δ.set i none) (put own i []):=by
 refine⟨s.le,s.fro,s.old,by rw[List.length_set,List.length_set];exact s.len,fun j sw ej=>?_,fun j=>?_,fun j p hp=>?_,fun j k p q hjk hp hq=>?_⟩
 ·by_cases hj:j=i
  ·subst hj
   have hd:j<δ.length:=by
    have:=(List.getElem?_eq_some_iff.mp ej).1
    simpa using this
   rw[List.getElem?_set_self hd]at ej
   cases ej
  ·rw[List.getElem?_set_ne (Ne.symm hj)]at ej
   rw[Z4 hj,List.getElem?_set_ne (Ne.symm hj)]
   exact s.at' j sw ej
 ·by_cases hj:j=i
  ·subst hj;rw[Zy];exact List.nodup_nil
  ·rw[Z4 hj];exact s.nod j
 ·by_cases hj:j=i
  ·subst hj;rw[Zy]at hp;exact nomatch hp
  ·rw[Z4 hj]at hp;exact s.ok j p hp
 ·by_cases hj:j=i
  ·subst hj;rw[Zy]at hp;exact nomatch hp
  ·by_cases hk:k=i
   ·subst hk;rw[Zy]at hq;exact nomatch hq
   ·rw[Z4 hj]at hp
    rw[Z4 hk]at hq
    exact s.sep j k p q hjk hp hq
theorem Zba{F:Hp}{i:Nat}{fl:Fl}(hx:fl.isEx=false)(k:Bl Z F E (fl.but i)):Bl Z F (E.but i) fl:=by
 cases fl with
 |nx δ=>exact fun σ' H' F' own' a b=>k (σ'.set i none) H' F' _ a (b.unset i)
 |bk δ=>exact fun σ' H' F' own' a b=>k (σ'.set i none) H' F' _ a (b.unset i)
 |ct δ=>exact fun σ' H' F' own' a b=>k (σ'.set i none) H' F' _ a (b.unset i)
 |rt sv=>exact k
 |ex x δ=>cases hx
 |rg d δ=>exact fun v σ' H' F' own' a b=>k v (σ'.set i none) H' F' _ a (b.unset i)
theorem Znw{fb:FS}{hs:List HX}(hsub:∀h∈hs,h.Sub K)(h:Zq Z (Ze1 fb (hs.map HX.hf)) E σ H):Zmb K (fun EX=>Zq (Z.wish EX) fb) (hs.map (HX.hd Z)) E σ H:=by
 obtain⟨F,δ,own,fl,s,e,k⟩:=h
 refine bnd1 e fun f1 e1 e2=>?_
 refine⟨F,δ,own,f1,s.ent,e1,?_⟩
 cases f1 with
 |nx δ1=>cases e2;exact fun σ' H' F' own' a b=>k σ' H' F' own' a b.ent
 |bk δ1=>cases e2;exact fun σ' H' F' own' a b=>k σ' H' F' own' a b.ent
 |ct δ1=>cases e2;exact fun σ' H' F' own' a b=>k σ' H' F' own' a b.ent
 |rt sv=>cases e2;exact k
 |rg d δ1=>cases e2;exact fun v σ' H' F' own' a b=>k v σ' H' F' own' a b.ent
 |ex x δ1=>
  refine bnd1 e2 fun hf e3 e4=>?_
  intro σ' H' F' own' cls od sF s' r
  obtain⟨C,cl,rc,r2⟩:=r
  obtain⟨g,g1,g2⟩:=T4 Z cl hs hsub e3
  subst g1
  refine⟨C,g.hd Z,rc,g2,?_⟩
  have s2:SR Z F' H' σ' δ1 own':=s'.ent
  obtain⟨gx,gnp,gnm,gb0,gsu,gpos,gB,gy,gn,gf⟩:=g
  cases gnm with
  |none=>exact⟨F',δ1,own',fl,s2,e4,k.mono sF⟩
  |some ni=>
   obtain⟨n,i⟩:=ni
   have e4:(if i<δ1.length then(gf (δ1.set i (some (.fz (.exc x.c x.ks x.vs))))).bind fun fl=>if fl.isEx=true then none else some (fl.but i)else none)=some fl:=e4
   by_cases hc:i<δ1.length
   ·rw[if_pos hc]at e4
    refine bnd1 e4 fun fl0 e5 e6=>?_
    have hx0:fl0.isEx=false:=by
     cases z:fl0.isEx with
     |true=>rw[if_pos z]at e6;cases e6
     |false=>rfl
    rw[if_neg (by rw[hx0];exact Bool.false_ne_true)]at e6
    cases e6
    intro a ha
    have ha':H' a=none:=ha
    have sm:=Wg (o:=.ext (We a C od)) ha'
    have sF2:Zh F' (Qa F' [(a,.ext (We a C od))]):=Wo fun q hq=>by obtain rfl:=List.mem_singleton.mp hq;exact s2.le.free ha'
    have s3:SR Z (Qa F' [(a,.ext (We a C od))]) (Ys H' a (.ext (We a C od))) σ' δ1 own':=by
     refine(s2.grow sm).addF Tq (fun q hq=>?_) (fun q hq=>?_) (fun q hq=>?_) fun i q u hq hu=>?_
     ·obtain rfl:=List.mem_singleton.mp hq;exact s2.le.free ha'
     ·obtain rfl:=List.mem_singleton.mp hq;exact Zu
     ·obtain rfl:=List.mem_singleton.mp hq;exact s2.old.free ha'
     ·obtain rfl:=List.mem_singleton.mp hq
      intro e
      have e':a=u.1:=e
      have z:=(s2.ok i u hu).2.2
      rw[<-e',ha']at z;cases z
    have rp:Rep K (Qa F' [(a,.ext (We a C od))]) (.exc x.c x.ks x.vs) (.ref a):=by
     cases od with
     |none=>obtain⟨r3,r4⟩:=r2;rw[r3,r4];exact .exc cl Zu
     |some dx=>obtain⟨fs,r3,r4,r5⟩:=r2;exact .exd cl Zu (sF2 _ _ r3) r4 (r5.mono sF2)
    have s4:=s3.store (i:=i) (sv:=.fz (.exc x.c x.ks x.vs)) (v:=.ref a) (ns:=[]) (.fz rp) (by rw[s3.len];exact hc)
    exact⟨_,_,_,fl0,s4,e5,Zba hx0 (k.mono (sF.trans sF2))⟩
   ·rw[if_neg hc]at e4;cases e4
end
end DL
namespace DL
open PySem PySem.Spec PyProof.Rows L2
section
variable{X:Cx}{Z:Ent X.K}{a b c:Expr}{fa fb:FE}{fx fy:FX}{pos:Pos}
theorem Y8(h:PE X a (Zb Z fa)):PE X a (Qc Z (Ug fa)):=h.imp fun _ _ _ q=>Zex q
theorem Eh:PA X [] (Uw Z Eg):=Jv.imp fun _ _ _ h=>V6 h
theorem Jq{es:List Expr}{fr:FAX}(ha:PE X a (Qc Z fx))(hr:PA X es (Uw Z fr))(hs:starEach (a::es) X.env=(false,eval a X.env)::starEach es X.env:=by rfl):PA X (a::es) (Uw Z (Cg fx fr)):=(Yn ha hr hs).imp fun _ _ _ h=>Ly h
theorem Zjp{k n:Nat}{f:Addr}{fd:FuncData}{ps:List Str}{g:List D->Option XO}{x:Str}{p:Pos}{es:List Expr}{fr:FAX}(F:FnOk X.prog X.w X.K X.mg X.base (Oc X.prog X.w) k f fd ps (spX X.K n g))(hr:Room k X.A)(hm:X.mg x=some (.ref f))(hk:PySem.W.keepIn X.K (.ref f)=true)(hb:Qf X.K fd ps [])
  (th:Ub X Z.x) (ha:PA X (a::es) (Uw Z fr)) (hg:Gl X x:=by rfl) (hdb:(x==("__debug__":Str))=false:=by decide) (he:starEach (a::es) X.env=(false,eval a X.env)::starEach es X.env:=by rfl) (hpl:(backTo pos (starEach es X.env)).any (·.1)=false:=by rfl):
  PE X (.Call (.Name x p) (a::es) [] pos) (Qc Z (Po n g fr)):=(Rt F hr hg hm hk hb th ha hdb he hpl).imp fun _ _ _ h=>Ze0 h
theorem Qr{P:Program}{w:World}{K:PySem.W.Frag}{mg:Str->Option Value}{base:Heap}{N:List Str}{qual:Str}{scope:Scope}{f:Addr}{cd:Value}{A:Around}{outer:List Env}{s:Shared}{H:Hp}{E:XK}:
  Ub (O7 (Oc P w) P w K mg base N qual scope f cd A outer s H E) fun cls od _ H'=>E cls od H':=by
 have th:=(Tj (P:=P) (w:=w) (K:=K) (mg:=mg) (base:=base) (N:=N) (qual:=qual) (scope:=scope) (f:=f) (cd:=cd) (A:=A) (outer:=outer) (s:=s) (H:=H) (E:=E)).t.pass rfl
 intro pins σ H1 s1 e s2 I h
 exact th pins σ H1 s1 e s2 I h
theorem Fun.okX{P:Program}{w:World}{K:PySem.W.Frag}{mg:Str->Option Value}{base:Heap}{x qual:Str}{st:Stmt}{f:Addr}{fd:FuncData}{N ps:List Str}{k:Nat}{sp:Sp}(F:Fun K x qual st f fd)(S:FnScope N ps (Zv st))(len:∀vs H Q E,sp vs H Q E->vs.length=ps.length)
  (hbody:∀(cdv:Value) (A:Around) (outer:List Env) (s:Shared) (H:Hp) (vs:List V) (Q:VK) (E:XK),Room k (A.deeper (envOfC qual (Zv st) s.heap.objs.size f cdv))->sp vs H Q E->
   ∃t,Ob (O7 (Oc P w) P w K mg base N qual (Zv st) f cdv A outer s H E) (W0 st) t/\t {nx:=fun _ H'=>Q .non H',rt:=Q} (L2.start N vs) H):FnOk P w K mg base (Oc P w) (k+1) f fd ps sp:=by
 obtain⟨oc,od,kV,doc,pm,an,cdv,ct,osl,rfl,lk,hcd⟩:=F.ex
 exact Zgi lk hcd S len fun A outer s H vs Q E hr hsp=>hbody cdv A outer s H vs Q E hr hsp
theorem R5(i:Nat){x:Str}{pos':Pos}(hN:X.N.Nodup)(he:PE X a (Qc Z fx))(hi:X.N[i]? =some x:=by rfl)(hx:Loc X.env.scope x:=by first|exact Or.inl rfl|exact Or.inr rfl)(hs:swapsWith a (some (.Name x pos')) pos.line X.env=pure false:=by rfl)(hf:X.fn x=true\/X.env.scope.names.lookup x=some .local:=by first|exact .inl rfl|exact .inr rfl):
  PS X (.Assign [.Name x pos'] a pos) (Zq Z (Lz i fx)):=(Am hN hi hx he hs hf).imp fun _ _ _ h=>Zjo h
theorem Znx{body:List Stmt}{fb:FS}{h0:HX}{hs:List HX}(hb:∀pn xe EX,Us (X.inTry pn xe) EX->Ob (X.inTry pn xe) body (Zq (Z.wish EX) fb))(ok:∀h∈h0::hs,(h.hd Z).Ok X)(hsub:∀h∈h0::hs,h.Sub X.K)(hex:X.ex=[]:=by rfl)(hst:X.stack=X.env::X.outer:=by rfl)(hfr:X.env.frame=some X.env.locals:=by rfl):
  PS X (.Try body (((h0::hs).map (HX.hd Z)).map Hd.ast) [] [] pos) (Zq Z (Ze1 fb ((h0::hs).map HX.hf))):=
 (Zip (tb:=fun EX=>Zq (Z.wish EX) fb) (h0:=h0.hd Z) (hs:=hs.map (HX.hd Z)) hb (fun h hh=>by
  have hh':h∈(h0::hs).map (HX.hd Z):=hh
  obtain⟨g,hg,rfl⟩:=List.mem_map.mp hh'
  exact ok g hg) hex hst hfr).imp fun _ _ _ h=>Znw (hs:=h0::hs) hsub h
theorem Pq{α:Type}{P:α->Prop}{a:α}(h:P a):∀x∈[a],P x:=fun x hx=>by rw[List.mem_singleton.mp hx];exact h
theorem Qz{P:Addr->Prop}{K:PySem.W.Frag}:∀c∈([]:List Str),∀C,Yf K c C->P C:=fun _ h=>nomatch h
theorem Oo{P:Addr->Prop}{K:PySem.W.Frag}{c:Str}{a:Addr}{r:List Str}(x:Yf K c a)(m:P a)(t:∀c∈r,∀C,Yf K c C->P C):∀d∈c::r,∀C,Yf K d C->P C:=fun d hd C cl=>by
 rcases List.mem_cons.mp hd with e|e
 ·subst e
  have z:=x.symm.trans cl
  cases z
  exact m
 ·exact t d e C cl
theorem Ze2{P:Str->Nat->Prop}{m:Str}{j:Nat}(h:P m j):∀n i,some (m,j)=some (n,i)->P n i:=fun _ _ e=>by cases e;exact h
@[simp] noncomputable def Fb(yes no:List Str):D->Option SV
 | .exc c _ _=>if c∈yes then some (.fz (.bl true))else if c∈no then some (.fz (.bl false))else none
 |_=>none
theorem Yc.exc{K:PySem.W.Frag}{F H:Hp}{c:Str}{ks:List Str}{vs:List D}{v:V}(le:Zh F H)(h:Yc K F H (.exc c ks vs) v):∃a C dx,v= .ref a/\H a=some (.ext (We a C dx))/\Yf K c C:=by
 obtain⟨sv,ns,e,n,sh,hp⟩:=h
 cases sh with
 |fz r=>cases e;cases r with|exc cl h=>exact⟨_,_,_,rfl,le _ _ h,cl⟩|exd cl h _ _ _=>exact⟨_,_,_,rfl,le _ _ h,cl⟩
 |ol r=>cases e
 |oK e' r=>cases e
 |oT kb e' r=>cases e
 |oN e' r=>cases n
 |oR e' r=>cases n
 |oG hp' r=>cases n
 |oX kb' e' r=>cases n
 |oD r=>cases n
 |oM kb' e' r=>cases n
 |oL _ r=>cases n
 |oQ e' r=>cases e
theorem V8{yes no:List Str}{d:D}{sv:SV}(e:Fb yes no d=some sv):∃c ks vs b,d= .exc c ks vs/\sv= .fz (.bl b)/\(b=true->c∈yes)/\(b=false->c∈no):=by
 unfold Fb at e
 split at e
 ·rename_i c ks vs
  by_cases h1:c∈yes
  ·rw[if_pos h1]at e;cases e;exact⟨c,ks,vs,true,rfl,rfl,fun _=>h1,fun z=>nomatch z⟩
  ·rw[if_neg h1]at e
   by_cases h2:c∈no
   ·rw[if_pos h2]at e;cases e;exact⟨c,ks,vs,false,rfl,rfl,(fun z=>nomatch z),fun _=>h2⟩
   ·rw[if_neg h2]at e;cases e
 ·cases e
noncomputable def Kn(K:PySem.W.Frag)(r:Addr->Bool->Prop)(yes no:List Str):Prop:=(∀c∈yes,∀C,Yf K c C->ExcKit K C/\r C true)/\∀c∈no,∀C,Yf K c C->ExcKit K C/\r C false
theorem Kn.at'{K:PySem.W.Frag}{r:Addr->Bool->Prop}{yes no:List Str}(k:Kn K r yes no){c:Str}{C:Addr}{b:Bool}(h1:b=true->c∈yes)(h2:b=false->c∈no)(cl:Yf K c C):ExcKit K C/\r C b:=by
 cases b with
 |true=>exact k.1 c (h1 rfl) C cl
 |false=>exact k.2 c (h2 rfl) C cl
theorem Zha{c:V}{cv:Value}{yes no:List Str}(kn:Kn X.K (fun C b=>PySem.W.kitOne X.K (.ref C) cv=some b) yes no):Ru Z (fun x H Q=>Zmc X.K c cv [x,c] H Q) (Fb yes no):=by
 intro F H σ δ own x d sv Q s r e k
 obtain⟨c',ks,vs,b,rfl,rfl,h1,h2⟩:=V8 e
 obtain⟨a,C,dx,rfl,ha,cl⟩:=r.exc s.le
 obtain⟨q1,q2⟩:=kn.at' h1 h2 cl
 exact⟨a,C,dx,b,rfl,ha,q1,q2,k.fz s (.bl b)⟩
theorem Zhb{x:Str}{B:Addr}{p p2:Pos}{yes no:List Str}(hm:X.mg "isinstance"=none)(hmc:X.mg x=some (.ref B))(kn:Kn X.K (fun C b=>PySem.W.kitOne X.K (.ref C) (.ref B)=some b) yes no)(ha:PE X a (Zb Z fa))
  (hg:Gl X "isinstance":=by rfl) (hgc:Gl X x:=by rfl) (hdb:(x==("__debug__":Str))=false:=by decide) (he:starEach [a,.Name x p2] X.env=(false,eval a X.env)::starEach [.Name x p2] X.env:=by rfl) (he2:starEach [.Name x p2] X.env=(false,eval (.Name x p2) X.env)::starEach [] X.env:=by rfl) (hpl:(backTo pos (starEach [.Name x p2] X.env)).any (·.1)=false:=by rfl):
  PE X (.Call (.Name "isinstance" p) [a,.Name x p2] [] pos) (Zb Z (G7 (Fb yes no) fa)):=
 (B0 (Ic (c:=.ref B) (cv:=.ref B) fun u h=>h) hg hm boot_isinstance (Yn ha (Yn (Ak (v:=.ref B) hgc hmc rfl hdb) Jv he2) he) (by decide) (by decide) he hpl).imp fun σ H Q h=>Lf (Zha (c:=.ref B) kn) h
theorem Ze3:bootBuiltins "ValueError"=some (.type "ValueError"):=by decide+kernel
theorem Zjq{x:Str}{t:String}{p p2:Pos}{yes no:List Str}(hm:X.mg "isinstance"=none)(hmc:X.mg x=none)(hv:bootBuiltins x=some (.type t))(kn:Kn X.K (fun C b=>PySem.W.kitOne X.K (.ref C) (.type t)=some b) yes no)(ha:PE X a (Zb Z fa))
  (hg:Gl X "isinstance":=by rfl) (hgc:Gl X x:=by rfl) (hn:x≠"__name__":=by decide) (hdb:(x==("__debug__":Str))=false:=by decide) (he:starEach [a,.Name x p2] X.env=(false,eval a X.env)::starEach [.Name x p2] X.env:=by rfl) (he2:starEach [.Name x p2] X.env=(false,eval (.Name x p2) X.env)::starEach [] X.env:=by rfl) (hpl:(backTo pos (starEach [.Name x p2] X.env)).any (·.1)=false:=by rfl):
  PE X (.Call (.Name "isinstance" p) [a,.Name x p2] [] pos) (Zb Z (G7 (Fb yes no) fa)):=
 (B0 (Ic (c:=.ty t) (cv:=.type t) fun u h=>h) hg hm boot_isinstance (Yn ha (Yn (Nh (v:=.ty t) hgc hmc hv rfl hn hdb) Jv he2) he) (by decide) (by decide) he hpl).imp fun σ H Q h=>Lf (Zha (c:=.ty t) kn) h
end
end DL
namespace DL
open PySem PySem.Spec PyProof.Rows L2
@[simp] noncomputable def C7(ss:List Str)(fd:FD):FD:=fun δ=>(fd δ).bind fun p=>some (ss.map D.str++p.1,p.2)
theorem Ze4{K:PySem.W.Frag}{Z:Ent K}{σ:L2.St}{H:Hp}{fd:FD}:∀(ss:List Str) {R:List V->Hp->Prop},Wd Z (C7 ss fd) σ H R->Wd Z fd σ H fun vs H'=>R (ss.map V.str++vs) H'
 |ss,R,h=>by
  obtain⟨F,δ,own,ds,δ',s,e,k⟩:=h
  refine bnd2 e fun ds1 δ1 e1 e2=>?_
  cases e2
  refine⟨F,δ,own,ds1,δ1,s,e1,fun vs H' F' own' a b c r=>k _ H' F' own' a b c ?_⟩
  exact Reps.append (strs_rep ss) r
where strs_rep {F:Hp}:∀ss:List Str,Reps K F (ss.map D.str) (ss.map V.str)
 | []=>.nil
 |x::r=>.cons (.str x) (strs_rep r)
section
variable{X:Cx}{Z:Ent X.K}{pos:Pos}
noncomputable abbrev cst(x:Str×Nat×Pos):Expr:=.Constant (.str x.1) x.2.1 x.2.2
theorem Fc{es:List Expr}{t:TA}(h:PA X es t):∀l:List (Str×Nat×Pos),PA X (l.map cst++es) fun σ H R=>t σ H fun vs H'=>R ((l.map fun x=>V.str x.1)++vs) H'
 | []=>h
 |x::r=>(Yn (e:=cst x) (es:=r.map cst++es) X5 (Fc h r) rfl).imp fun σ H R q=>q
theorem Ei{es:List Expr}{fd:FD}(l:List (Str×Nat×Pos))(h:PA X es (Wd Z fd)):PA X (l.map cst++es) (Wd Z (C7 (l.map (·.1)) fd)):=
 (Fc h l).imp fun σ H R q=>by
  have:=Ze4 (l.map (·.1)) q
  rw[List.map_map]at this
  exact this
end
end DL
namespace DL
open PySem PySem.Spec PyProof.Rows L2
section
variable{X:Cx}{Z:Ent X.K}{pos:Pos}
theorem Ze5{body:List Stmt}{fb f:FS}{x n:Str}{i:Nat}{np hp:Pos}{b0:Stmt}{suite:List Stmt}{B:Addr}{yes no:List Str}(hb:∀pn xe EX,Us (X.inTry pn xe) EX->Ob (X.inTry pn xe) body (Zq (Z.wish EX) fb))(mg:X.mg x=some (.ref B))
  (ck:PySem.W.typeIn X.K (.ref B)=some (.type "type")/\PySem.W.isClsIn X.K B=true/\PySem.W.mroIn X.K B (.type "BaseException")=some true) (nd:X.N.Nodup) (su:∀a,Ob (X.inSuite a) (b0::suite) (Zq Z f))
  (hy:∀c∈yes,∀C,Yf X.K c C->PySem.W.mroIn X.K C (.ref B)=some true) (hn:∀c∈no,∀C,Yf X.K c C->PySem.W.mroIn X.K C (.ref B)=some false)
  (ni:X.N[i]? =some n:=by rfl) (lc:X.env.scope.names.lookup n=some .local:=by rfl) (gl:Gl X x:=by rfl) (db:(x==("__debug__":Str))=false:=by decide) (hex:X.ex=[]:=by rfl) (hst:X.stack=X.env::X.outer:=by rfl) (hfr:X.env.frame=some X.env.locals:=by rfl):
  PS X (.Try body [.ExceptHandler (some (.Name x np)) (some n) (b0::suite) hp] [] [] pos) (Zq Z (Ze1 fb [⟨some i,yes,no,f⟩])):=
 Znx (h0:=⟨x,np,some (n,i),b0,suite,hp,B,yes,no,f⟩) (hs:=[]) hb (Pq ⟨gl,mg,ck.1,ck.2.1,ck.2.2,db,Ze2 ⟨nd,ni,.inl lc,lc,lc⟩,su⟩) (Pq ⟨hy,hn⟩) hex hst hfr
end
end DL
namespace DL
section
variable{α:Type}{P:List α->Prop}
@[elab_as_elim] theorem of1(h:∀a,P [a])(us:List α)(hl:us.length=1):P us:=by
 obtain⟨a,e⟩:=List.length_eq_one_iff.mp hl
 rw[e];exact h a
theorem ofC{n:Nat}(h:∀a (us:List α),us.length=n->P (a::us))(us:List α)(hl:us.length=n+1):P us:=by
 cases us with
 |nil=>exact absurd hl (by simp)
 |cons a r=>exact h a r (by simpa using hl)
@[elab_as_elim] theorem of2(h:∀a b,P [a,b])(us:List α)(hl:us.length=2):P us:=ofC (fun a=>of1 (P:=fun us=>P (a::us)) (h a)) us hl
@[elab_as_elim] theorem of3(h:∀a b c,P [a,b,c])(us:List α)(hl:us.length=3):P us:=ofC (fun a=>of2 (P:=fun us=>P (a::us)) (h a)) us hl
@[elab_as_elim] theorem of4(h:∀a b c d,P [a,b,c,d])(us:List α)(hl:us.length=4):P us:=ofC (fun a=>of3 (P:=fun us=>P (a::us)) (h a)) us hl
@[elab_as_elim] theorem of5(h:∀a b c d e,P [a,b,c,d,e])(us:List α)(hl:us.length=5):P us:=ofC (fun a=>of4 (P:=fun us=>P (a::us)) (h a)) us hl
end
end DL
namespace DL
open PySem PySem.Spec PyProof.Rows L2
variable{K:PySem.W.Frag}
noncomputable def Ch(C:Addr)(f:Str):Sp:=fun vs H Q _=>∃e v,vs=[.ref e,v]/\H e=some (.ext (W2 e C none))/\
 ∀dx,H dx=none->Q .non (Ys (Ys H dx (.xd [(f,v)])) e (.ext (W2 e C (some dx))))
section
variable{Z:Ent K}{H:Hp}{σ:L2.St}{E:Ends}{Q:VK}
@[simp] noncomputable def L0(c f:Str)(fe:FE):FS:=fun δ=>(fe δ).bind fun p=>(frz p.1 p.2).bind fun q=>some (.ex ⟨c,[f],[q.1]⟩ q.2)
theorem Zbb{H:Hp}{a b:Addr}{o:HO}(h:Ys H a o b=none):b≠a/\H b=none:=by
 have ne:b≠a:=fun z=>by rw[z,Zu]at h;cases h
 exact⟨ne,by rw[Zl ne]at h;exact h⟩
theorem Zbc{c f:Str}{C:Addr}{fe:FE}(cl:Yf K c C)(hx:∀cls od σ H',Z.x cls od σ H'->Z.x cls od [] H')(h:Zq Z (L0 c f fe) E σ H):Nz (fun cls od H'=>Z.x cls od [] H') C (Ch C f) (Q5 (Zb Z fe) Mv) E σ H:=by
 obtain⟨F,δ,own,fl,s,e,k⟩:=h
 refine bnd2 e fun rv δ1 e1 e2=>?_
 refine bnd2 e2 fun d δ2 e3 e4=>?_
 cases e4
 refine⟨F,δ,own,rv,δ1,s,e1,fun v H1 F1 own1 sH sF s1 r1=>?_⟩
 obtain⟨F2,sF2,s2,r2⟩:=s1.settleR r1
 obtain⟨F3,own3,sF3,s3,r3⟩:=s2.frzR r2 e3
 refine⟨by show 1<=PySem.sizeLine;decide,fun e he=>⟨e,v,rfl,Zu,fun dx h2=>⟨rfl,some dx,Zu,?_⟩⟩⟩
 obtain⟨n2,a2⟩:=Zbb h2
 obtain⟨sFn,sn⟩:=s3.fresh (H':=drop (Ys (Ys (Ys H1 e (.ext (W2 e C none))) dx (.xd [(f,v)])) e (.ext (W2 e C (some dx)))) e) (ns:=[(dx,.xd [(f,v)])]) (fun b o hb=>by
  have b1:b≠e:=fun z=>by rw[z,he]at hb;cases hb
  have b2:b≠dx:=fun z=>by rw[z,a2]at hb;cases hb
  rw[Ql b1,Zl b1,Zl b2,Zl b1];exact hb) Tq (fun p hp=>by
  rw[List.mem_singleton.mp hp];exact⟨a2,by rw[Ql n2,Zl n2,Zu]⟩)
 exact hx _ _ _ _ (k σ _ _ own3 (.ref C) (some dx) (sF.trans (sF2.trans (sF3.trans sFn))) sn ⟨C,cl,rfl,[(f,v)],Zu,rfl,.cons (r3.mono sFn) .nil⟩)
@[simp] noncomputable def Pr(cs:List Str)(f:Str):D->Option SV
 | .exc c ks vs=>if c∈cs then((ks.zip vs).lookup f).bind fun d=>some (.fz d)else none
 |_=>none
theorem Fd{F:Hp}{f:Str}{d:D}:∀{fs:List (Str×V)} {ds:List D},Reps K F ds (fs.map (·.2))->((fs.map (·.1)).zip ds).lookup f=some d->∃v,fs.lookup f=some v/\Rep K F d v
 | [],_,_,e=>by simp at e
 |p::fs,_,.cons h t,e=>by
  rw[List.map_cons,List.zip_cons_cons,List.lookup_cons]at e
  rw[List.lookup_cons]
  cases z:f==p.1 with
  |true=>rw[z]at e;cases e;exact⟨p.2,rfl,h⟩
  |false=>rw[z]at e;exact Fd t e
theorem Zjs{cs:List Str}{f:Str}(kn:∀c∈cs,∀C,Yf K c C->ExcGet K C f):Ru Z (fun x H Q=>∃a C dx fs v,x= .ref a/\H a=some (.ext (We a C (some dx)))/\H dx=some (.xd fs)/\ExcGet K C f/\fs.lookup f=some v/\Q v H) (Pr cs f):=by
 intro F H σ δ own x d sv Q s r e k
 unfold Pr at e
 split at e
 ·rename_i c ks vs
  split at e
  ·rename_i hc
   refine bnd1 e fun d e1 e2=>?_
   cases e2
   obtain⟨sv,ns,es,n,sh,hp⟩:=r
   cases sh with
   |fz r=>
    cases es
    cases r with
    |exc cl h=>simp at e1
    |exd cl h hx ek rr=>
     subst ek
     obtain⟨v,h1,h2⟩:=Fd rr e1
     exact⟨_,_,_,_,v,rfl,s.le _ _ h,s.le _ _ hx,kn c hc _ cl,h1,k.fz s h2⟩
   |ol r=>cases es
   |oK e' r=>cases es
   |oT kb e' r=>cases es
   |oN e' r=>cases n
   |oR e' r=>cases n
   |oG hp' r=>cases n
   |oX kb' e' r=>cases n
   |oD r=>cases n
   |oM kb' e' r=>cases n
   |oL _ r=>cases n
   |oQ e' r=>cases es
  ·cases e
 ·cases e
end
section
variable{X:Cx}{Z:Ent X.K}{a b c:Expr}{fa fb fc:FE}{pos:Pos}
theorem Zbd{x f:Str}{C fI:Addr}{fd:FuncData}{ps:List Str}{k:Nat}{np cpos:Pos}(th:Rs X fun cls od H'=>Z.x cls od [] H')(hc:X.calm=true)(hm:X.mg x=some (.ref C))(oc:A1 C fI X.base)(fn:PySem.W.isFn X.K (.ref fI)=true)(F:FnOk X.prog X.w X.K X.mg X.base Cw k fI fd ps (Ch C f))(hr:Room (k+1) X.A)(hb:Qf X.K fd ps [])(cl:Yf X.K x C)(ha:PE X a (Zb Z fa))
  (hx:∀cls od σ H',Z.x cls od σ H'->Z.x cls od [] H':=by exact fun _ _ _ _ h=>h) (hex:X.ex=[]:=by rfl) (hg:Gl X x:=by rfl) (he:starEach [a] X.env=(false,eval a X.env)::starEach [] X.env:=by rfl) (hpl:((backTo cpos (starEach [a] X.env)).any fun x=>x.1)=false:=by rfl)
  (hbk:∃z rest,backTo cpos (starEach [a] X.env)=(false,z)::rest:=by exact⟨_,_,rfl⟩) (hd:(x==("__debug__":Str))=false:=by decide):PS X (.Raise (some (.Call (.Name x np) [a] [] cpos)) none pos) (Zq Z (L0 x f fa)):=
 (Vo th hc hex hm oc fn F hr hb hg (Yn ha Jv he) he hpl hbk hd).imp fun _ _ _ h=>Zbc cl hx h
theorem Zjt{cs:List Str}{f:Str}(kn:∀c∈cs,∀C,Yf X.K c C->ExcGet X.K C f)(ha:PE X a (Zb Z fa))(hb:attributeBase a f X.env (eval a X.env)=eval a X.env:=by rfl):PE X (.Attribute a f pos) (Zb Z (G7 (Pr cs f) fa)):=
 (Dy ha hb).imp fun _ _ _ h=>Lf (Zjs kn) h
theorem Ze6{i j:Nat}{f:Str}{p2:Pos}(ho:PE X a (Jg i))(hv:PE X b (Jg j))(hs:swapsWith b (some (.Attribute a f p2)) pos.line X.env=pure false:=by rfl):PS X (.Assign [.Attribute a f p2] b pos) (A3 X.K (Jg i) (Jg j) f):=Dz ho hv hs
end
theorem V9{C:Addr}{f n0 n1:Str}:∀vs H Q E,Ch C f vs H Q E->vs.length=[n0,n1].length:=fun vs H Q E h=>by obtain⟨e,v,rfl,_⟩:=h;rfl
theorem Zbe{C:Addr}{f n0 n1:Str}{vs:List V}{H:Hp}{Q:VK}{E:XK}(k:ExcSet K C f)(h:Ch C f vs H Q E):A3 K (Jg 0) (Jg 1) f {nx:=fun _ H'=>Q .non H',rt:=Q} (L2.start [n0,n1] vs) H:=by
 obtain⟨e,v,rfl,he,q⟩:=h
 exact⟨v,rfl,.ref e,rfl,e,C,rfl,he,k,q⟩
end DL
namespace DL
open PySem PySem.Spec PyProof.Rows L2
variable{K:PySem.W.Frag}
section
variable{Z:Ent K}{H:Hp}{σ:L2.St}{Q:VK}{E:Ends}
noncomputable def Wi(H:Hp)(ns:Zg):Hp:=fun b=>if b∈Yi ns then none else H b
theorem Ej{ns:Zg}:Zh (Wi H ns) H:=fun b o e=>by
 unfold Wi at e
 split at e
 ·cases e
 ·exact e
theorem W1{ns:Zg}{b:Addr}(h:b∈Yi ns):Wi H ns b=none:=if_pos h
theorem Ym{ns:Zg}{b:Addr}(h:b∉Yi ns):Wi H ns b=H b:=if_neg h
theorem Q1{ns:Zg}{b:Addr}(h:Wi H ns b=none):b∈Yi ns\/H b=none:=by
 by_cases hb:b∈Yi ns
 ·exact .inl hb
 ·rw[Ym hb]at h;exact .inr h
end
end DL
namespace L2
open PySem PySem.Spec PyProof.Rows
section
variable{X:Cx}
noncomputable def Ps:V->List V->Hp->VK->Prop:=fun x xs H Q=>∃a b k,x= .str a/\xs=[.str b,.int k]/\(b.length==0)=false/\0<=k/\k<=1000/\a.length<=sizeLine/\(Txt.splitMax a b k).length<=sizeLine/\∀p,H p=none->Q (.ref p) (Ys H p (.lst ((Txt.splitMax a b k).map V.str)))
theorem Xa:MtR X "str.split" Ps:=by
 intro pins s σ H x xs v us Q I rx rs h
 obtain⟨a,b,k,rfl,rfl,hb,k0,k1,ha,hz,q⟩:=h
 obtain⟨t,rfl⟩:=rx
 cases rs with
 |cons r1 rs=>
 cases rs with
 |cons r2 rs=>
 cases rs
 obtain⟨t1,rfl⟩:=r1
 obtain⟨t2,rfl⟩:=r2
 have hk:(decide (k< -(2^63:Int))||decide (k>=2^63))=false:=by
  rw[decide_eq_false (by omega),decide_eq_false (by omega)];rfl
 have one:Txt.splitMax a b k=[a]->∀tk,EP X pins σ Q (.ref s.heap.objs.size) {s with toks:=tk,heap:=s.heap.push {cls:=.type "list",data:=.seq #[.str a t]}}:=fun e tk=>by
  rw[e]at q
  exact⟨.ref _,_,I.lnew (t':=tk) (ys:=[.str a]) (its:=[.str a t]) (.cons ⟨t,rfl⟩ .nil) (by show 1<=sizeLine;decide),rfl,q _ I.fresh⟩
 cases h1:(decide (a.length<b.length)||decide (Builtin.Str.strKind a<Builtin.Str.strKind b))
 ·cases hf:(Builtin.Str.occurrences a b 0 a.length (PySem.limitOf a k)).isEmpty
  ·have e:Txt.splitMax a b k=Builtin.Str.partsBetween a (Builtin.Str.occurrences a b 0 a.length (PySem.limitOf a k)) b.length:=(if_neg (ne_true_of_eq_false h1)).trans (if_neg (ne_true_of_eq_false hf))
   rw[e]at hz q
   refine call_meets F.slot_str_split (typeIs_str _ _ _) F.entry_str_split (F.args_str_split_3 _ _ _) (meets_str_split_sep_max a b k t t1 t2 hk h1 hb hf ha hz) ?_
   rw[strsFrom_eq]
   have hv:=C4 (numbered s.toks (Builtin.Str.partsBetween a (Builtin.Str.occurrences a b 0 a.length (PySem.limitOf a k)) b.length))
   rw[numbered_texts]at hv
   exact⟨.ref _,_,I.lnew (t':=_) hv (by rw[List.length_map];exact hz),rfl,q _ I.fresh⟩
  ·exact call_meets F.slot_str_split (typeIs_str _ _ _) F.entry_str_split (F.args_str_split_3 _ _ _) (meets_str_split_max_not_found a b k t t1 t2 hk h1 hb hf) (one ((if_neg (ne_true_of_eq_false h1)).trans (if_pos hf)) s.toks)
 ·exact call_meets F.slot_str_split (typeIs_str _ _ _) F.entry_str_split (F.args_str_split_3 _ _ _) (meets_str_split_max_cannot_occur a b k t t1 t2 hk h1) (one (if_pos h1) s.toks)
end
end L2
namespace DL
open PySem PySem.Spec PyProof.Rows L2
variable{K:PySem.W.Frag}
section
variable{Z:Ent K}
@[simp] noncomputable def G9:List D->Option SV
 | [.str a,.str b,.int k]=>if(b.length==0)=false/\0<=k/\k<=1000/\a.length<=PySem.sizeLine/\(Txt.splitMax a b k).length<=PySem.sizeLine then some (.ol ((Txt.splitMax a b k).map D.str))else none
 |_=>none
theorem Zbf:N8 Z Ps G9:=by
 intro F H σ δ own vs ds sv Q s r e k
 unfold G9 at e
 split at e
 ·rename_i a b n
  split at e
  ·rename_i h
   cases e
   cases r with
   |cons h1 t=>cases t with
    |cons h2 t=>cases t with
     |cons h3 t=>cases t;exact⟨_,_,rfl,a,b,n,h1.str,by rw[h2.str,h3.int],h.1,h.2.1,h.2.2.1,h.2.2.2.1,h.2.2.2.2,fun p hp=>k.lst s (C5 _) hp⟩
  ·cases e
 ·cases e
end
section
variable{X:Cx}{Z:Ent X.K}{a b c:Expr}{fa fb fc:FE}
theorem Zbg{apos cpos:Pos}(ha:PE X a (Zb Z fa))(hb:PE X b (Zb Z fb))(hc:PE X c (Zb Z fc))(hbase:attributeBase a "split" X.env (eval a X.env)=eval a X.env:=by rfl)
  (hfew:((backTo cpos (starEach [b,c] X.env)).all (fun x=>!x.1)&&(backToKw cpos (keywordEach [] X.env)).all (fun x=>x.1.isSome)&&decide ([b,c].length+([]:List Keyword).length+(if([]:List Keyword).isEmpty then 0 else 1)<30))=true:=by rfl)
  (hline:(apos.endLine==cpos.line)=true:=by rfl) (hs:starEach [b,c] X.env=(false,eval b X.env)::starEach [c] X.env:=by rfl) (hs2:starEach [c] X.env=(false,eval c X.env)::starEach [] X.env:=by rfl) (hpl:(backTo cpos (starEach [c] X.env)).any (·.1)=false:=by rfl):
  PE X (.Call (.Attribute a "split" apos) [b,c] [] cpos) (Zb Z (bmF "str" G9 fa (Ze fb (Ze fc Zr)))):=
 (E6 PySem.F.plainAttrs_str PySem.F.slot_str_split PySem.F.type_str_split Xa ha (Zp hb (Zp hc Yx hs2) hs) hbase hfew hline hs hpl).imp fun _ _ _ h=>Zi7 Zbf h
end
end DL
namespace DL
open PySem PySem.Spec PyProof.Rows L2
variable{K:PySem.W.Frag}
section
variable{Z:Ent K}{H:Hp}{σ:L2.St}{Q:VK}{E:Ends}
theorem Zbh{F:Hp}{sv:SV}{v:V}{ns:Zg}(h:sv.scal=true)(sh:Shape K F sv v ns)(G:Hp):Rep K G sv.toD v:=by
 obtain⟨_,sh'⟩:=Rv (F':=G) h sh
 cases sh' with
 |fz r=>exact r
 |oG _ _=>exact absurd h Bool.false_ne_true
end
end DL
namespace DL
open PySem PySem.Spec PyProof.Rows L2
variable{K:PySem.W.Frag}
section
variable{Z:Ent K}{H:Hp}{σ:L2.St}{Q:VK}{E:Ends}
theorem SR.hand2 {F F' H' : Hp} {δ : Ya} {own : Nat -> Zg} {i j : Nat} {sa sb ra rb : SV} {a b : Addr} {na' nb' : Zg} (s : SR Z F H σ δ own) (hij : i ≠ j) (hi : δ[i]? = some (some sa)) (hj : δ[j]? = some (some sb)) (hvi : σ[i]? = some (some (.ref a))) (hvj : σ[j]? = some (some (.ref b)))
    (sH : Zh (Wi H (own i ++ own j)) H') (sF : Zh F F') (le' : Zh F' H') (fro' : ∀ (b : Addr) (o : HO), F' b = some o -> F b = some o \/ Wi H (own i ++ own j) b = none) (sha : Shape K F' ra (.ref a) na') (shb : Shape K F' rb (.ref b) nb') (nd : (Yi (na' ++ nb')).Nodup) (ok' : ∀ p ∈ na' ++ nb', F' p.1 = none /\ Wi H (own i ++ own j) p.1 = none /\ H' p.1 = some p.2) :
    SR Z F' H' σ ((δ.set i (some ra)).set j (some rb)) (put (put own i na') j nb') := by
  have hil : i < δ.length := (List.getElem?_eq_some_iff.mp hi).1
  have hjl : j < δ.length := (List.getElem?_eq_some_iff.mp hj).1
  have inO : ∀ c, c ∈ Yi (own i ++ own j) -> ∃ q, (q ∈ own i \/ q ∈ own j) /\ c = q.1 := fun c hc => by
    obtain ⟨q, hq, e⟩ := List.mem_map.mp hc
    exact ⟨q, List.mem_append.mp hq, e.symm⟩
  have zh : ∀ c, Wi H (own i ++ own j) c = none -> Z.h c = none := fun c hc => by
    rcases Q1 hc with z | z
    · obtain ⟨q, hq | hq, e⟩ := inO c z
      · rw [e]; exact (s.ok i q hq).2.1
      · rw [e]; exact (s.ok j q hq).2.1
    · exact s.old.free z
  have keep : ∀ l, l ≠ i -> l ≠ j -> ∀ q ∈ own l, Wi H (own i ++ own j) q.1 = some q.2 := fun l h1 h2 q hq => by
    rw [Ym fun z => ?_]
    · exact (s.ok l q hq).2.2
    · obtain ⟨r, hr | hr, e⟩ := inO _ z
      · exact s.sep l i q r h1 hq hr e
      · exact s.sep l j q r h2 hq hr e
  have ndd : (Yi na' ++ Yi nb').Nodup := by rw [<- List.map_append]; exact nd
  obtain ⟨nda, ndb, ndx⟩ := List.nodup_append.mp ndd
  have own_i : put (put own i na') j nb' i = na' := by rw [Z4 hij, Zy]
  have own_j : put (put own i na') j nb' j = nb' := Zy
  have own_o : ∀ l, l ≠ i -> l ≠ j -> put (put own i na') j nb' l = own l := fun l h1 h2 => by rw [Z4 h2, Z4 h1]
  have okl : ∀ l p, p ∈ put (put own i na') j nb' l -> F' p.1 = none /\ Z.h p.1 = none /\ H' p.1 = some p.2 := fun l p hp => by
    by_cases h1 : l = i
    · subst h1
      rw [own_i] at hp
      obtain ⟨x, y, z⟩ := ok' p (List.mem_append_left _ hp)
      exact ⟨x, zh _ y, z⟩
    · by_cases h2 : l = j
      · subst h2
        rw [own_j] at hp
        obtain ⟨x, y, z⟩ := ok' p (List.mem_append_right _ hp)
        exact ⟨x, zh _ y, z⟩
      · rw [own_o l h1 h2] at hp
        obtain ⟨y1, y2, y3⟩ := s.ok l p hp
        have hh := keep l h1 h2 p hp
        refine ⟨?_, y2, sH _ _ hh⟩
        cases z : F' p.1 with
        | none => rfl
        | some u =>
          rcases fro' _ u z with y | y
          · rw [y1] at y; cases y
          · rw [hh] at y; cases y
  have new_hole : ∀ l, (l = i \/ l = j) -> ∀ p ∈ put (put own i na') j nb' l, Wi H (own i ++ own j) p.1 = none := fun l hl p hp => by
    rcases hl with rfl | rfl
    · rw [own_i] at hp; exact (ok' p (List.mem_append_left _ hp)).2.1
    · rw [own_j] at hp; exact (ok' p (List.mem_append_right _ hp)).2.1
  refine ⟨le', fun c o e => ?_, fun c o e => ?_, by rw [List.length_set, List.length_set]; exact s.len, fun l sv e => ?_, fun l => ?_, okl, fun l m q r hlm hq hr z => ?_⟩
  · rcases fro' c o e with z | z
    · exact s.fro c o z
    · exact .inr (zh c z)
  · refine sH c o ?_
    rw [Ym fun z => ?_]
    · exact s.old c o e
    · obtain ⟨q, hq | hq, e'⟩ := inO c z
      · rw [e', (s.ok i q hq).2.1] at e; cases e
      · rw [e', (s.ok j q hq).2.1] at e; cases e
  · by_cases h2 : l = j
    · subst h2
      rw [List.getElem?_set_self (by rw [List.length_set]; exact hjl)] at e
      cases e
      rw [own_j]
      exact ⟨_, hvj, shb⟩
    · rw [List.getElem?_set_ne (Ne.symm h2)] at e
      by_cases h1 : l = i
      · subst h1
        rw [List.getElem?_set_self hil] at e
        cases e
        rw [own_i]
        exact ⟨_, hvi, sha⟩
      · rw [List.getElem?_set_ne (Ne.symm h1)] at e
        obtain ⟨v, g1, g2⟩ := s.at' l sv e
        rw [own_o l h1 h2]
        exact ⟨v, g1, g2.mono sF⟩
  · by_cases h1 : l = i
    · subst h1; rw [own_i]; exact nda
    · by_cases h2 : l = j
      · subst h2; rw [own_j]; exact ndb
      · rw [own_o l h1 h2]; exact s.nod l
  · -- apart
    by_cases a1 : l = i \/ l = j
    · by_cases b1 : m = i \/ m = j
      · rcases a1 with rfl | rfl
        · rcases b1 with rfl | rfl
          · exact hlm rfl
          · rw [own_i] at hq; rw [own_j] at hr
            exact ndx q.1 (List.mem_map.mpr ⟨q, hq, rfl⟩) r.1 (List.mem_map.mpr ⟨r, hr, rfl⟩) z
        · rcases b1 with rfl | rfl
          · rw [own_j] at hq; rw [own_i] at hr
            exact ndx r.1 (List.mem_map.mpr ⟨r, hr, rfl⟩) q.1 (List.mem_map.mpr ⟨q, hq, rfl⟩) z.symm
          · exact hlm rfl
      · have h := new_hole l a1 q hq
        rw [own_o m (fun y => b1 (.inl y)) (fun y => b1 (.inr y))] at hr
        rw [z, keep m (fun y => b1 (.inl y)) (fun y => b1 (.inr y)) r hr] at h
        cases h
    · rw [own_o l (fun y => a1 (.inl y)) (fun y => a1 (.inr y))] at hq
      by_cases b1 : m = i \/ m = j
      · have h := new_hole m b1 r hr
        rw [<- z, keep l (fun y => a1 (.inl y)) (fun y => a1 (.inr y)) q hq] at h
        cases h
      · rw [own_o m (fun y => b1 (.inl y)) (fun y => b1 (.inr y))] at hr
        exact s.sep l m q r hlm hq hr z
end
end DL
namespace DL
open PySem PySem.Spec PyProof.Rows L2
variable{K:PySem.W.Frag}
@[simp] noncomputable def icy(δ:Ya):Ya:=δ.map (Option.map fun sv=>.fz sv.toD)
noncomputable def Jr(own:Nat->Zg)(δ:Ya)(b:Addr):Prop:=∃i sv p,δ[i]? =some (some sv)/\p∈own i/\p.1=b
end DL
namespace DL
open PySem PySem.Spec PyProof.Rows L2
noncomputable abbrev AtF(K:PySem.W.Frag)(x:Str)(st:Stmt)(f:Addr)(fd:FuncData):Prop:=PySem.W.nsIn K mainGlobals x=some (some (.ref f))/\Fun K x x st f fd
noncomputable abbrev Xu(K:PySem.W.Frag)(mg:Str->Option Value):Prop:=∀{x:Str} {v:Value},PySem.W.nsIn K mainGlobals x=some (some v)->mg x=some v
noncomputable def Sv(P:Program)(w:World)(K:PySem.W.Frag)(mg:Str->Option Value)(base:Heap)(CX:Nt)(k:Nat)(x:Str)(ps:List Str)(sp:Sp):Prop:=
 ∃f fd,FnOk P w K mg base CX k f fd ps sp/\mg x=some (.ref f)/\PySem.W.keepIn K (.ref f)=true/\Qf K fd ps []
structure Sc(x:Str)(st:Stmt)(n:Nat)(N:List Str):Prop where
 S:FnScope N (N.take n) (Zv st)
 B:∀(kV doc pm:Value) (an:Option Addr) (cdv ct:Value) (us:List Value),us.length=(N.take n).length->bindArgs (PySem.W.fnOf x x (Uq st) (W0 st) (Zv st) .none kV doc pm an cdv ct) ⟨us,[]⟩=pure ((N.take n).zip us)
 n:n=(N.take n).length
noncomputable abbrev HB(P:Program)(w:World)(K:PySem.W.Frag)(mg:Str->Option Value)(base:Heap)(N:List Str)(x:Str)(st:Stmt)(f:Addr)(k:Nat)(p:Hp->Prop)(f0:FS)(cdv:Value):Prop:=
 ∀{A:Around} {outer:List Env} {s:Shared} {H F0:Hp} {E:XK},N.Nodup->p H->Room k (A.deeper (envOfC x (Zv st) s.heap.objs.size f cdv))->(A.deeper (envOfC x (Zv st) s.heap.objs.size f cdv)).units+1<cLine->(A.deeper (envOfC x (Zv st) s.heap.objs.size f cdv)).units+64<cLine->
  Ob (O7 Cw P w K mg base N x (Zv st) f cdv A outer s H E).nox (W0 st) (Zq (ent H F0:Ent K) f0)
section
variable{P:Program}{w:World}{K:PySem.W.Frag}{mg:Str->Option Value}{base:Heap}{x:Str}{st:Stmt}{f:Addr}{fd:FuncData}
theorem ok0(a:AtF K x st f fd)(k n:Nat)(N:List Str)(g:List D->Option SV)(f0:FS)(hb:∀{cdv:Value},HB P w K mg base N x st f k (fun _=>True) f0 cdv)
  (S:Sc x st n N:=by exact⟨⟨rfl,rfl,rfl,by decide+kernel,rfl,by decide+kernel,by decide+kernel⟩,by first|exact fun _ _ _ _ _ _ us hl=>of1 (fun _=>rfl) us hl|exact fun _ _ _ _ _ _ us hl=>of2 (fun _ _=>rfl) us hl|exact fun _ _ _ _ _ _ us hl=>of3 (fun _ _ _=>rfl) us hl|exact fun _ _ _ _ _ _ us hl=>of4 (fun _ _ _ _=>rfl) us hl|exact fun _ _ _ _ _ _ us hl=>of5 (fun _ _ _ _ _=>rfl) us hl,rfl⟩)
  (hg:g=Qb f0 N.length:=by rfl):FnOk P w K mg base Cw (k+1) f fd (N.take n) (Qy K n g):=by
 subst hg
 exact a.2.ok S.S (fun _ _ _ _ h=>(D7 h).trans S.n) fun cdv A outer s H vs Q E hr h=>by
  obtain⟨F0,h⟩:=Zal (N:=N) (f:=f0) h
  exact⟨_,hb S.S.nd trivial hr (Dq hr) hr.units,h⟩
theorem Pt(u:Xu K mg)(a:∃f fd,AtF K x st f fd)(k n:Nat)(N:List Str)(g:List D->Option SV)(f0:FS)(hb:∀{f:Addr} {cdv:Value},HB P w K mg base N x st f k (fun _=>True) f0 cdv)
  (S:Sc x st n N:=by exact⟨⟨rfl,rfl,rfl,by decide+kernel,rfl,by decide+kernel,by decide+kernel⟩,by first|exact fun _ _ _ _ _ _ us hl=>of1 (fun _=>rfl) us hl|exact fun _ _ _ _ _ _ us hl=>of2 (fun _ _=>rfl) us hl|exact fun _ _ _ _ _ _ us hl=>of3 (fun _ _ _=>rfl) us hl|exact fun _ _ _ _ _ _ us hl=>of4 (fun _ _ _ _=>rfl) us hl|exact fun _ _ _ _ _ _ us hl=>of5 (fun _ _ _ _ _=>rfl) us hl,rfl⟩)
  (hg:g=Qb f0 N.length:=by rfl):Sv P w K mg base Cw (k+1) x (N.take n) (Qy K n g):=by
 obtain⟨f,fd,a⟩:=a
 exact⟨f,fd,ok0 a k n N g f0 hb S hg,u a.1,a.2.kp,a.2.binds S.B⟩
variable{tq:Addr}{q:Str}{c:Addr}
theorem Ze7{p:Str}(F:Fun K x x st f fd)(h:∀(kV doc pm:Value) (an:Option Addr) (cdv ct v:Value),bindArgs (PySem.W.fnOf x x (Uq st) (W0 st) (Zv st) .none kV doc pm an cdv ct) ⟨[v],[]⟩=pure [(p,v)])(s:Shared)(v:Value):BindsTo s fd ⟨[v],[]⟩ [(p,v)]:=by
 obtain⟨oc,od,kV,doc,pm,an,cdv,ct,osl,rfl,lk,hcd⟩:=F.ex
 exact .of_eq (h kV doc pm an cdv ct v)
end
section
variable{X:Cx}{Z:Ent X.K}{a:Expr}{pos:Pos}{k j n:Nat}{ps:List Str}{x:Str}{p:Pos}{es:List Expr}
theorem Pu{y:Str}(u:Xu X.K X.mg)(h:∃t,PySem.W.nsIn X.K mainGlobals x=some (some (.str y t)))(hg:Gl X x:=by rfl)(hd:(x==("__debug__":Str))=false:=by decide):PE X (.Name x pos) (Zb Z (Zd (.str y))):=let⟨_,h⟩:=h;Zd4 (u h) hg hd
theorem Pv{y:Int}(u:Xu X.K X.mg)(h:∃t,PySem.W.nsIn X.K mainGlobals x=some (some (.int y t)))(hg:Gl X x:=by rfl)(hd:(x==("__debug__":Str))=false:=by decide):PE X (.Name x pos) (Zb Z (Zd (.int y))):=let⟨_,h⟩:=h;Zd5 (u h) hg hd
theorem Yu{g:List D->Option SV}{fr:FA}(S:Sv X.prog X.w X.K X.mg X.base Cw k x ps (Qy X.K n g))(hr:Room j X.A)(ha:PA X (a::es) (Jo Z fr))(hj:k<=j:=by decide)(hg:Gl X x:=by rfl)(hdb:(x==("__debug__":Str))=false:=by decide)(he:starEach (a::es) X.env=(false,eval a X.env)::starEach es X.env:=by rfl)(hpl:(backTo pos (starEach es X.env)).any (·.1)=false:=by rfl):
  PE X (.Call (.Name x p) (a::es) [] pos) (Zb Z (Y6 n g fr)):=
 let⟨_,_,a,b,c,d⟩:=S;Zjb a (hr.mono hj) b c d ha hg hdb he hpl
end
section
variable{X:Cx}{Z:Ent X.K}{pos:Pos}{scope:Scope}{src:List BSrc}{k:Nat}{tg elt iter:Expr}{ifs:List Expr}{fi:FD}{g:FG}{tt:FT}{te:FE}
theorem Zjv(N':List Str)(hi:PI X tg iter (Oj Z fi))(hg:∀{C:Addr} {s₀:Shared} {H₀:Hp} {ex:List Addr} {Y:Ent X.K},N'.Nodup->PG (X.block N' scope C s₀ H₀ ex) tg (U8 Y g))(ht:∀{C:Addr} {s₀:Shared} {H₀:Hp} {ex:List Addr},PTs (X.block N' scope C s₀ H₀ ex) ifs (xT X.K tt))(he:∀{C:Addr} {s₀:Shared} {H₀:Hp} {ex:List Addr} {Y:Ent X.K},PE (X.block N' scope C s₀ H₀ ex) elt (Zb Y te))
  (hc:X.calm=true:=by rfl) (S:CompScope X N' scope src:=by exact V0 (by rfl) (by rfl) (by rfl) (by rfl) (by rfl) (by rfl)) (So:SrcOk src k:=by exact Znc _ (by rfl) (by rfl)) (nd:N'.Nodup:=by decide+kernel) (hk:k∉g.tch:=by decide) (hs:∀x,foldedSetIterable iter X.env x=pure x:=by intro _;rfl):PE X (.ListComp elt [⟨tg,iter,ifs,0⟩] scope pos) (Zb Z (N4 src k fi g tt te)):=
 Zjf hc S So hk hi (fun _ _ _ _=>xg fun _=>hg nd) (fun _ _ _ _=>ht) (fun _ _ _ _=>xe fun _=>he) hs
end
theorem Zjw{g:List D->Option SV}{K:PySem.W.Frag}{H:Hp}{a:Addr}{ns:List Int}(hn:g [.lst (ns.map D.int)]=some (.fz (.bl true)))(hS:Of K H a (ns.map V.int)):Qy K 1 g [.ref a] H (fun v H'=>v= .bl true/\Zh H H') fun _ _ _=>False:=by
 refine⟨H,[.lst (ns.map D.int)],.fz (.bl true),Zh.refl H,.cons (.lst hS (.inr fun d hd=>let⟨i,_,e⟩:=List.mem_map.mp hd;⟨i,e.symm⟩) (Iu ns)) .nil,rfl,hn,fun v H' F' ms sm _ _ _ sh _ _=>?_⟩
 cases Ja sh
 exact⟨rfl,sm⟩
noncomputable abbrev Zn1(l:PySem.W.OpenLaw)(x:Str)(k:Nat)(g:List D->Option SV)(K:PySem.W.Frag)(w:World)(mg:Str->Option Value)(fa:Addr):Prop:=
 ∃fd:FuncData,(∀(s:Shared) (u:Value),BindsTo s fd ⟨[u],[]⟩ [(x,u)])/\∀base:Heap,K.In base->base.Ns mainGlobals mg->FnOk l.prog w K mg base Cw k fa fd [x] (Qy K 1 g)
theorem Zn2{l:PySem.W.OpenLaw}{x:Str}{k:Nat}{g:List D->Option SV}{q:Program}{loose:List Str}{XP:(Str->Option Value)->Heap->Prop}{YP:World->Heap->Prop}{d:DefRec}{K:Params->PySem.W.Frag}(hn:l.most=some 63)(hdf:d.params.defaults=[])
  (hY:∀(w:World) (h:Heap),YP w h->(K w.params).In h) (hr:Room k callerA)
  (hlaw:∀ns:List Int,ns.length<=63->g [.lst (ns.map D.int)]=some (.fz (.bl true)))
  (F:∀(w:World) (mg:Str->Option Value) (fa:Addr) (h:Heap),(K w.params).In h->h.Ns mainGlobals mg->mg d.name=some (.ref fa)->Zn1 l x k g (K w.params) w mg fa):
  PySem.W.WalkO q loose XP YP l.row.toRowW d [] (fun f vs=>PySem.call f vs):=
 L2.Dp (n:=63) (CX:=Cw) (sp:=fun K=>Qy K 1 g) hn (by decide) hdf hr hY F (fun _ _ _ ns hl hO hS=>by
  obtain⟨F0,ds,sv,a,b,c,d,e⟩:=Zjw (hlaw ns hl) hS
  exact⟨F0,ds,sv,a,b,c,d,fun v H' F' own z1 z2 z3 z4 z5 z6 z7=>(e v H' F' own z1 z2 z3 z4 z5 z6 z7).1⟩) fun _ _ _ _ z=>z
end DL
namespace DL
open PySem PySem.Spec PyProof.Rows L2
noncomputable abbrev HBX(P:Program)(w:World)(K:PySem.W.Frag)(mg:Str->Option Value)(base:Heap)(N:List Str)(x:Str)(st:Stmt)(f:Addr)(k:Nat)(f0:FS)(cdv:Value):Prop:=
 ∀{A:Around} {outer:List Env} {s:Shared} {H F0:Hp} {E:XK},N.Nodup->True->Room k (A.deeper (envOfC x (Zv st) s.heap.objs.size f cdv))->(A.deeper (envOfC x (Zv st) s.heap.objs.size f cdv)).units+1<cLine->(A.deeper (envOfC x (Zv st) s.heap.objs.size f cdv)).units+64<cLine->
  Ob (O7 (Oc P w) P w K mg base N x (Zv st) f cdv A outer s H E) (W0 st) (Zq (entX H F0 E:Ent K) f0)
section
variable{P:Program}{w:World}{K:PySem.W.Frag}{mg:Str->Option Value}{base:Heap}{x:Str}{st:Stmt}{f:Addr}{fd:FuncData}
theorem Zqo(u:Xu K mg)(a:∃f fd,AtF K x st f fd)(k n:Nat)(N:List Str)(g:List D->Option XO)(f0:FS)(hb:∀{f:Addr} {cdv:Value},HBX P w K mg base N x st f k f0 cdv)
  (S:Sc x st n N:=by exact⟨⟨rfl,rfl,rfl,by decide+kernel,rfl,by decide+kernel,by decide+kernel⟩,by first|exact fun _ _ _ _ _ _ us hl=>of1 (fun _=>rfl) us hl|exact fun _ _ _ _ _ _ us hl=>of2 (fun _ _=>rfl) us hl|exact fun _ _ _ _ _ _ us hl=>of3 (fun _ _ _=>rfl) us hl|exact fun _ _ _ _ _ _ us hl=>of4 (fun _ _ _ _=>rfl) us hl|exact fun _ _ _ _ _ _ us hl=>of5 (fun _ _ _ _ _=>rfl) us hl,rfl⟩)
  (hg:g=Zez f0 N.length:=by rfl):Sv P w K mg base (Oc P w) (k+1) x (N.take n) (spX K n g):=by
 obtain⟨f,fd,a⟩:=a
 refine⟨f,fd,?_,u a.1,a.2.kp,a.2.binds S.B⟩
 subst hg
 exact Fun.okX a.2 S.S (fun _ _ _ _ h=>(Zey h).trans S.n) fun cdv A outer s H vs Q E hr h=>by
  obtain⟨F0,h⟩:=V7 (N:=N) (f:=f0) h
  exact⟨_,hb S.S.nd trivial hr (Dq hr) hr.units,h⟩
end
section
variable{X:Cx}{Z:Ent X.K}{a:Expr}{pos:Pos}{k j n:Nat}{ps:List Str}{x:Str}{p:Pos}{es:List Expr}
theorem Ra{g:List D->Option XO}{fr:FAX}(S:Sv X.prog X.w X.K X.mg X.base (Oc X.prog X.w) k x ps (spX X.K n g))(hr:Room j X.A)(th:Ub X Z.x)(ha:PA X (a::es) (Uw Z fr))(hj:k<=j:=by decide)(hg:Gl X x:=by rfl)(hdb:(x==("__debug__":Str))=false:=by decide)(he:starEach (a::es) X.env=(false,eval a X.env)::starEach es X.env:=by rfl)(hpl:(backTo pos (starEach es X.env)).any (·.1)=false:=by rfl):
  PE X (.Call (.Name x p) (a::es) [] pos) (Qc Z (Po n g fr)):=
 let⟨_,_,a,b,c,d⟩:=S;Zjp a (hr.mono hj) b c d th ha hg hdb he hpl
end
end DL
namespace DL
open PySem PySem.Spec PyProof.Rows L2
variable{K:PySem.W.Frag}
inductive Stp where
 |k (k:Key)|i (n:Nat)|f (c x:Str)
section
variable{κ:Type}[DecidableEq κ]
@[simp] noncomputable def Qx:List κ->List Tr->κ->Option Tr
 |k0::ks,t::ts,k=>if k0=k then some t else Qx ks ts k
 |_,_,_=>none
@[simp] noncomputable def Ci:List κ->List Tr->κ->Tr->List Tr
 |k0::ks,t0::ts,k,t=>if k0=k then t::ts else t0::Ci ks ts k t
 |_,ts,_,_=>ts
@[simp] noncomputable def Fe:List κ->List Tr->κ->List Tr
 |k0::ks,t0::ts,k=>if k0=k then ts else t0::Fe ks ts k
 |_,ts,_=>ts
@[simp] noncomputable def Bf:List κ->κ->List κ
 |k0::ks,k=>if k0=k then ks else k0::Bf ks k
 | [],_=>[]
@[simp] noncomputable def Wj(ks:List κ)(ts:List Tr)(k:κ):Option (List κ×List Tr):=if k∈ks then some (Bf ks k,Fe ks ts k)else none
theorem T5{k:κ}:∀ks:List κ,(Bf ks k).Sublist ks
 | []=>.slnil
 |k0::ks=>by
  show(if k0=k then ks else k0::Bf ks k).Sublist (k0::ks)
  split
  ·exact List.sublist_cons_self _ _
  ·exact(T5 ks).cons₂ _
theorem Zbi{F:Hp}{k:κ}:∀{kvs:List (κ×V)} {ts:List Tr} {ns:Zg} {t:Tr},TrsOk K F ts (kvs.map (·.2)) ns->Qx (kvs.map (·.1)) ts k=some t->
  ∃v n1 nt n2,W8 kvs k=some v/\ns=n1++(nt++n2)/\TrOk K F t v nt/\∀F' t' nt',Zh F F'->TrOk K F' t' v nt'->TrsOk K F' (Ci (kvs.map (·.1)) ts k t') (kvs.map (·.2)) (n1++(nt'++n2)):=by
 intro kvs
 induction kvs with
 |nil=>intro ts ns t r h;cases r;cases h
 |cons p kvs ih=>
  intro ts ns t r h
  cases r with
  | @cons t0 _ ts _ n1 n2 h0 r=>
   have h:(if p.1=k then some t0 else Qx (kvs.map (·.1)) ts k)=some t:=h
   by_cases e:p.1=k
   ·rw[if_pos e]at h;cases h
    refine⟨p.2,[],n1,n2,Q6 e,rfl,h0,fun F' t' nt' s h'=>?_⟩
    show TrsOk K F' (if p.1=k then t'::ts else _) (p.2::kvs.map (·.2)) (nt'++n2)
    rw[if_pos e]
    exact .cons h' (r.mono s)
   ·rw[if_neg e]at h
    obtain⟨v,m1,nt,m2,e1,e2,h1,k1⟩:=ih r h
    refine⟨v,n1++m1,nt,m2,by rw[Q7 e];exact e1,by rw[e2,List.append_assoc],h1,fun F' t' nt' s h'=>?_⟩
    show TrsOk K F' (if p.1=k then t'::ts else t0::Ci (kvs.map (·.1)) ts k t') (p.2::kvs.map (·.2)) (n1++m1++(nt'++m2))
    rw[if_neg e,List.append_assoc]
    exact .cons (h0.mono s) (k1 F' t' nt' s h')
theorem Zbj{F:Hp}:∀{vs:List V} {ts:List Tr} {ns:Zg} {n:Nat} {t:Tr},TrsOk K F ts vs ns->ts[n]? =some t->
  ∃v n1 nt n2,vs[n]? =some v/\ns=n1++(nt++n2)/\TrOk K F t v nt/\∀F' t' nt',Zh F F'->TrOk K F' t' v nt'->TrsOk K F' (ts.set n t') vs (n1++(nt'++n2)):=by
 intro vs
 induction vs with
 |nil=>intro ts ns n t r h;cases r;cases h
 |cons v0 vs ih=>
  intro ts ns n t r h
  cases r with
  | @cons t0 _ ts _ n1 n2 h0 r=>
   cases n with
   |zero=>cases h;exact⟨v0,[],n1,n2,rfl,rfl,h0,fun F' t' nt' s h'=>TrsOk.cons (n1:=nt') h' (r.mono s)⟩
   |succ n=>
    obtain⟨v,m1,nt,m2,e1,e2,h1,k1⟩:=ih r h
    refine⟨v,n1++m1,nt,m2,e1,by rw[e2,List.append_assoc],h1,fun F' t' nt' s h'=>?_⟩
    rw[List.append_assoc]
    exact .cons (h0.mono s) (k1 F' t' nt' s h')
theorem TrsOk.length{F:Hp}:∀{ts:List Tr} {vs:List V} {ns:Zg},TrsOk K F ts vs ns->ts.length=vs.length:=by
 intro ts
 induction ts with
 |nil=>intro vs ns r;cases r;rfl
 |cons t ts ih=>intro vs ns r;cases r with|cons h r=>exact congrArg (· +1) (ih r)
theorem TrsOk.snoc{F:Hp}{t:Tr}{v:V}{nt:Zg}(h:TrOk K F t v nt):∀{ts:List Tr} {vs:List V} {ns:Zg},TrsOk K F ts vs ns->TrsOk K F (ts++[t]) (vs++[v]) (ns++nt):=by
 intro ts
 induction ts with
 |nil=>
  intro vs ns r;cases r
  have:=TrsOk.cons h .nil
  rw[List.append_nil]at this;exact this
 |cons t0 ts ih=>
  intro vs ns r
  cases r with
  |cons h0 r=>rw[List.append_assoc];exact .cons h0 (ih r)
theorem Ff{k:κ}{v:V}:∀{kvs:List (κ×V)},k∉kvs.map (·.1)->(kvs.map fun kv=>if kv.1=k then(kv.1,v)else kv)=kvs
 | [],_=>rfl
 |p::r,h=>by
  have h1:p.1≠k:=fun e=>h (by rw[<-e];exact List.mem_cons_self)
  rw[List.map_cons,if_neg h1,Ff fun z=>h (List.mem_cons_of_mem _ z)]
theorem Q2{k:κ}:∀{kvs:List (κ×V)},(W8 kvs k).isSome=true↔k∈kvs.map (·.1)
 | []=>by simp[W8]
 |p::r=>by
  by_cases e:p.1=k
  ·rw[Q6 e];simp[e]
  ·rw[Q7 e,Q2 (kvs:=r)]
   simp[Ne.symm e]
theorem Zjx{F:Hp}{k:κ}{v':V}{t':Tr}{nt':Zg}:∀{kvs:List (κ×V)} {ts:List Tr} {ns:Zg},(kvs.map (·.1)).Nodup->k∈kvs.map (·.1)->TrsOk K F ts (kvs.map (·.2)) ns->TrOk K F t' v' nt'->
  ∃n1 nt n2,ns=n1++(nt++n2)/\TrsOk K F (Ci (kvs.map (·.1)) ts k t') ((kvs.map fun kv=>if kv.1=k then(kv.1,v')else kv).map (·.2)) (n1++(nt'++n2)):=by
 intro kvs
 induction kvs with
 |nil=>intro ts ns nd h;exact nomatch h
 |cons p kvs ih=>
  intro ts ns nd h r h'
  obtain⟨Tq,nd2⟩:=List.nodup_cons.mp nd
  cases r with
  | @cons t0 _ ts _ n1 n2 h0 r=>
   by_cases e:p.1=k
   ·refine⟨[],n1,n2,rfl,?_⟩
    show TrsOk K F (if p.1=k then t'::ts else _) ((if p.1=k then(p.1,v')else p).2::(kvs.map fun kv=>if kv.1=k then(kv.1,v')else kv).map (·.2)) (nt'++n2)
    rw[if_pos e,if_pos e,Ff (e▸Tq)]
    exact .cons h' r
   ·obtain⟨m1,nt,m2,e2,k1⟩:=ih nd2 ((List.mem_cons.mp h).resolve_left fun z=>e z.symm) r h'
    refine⟨n1++m1,nt,m2,by rw[e2,List.append_assoc],?_⟩
    show TrsOk K F (if p.1=k then t'::ts else t0::Ci (kvs.map (·.1)) ts k t') ((if p.1=k then(p.1,v')else p).2::(kvs.map fun kv=>if kv.1=k then(kv.1,v')else kv).map (·.2)) (n1++m1++(nt'++m2))
    rw[if_neg e,if_neg e,List.append_assoc]
    exact .cons h0 k1
theorem Xb{k:κ}{v:V}(kvs:List (κ×V)):(kvs.map fun kv=>if kv.1=k then(kv.1,v)else kv).map (·.1)=kvs.map (·.1):=by
 rw[List.map_map]
 refine List.map_congr_left fun p _=>?_
 show(if p.1=k then(p.1,v)else p).1=p.1
 split<;> rfl
@[simp] noncomputable def Ux(ks:List κ)(ts:List Tr)(k:κ)(t:Tr):List κ×List Tr:=if k∈ks then(ks,Ci ks ts k t)else(ks++[k],ts++[t])
theorem Ze8{F:Hp}{k:κ}{v':V}{t':Tr}{nt':Zg}{kvs:List (κ×V)}{ts:List Tr}{ns:Zg}(nd:(kvs.map (·.1)).Nodup)(r:TrsOk K F ts (kvs.map (·.2)) ns)(h':TrOk K F t' v' nt'):
  ∃n1 nt n2,ns=n1++(nt++n2)/\(Qp kvs k v').map (·.1)=(Ux (kvs.map (·.1)) ts k t').1/\(Ux (kvs.map (·.1)) ts k t').1.Nodup/\TrsOk K F (Ux (kvs.map (·.1)) ts k t').2 ((Qp kvs k v').map (·.2)) (n1++(nt'++n2)):=by
 unfold Qp Ux
 rw[B6]
 by_cases h:k∈kvs.map (·.1)
 ·rw[if_pos (Q2.mpr h),if_pos h]
  obtain⟨n1,nt,n2,e,q⟩:=Zjx nd h r h'
  exact⟨n1,nt,n2,e,Xb kvs,nd,q⟩
 ·rw[if_neg fun z=>h (Q2.mp z),if_neg h]
  refine⟨ns,[],[],by simp,by simp,?_,?_⟩
  ·rw[List.nodup_append]
   exact⟨nd,by simp,fun a ha b hb z=>h (by rw[<-List.mem_singleton.mp hb,<-z];exact ha)⟩
  ·rw[List.map_append,List.append_nil]
   exact r.snoc h'
theorem Fg{k:κ}:∀{kvs:List (κ×V)},k∉kvs.map (·.1)->Jm kvs k=kvs
 | [],_=>rfl
 |p::r,h=>by
  have h1:p.1≠k:=fun e=>h (by rw[<-e];exact List.mem_cons_self)
  show(p::r).filter _=p::r
  rw[List.filter_cons_of_pos (by exact decide_eq_true h1)]
  exact congrArg (p:: ·) (Fg fun z=>h (List.mem_cons_of_mem _ z))
theorem Zbk{F:Hp}{k:κ}:∀{kvs:List (κ×V)} {ts:List Tr} {ns:Zg},(kvs.map (·.1)).Nodup->TrsOk K F ts (kvs.map (·.2)) ns->
  ∃n1 nt n2,ns=n1++(nt++n2)/\(Jm kvs k).map (·.1)=Bf (kvs.map (·.1)) k/\TrsOk K F (Fe (kvs.map (·.1)) ts k) ((Jm kvs k).map (·.2)) (n1++n2):=by
 intro kvs
 induction kvs with
 |nil=>intro ts ns nd r;cases r;exact⟨[],[],[],rfl,rfl,.nil⟩
 |cons p kvs ih=>
  intro ts ns nd r
  obtain⟨Tq,nd2⟩:=List.nodup_cons.mp nd
  cases r with
  | @cons t0 _ ts _ n1 n2 h0 r=>
   by_cases e:p.1=k
   ·have e2:Jm (p::kvs) k=kvs:=by
     show(p::kvs).filter _=kvs
     rw[List.filter_cons_of_neg (by simp[e])]
     exact Fg (e▸Tq)
    refine⟨[],n1,n2,rfl,by rw[e2,List.map_cons];show _=if p.1=k then kvs.map (·.1)else _;rw[if_pos e],?_⟩
    rw[e2]
    show TrsOk K F (if p.1=k then ts else _) _ n2
    rw[if_pos e];exact r
   ·have e2:Jm (p::kvs) k=p::Jm kvs k:=by
     show(p::kvs).filter _=p::kvs.filter _
     rw[List.filter_cons_of_pos (by exact decide_eq_true e)]
    obtain⟨m1,nt,m2,e3,e4,k1⟩:=ih nd2 r
    refine⟨n1++m1,nt,m2,by rw[e3,List.append_assoc],?_,?_⟩
    ·rw[e2,List.map_cons,List.map_cons,e4];show _=if p.1=k then _ else p.1::Bf (kvs.map (·.1)) k;rw[if_neg e]
    ·rw[e2]
     show TrsOk K F (if p.1=k then ts else t0::Fe (kvs.map (·.1)) ts k) (p.2::(Jm kvs k).map (·.2)) (n1++m1++m2)
     rw[if_neg e,List.append_assoc]
     exact .cons h0 k1
end
theorem Bt{x:Str}:∀fvs:List (Str×V),fvs.lookup x=W8 fvs x
 | []=>rfl
 |p::r=>by
  by_cases e:p.1=x
  ·rw[Q6 e]
   show(match x==p.1 with|true=>some p.2|false=>r.lookup x)=_
   rw[show(x==p.1)=true by rw[e];exact BEq.rfl]
  ·rw[Q7 e,<-Bt r]
   show(match x==p.1 with|true=>some p.2|false=>r.lookup x)=_
   rw[show(x==p.1)=false from beq_eq_false_iff_ne.mpr fun z=>e z.symm]
@[simp] noncomputable def Tr.sub:Tr->Stp->Option Tr
 | .dc ks ts,.k k=>Qx ks ts k
 | .tp ts,.i n=>ts[n]?
 | .ls ts,.i n=>ts[n]?
 | .ob c fs ts,.f c' x=>if c=c' then Qx fs ts x else none
 |_,_=>none
@[simp] noncomputable def Tr.upd1:Tr->Stp->Tr->Tr
 | .dc ks ts,.k k,t=>.dc ks (Ci ks ts k t)
 | .tp ts,.i n,t=>.tp (ts.set n t)
 | .ls ts,.i n,t=>.ls (ts.set n t)
 | .ob c fs ts,.f _ x,t=>.ob c fs (Ci fs ts x t)
 |t0,_,_=>t0
@[simp] noncomputable def Tr.at'(t:Tr):List Stp->Option Tr
 | []=>some t
 |s::p=>(t.sub s).bind fun u=>u.at' p
@[simp] noncomputable def Tr.up(t:Tr):List Stp->Tr->Tr
 | [],u=>u
 |s::p,u=>match t.sub s with
  |some c=>t.upd1 s (c.up p u)
  |none=>t
noncomputable def Wk(K:PySem.W.Frag)(H:Hp)(v:V):Stp->V->Prop
 | .k k,w=>∃a kvs ep,v= .ref a/\H a=some (.dK kvs ep)/\W8 kvs k=some w
 | .i n,w=>∃a vs,v= .ref a/\(H a=some (.tup vs)\/H a=some (.lst vs))/\vs[n]? =some w
 | .f c x,w=>∃a C dx fvs,v= .ref a/\H a=some (.ins C dx fvs)/\Yf K c C/\fvs.lookup x=some w
noncomputable def Xv(K:PySem.W.Frag)(H:Hp)(v:V):List Stp->V->Prop
 | [],w=>w=v
 |s::p,w=>∃u,Wk K H v s u/\Xv K H u p w
theorem Wk.mono{H H':Hp}(s:Zh H H'){v w:V}{st:Stp}(h:Wk K H v st w):Wk K H' v st w:=by
 cases st with
 |k k=>obtain⟨a,kvs,ep,e,h,q⟩:=h;exact⟨a,kvs,ep,e,s _ _ h,q⟩
 |i n=>obtain⟨a,vs,e,h,q⟩:=h;exact⟨a,vs,e,h.imp (s _ _) (s _ _),q⟩
 |f c x=>obtain⟨a,C,dx,fvs,e,h,c,q⟩:=h;exact⟨a,C,dx,fvs,e,s _ _ h,c,q⟩
theorem Xv.mono{H H':Hp}(s:Zh H H'){w:V}{p:List Stp}:∀{v:V},Xv K H v p w->Xv K H' v p w:=by
 induction p with
 |nil=>exact fun h=>h
 |cons st p ih=>exact fun⟨u,a,b⟩=>⟨u,a.mono s,ih b⟩
theorem Wk.one{H:Hp}{v w w':V}{st:Stp}(h:Wk K H v st w)(h':Wk K H v st w'):w=w':=by
 cases st with
 |k k=>
  obtain⟨a,kvs,ep,e,h,q⟩:=h
  obtain⟨a',kvs',ep',e',h',q'⟩:=h'
  subst e;cases e';rw[h]at h';cases h';rw[q]at q';exact Option.some.inj q'
 |i n=>
  obtain⟨a,vs,e,h,q⟩:=h
  obtain⟨a',vs',e',h',q'⟩:=h'
  subst e;cases e'
  have:vs=vs':=by
   rcases h with h|h<;> rcases h' with h'|h'<;> rw[h]at h'<;> first|exact(HO.tup.inj (Option.some.inj h'))|exact(HO.lst.inj (Option.some.inj h'))|cases h'
  subst this
  rw[q]at q';exact Option.some.inj q'
 |f c x=>
  obtain⟨a,C,dx,fvs,e,h,_,q⟩:=h
  obtain⟨a',C',dx',fvs',e',h',_,q'⟩:=h'
  subst e;cases e';rw[h]at h';cases h';rw[q]at q';exact Option.some.inj q'
theorem Xv.one{H:Hp}{w w':V}{p:List Stp}:∀{v:V},Xv K H v p w->Xv K H v p w'->w=w':=by
 induction p with
 |nil=>intro v h h';exact h.trans h'.symm
 |cons st p ih=>
  intro v ⟨u,a,b⟩ ⟨u',a',b'⟩
  cases a.one a'
  exact ih b b'
theorem Xv.snoc{H:Hp}{w:V}{st:Stp}{p:List Stp}:∀{v:V},Xv K H v (p++[st]) w->∃u,Xv K H v p u/\Wk K H u st w:=by
 induction p with
 |nil=>intro v ⟨u,a,b⟩;cases b;exact⟨v,rfl,a⟩
 |cons s0 p ih=>
  intro v ⟨u,a,b⟩
  obtain⟨u',c,d⟩:=ih b
  exact⟨u',⟨u,a,c⟩,d⟩
theorem TrOk.step{F H:Hp}{t u:Tr}{v:V}{ns:Zg}{st:Stp}(h:TrOk K F t v ns)(le:Zh F H)(hn:∀p∈ns,H p.1=some p.2)(e:t.sub st=some u):
  ∃w n1 nu n2,Wk K H v st w/\ns=n1++(nu++n2)/\TrOk K F u w nu/\∀F' u' nu',Zh F F'->TrOk K F' u' w nu'->TrOk K F' (t.upd1 st u') v (n1++(nu'++n2)):=by
 cases h with
 |lf h=>cases st<;> cases e
 | @dc a ks ts kvs ns ep nd ek r=>
  cases st with
  |k k=>
   subst ek
   obtain⟨w,n1,nt,n2,e1,e2,h1,k1⟩:=Zbi (k:=k) r e
   exact⟨w,(a,.dK kvs ep)::n1,nt,n2,⟨a,kvs,ep,rfl,hn _ List.mem_cons_self,e1⟩,by rw[e2];rfl,h1,fun F' u' nu' s h'=>.dc nd rfl (k1 F' u' nu' s h')⟩
  |i n=>cases e
  |f c x=>cases e
 | @tp a ts vs ns h r=>
  cases st with
  |k k=>cases e
  |i n=>
   obtain⟨w,n1,nt,n2,e1,e2,h1,k1⟩:=Zbj r e
   exact⟨w,n1,nt,n2,⟨a,vs,rfl,.inl (le _ _ h),e1⟩,e2,h1,fun F' u' nu' s h'=>.tp (s _ _ h) (k1 F' u' nu' s h')⟩
  |f c x=>cases e
 | @ls a ts vs ns r=>
  cases st with
  |k k=>cases e
  |i n=>
   obtain⟨w,n1,nt,n2,e1,e2,h1,k1⟩:=Zbj r e
   exact⟨w,(a,.lst vs)::n1,nt,n2,⟨a,vs,rfl,.inr (hn _ List.mem_cons_self),e1⟩,by rw[e2];rfl,h1,fun F' u' nu' s h'=>.ls (k1 F' u' nu' s h')⟩
  |f c x=>cases e
 | @ob a C dx c fs ts fvs ns cl ek r=>
  cases st with
  |k k=>cases e
  |i n=>cases e
  |f c' x=>
   have e:(if c=c' then Qx fs ts x else none)=some u:=e
   by_cases hc:c=c'
   ·rw[if_pos hc]at e
    subst ek
    obtain⟨w,n1,nt,n2,e1,e2,h1,k1⟩:=Zbi (k:=x) r e
    exact⟨w,(a,.ins C dx fvs)::n1,nt,n2,⟨a,C,dx,fvs,rfl,hn _ List.mem_cons_self,hc▸cl,by rw[Bt];exact e1⟩,by rw[e2];rfl,h1,fun F' u' nu' s h'=>.ob cl rfl (k1 F' u' nu' s h')⟩
   ·rw[if_neg hc]at e;cases e
theorem TrOk.down{F H:Hp}{p:List Stp}:∀{t u:Tr} {v:V} {ns:Zg},TrOk K F t v ns->Zh F H->(∀q∈ns,H q.1=some q.2)->t.at' p=some u->
  ∃w n1 nu n2,Xv K H v p w/\ns=n1++(nu++n2)/\TrOk K F u w nu/\∀F' u' nu',Zh F F'->TrOk K F' u' w nu'->TrOk K F' (t.up p u') v (n1++(nu'++n2)):=by
 induction p with
 |nil=>
  intro t u v ns h le hn e
  cases e
  exact⟨v,[],ns,[],rfl,by simp,h,fun F' u' nu' s h'=>by rw[List.append_nil];exact h'⟩
 |cons st p ih=>
  intro t u v ns h le hn e
  refine bnd1 e fun c e1 e2=>?_
  obtain⟨w,n1,nc,n2,k1,e3,h1,u1⟩:=h.step le hn e1
  subst e3
  obtain⟨w',m1,nu,m2,k2,e4,h2,u2⟩:=ih h1 le (fun q hq=>hn q (List.mem_append_right _ (List.mem_append_left _ hq))) e2
  subst e4
  refine⟨w',n1++m1,nu,m2++n2,⟨w,k1,k2⟩,by simp[List.append_assoc],h2,fun F' u' nu' s h'=>?_⟩
  have z:=u1 F' _ _ s (u2 F' u' nu' s h')
  show TrOk K F' (match t.sub st with|some c=>t.upd1 st (c.up p u')|none=>t) v _
  rw[e1]
  simpa[List.append_assoc]using z
end DL
namespace DL
open PySem PySem.Spec PyProof.Rows L2
variable{K:PySem.W.Frag}
noncomputable abbrev FP:=Ya->Option (List Stp)
@[simp] noncomputable def Z0(δ:Ya)(i:Nat):Option Tr:=match δ[i]? with
 |some (some (.oG _ t))=>some t
 |_=>none
@[simp] noncomputable def Wv(δ:Ya)(i:Nat):Option Addr:=match δ[i]? with
 |some (some (.oG pin _))=>pin
 |_=>none
@[simp] noncomputable def R6(δ:Ya)(j:Nat):Option Str:=match δ[j]? with
 |some (some (.fz (.str x)))=>some x
 |_=>none
@[simp] noncomputable def Pw(δ:Ya)(j:Nat):Option Int:=match δ[j]? with
 |some (some (.fz (.int x)))=>some x
 |_=>none
theorem Q3{δ:Ya}{i:Nat}{t:Tr}(h:Z0 δ i=some t):δ[i]? =some (some (.oG (Wv δ i) t)):=by
 unfold Z0 at h
 unfold Wv
 split at h
 ·rename_i e;cases h;rw[e]
 ·cases h
theorem Zbl{δ:Ya}{j:Nat}{x:Str}(h:R6 δ j=some x):δ[j]? =some (some (.fz (.str x))):=by
 unfold R6 at h
 split at h
 ·rename_i e;cases h;exact e
 ·cases h
theorem Zbm{δ:Ya}{j:Nat}{x:Int}(h:Pw δ j=some x):δ[j]? =some (some (.fz (.int x))):=by
 unfold Pw at h
 split at h
 ·rename_i e;cases h;exact e
 ·cases h
theorem Jb{F:Hp}{pin:Option Addr}{t:Tr}{v:V}{ns:Zg}(h:Shape K F (.oG pin t) v ns):(∀b,pin=some b->v= .ref b)/\TrOk K F t v ns:=by
 cases h with
 |oG hp r=>exact⟨hp,r⟩
section
variable{Z:Ent K}{F H:Hp}{σ:L2.St}{δ:Ya}{own:Nat->Zg}{Q:VK}{E:Ends}
theorem SR.tree{i:Nat}{t:Tr}(s:SR Z F H σ δ own)(h:Z0 δ i=some t):∃v,σ[i]? =some (some v)/\(∀b,Wv δ i=some b->v= .ref b)/\TrOk K F t v (own i):=by
 obtain⟨v,hv,sh⟩:=s.at' i _ (Q3 h)
 exact⟨v,hv,Jb sh⟩
theorem SR.txt{j:Nat}{x:Str}(s:SR Z F H σ δ own)(h:R6 δ j=some x):σ[j]? =some (some (.str x)):=by
 obtain⟨v,hv,sh⟩:=s.at' j _ (Zbl h)
 generalize own j=ns at sh
 cases sh with
 |fz r=>cases r;exact hv
theorem SR.num{j:Nat}{x:Int}(s:SR Z F H σ δ own)(h:Pw δ j=some x):σ[j]? =some (some (.int x)):=by
 obtain⟨v,hv,sh⟩:=s.at' j _ (Zbm h)
 generalize own j=ns at sh
 cases sh with
 |fz r=>cases r;exact hv
noncomputable def Xw(K:PySem.W.Frag)(σ:L2.St)(H:Hp)(i:Nat)(p:List Stp)(v:V):Prop:=∃w,σ[i]? =some (some w)/\Xv K H w p v
theorem Xw.mono{H':Hp}{i:Nat}{p:List Stp}{v:V}(s:Zh H H')(h:Xw K σ H i p v):Xw K σ H' i p v:=let⟨w,a,b⟩:=h;⟨w,a,b.mono s⟩
theorem Xw.one{i:Nat}{p:List Stp}{v v':V}(h:Xw K σ H i p v)(h':Xw K σ H i p v'):v=v':=by
 obtain⟨w,a,b⟩:=h
 obtain⟨w',a',b'⟩:=h'
 rw[a]at a';cases a'
 exact b.one b'
theorem SR.part{i:Nat}{p:List Stp}{t u:Tr}(s:SR Z F H σ δ own)(ht:Z0 δ i=some t)(hu:t.at' p=some u):
  ∃v w n1 nu n2,σ[i]? =some (some v)/\Xw K σ H i p w/\own i=n1++(nu++n2)/\TrOk K F u w nu/\∀F' u' nu',Zh F F'->TrOk K F' u' w nu'->Shape K F' (.oG (Wv δ i) (t.up p u')) v (n1++(nu'++n2)):=by
 obtain⟨v,hv,hp,r⟩:=s.tree ht
 obtain⟨w,n1,nu,n2,k,e,r',up⟩:=r.down s.le (fun q hq=>(s.ok i q hq).2.2) hu
 exact⟨v,w,n1,nu,n2,hv,⟨v,hv,k⟩,e,r',fun F' u' nu' sF h'=>.oG hp (up F' u' nu' sF h')⟩
noncomputable def Od(K:PySem.W.Frag)(i:Nat)(fp:FP):TE:=fun σ H Q=>∃(Z:Ent K) (F:Hp) (δ:Ya) (own:Nat->Zg) (p:List Stp) (t u:Tr),SR Z F H σ δ own/\fp δ=some p/\Z0 δ i=some t/\t.at' p=some u/\∀v,Xw K σ H i p v->Q v H
theorem Op{i:Nat}{fp:FP}{p:List Stp}{t u:Tr}(s:SR Z F H σ δ own)(hp:fp δ=some p)(ht:Z0 δ i=some t)(hu:t.at' p=some u){w:V}(hw:Xw K σ H i p w)(h:Q w H):Od K i fp σ H Q:=
 ⟨Z,F,δ,own,p,t,u,s,hp,ht,hu,fun v hv=>by rw[hv.one hw];exact h⟩
theorem Ze9{p:List Stp}{st:Stp}:∀{t u:Tr},t.at' (p++[st])=some u->∃u0,t.at' p=some u0/\u0.sub st=some u:=by
 induction p with
 |nil=>
  intro t u h
  refine bnd1 h fun c a b=>?_
  cases b
  exact⟨t,rfl,a⟩
 |cons s0 p ih=>
  intro t u h
  refine bnd1 h fun c a b=>?_
  obtain⟨u0,x,y⟩:=ih b
  exact⟨u0,Option.bind_eq_some_iff.mpr ⟨c,a,x⟩,y⟩
theorem Rb{i:Nat}{fp fp':FP}{Q':VK}(h:Od K i fp' σ H Q)(hst:∀δ p',fp' δ=some p'->∃p st,fp δ=some p/\p'=p++[st]/\∀(Z:Ent K) (F:Hp) (own:Nat->Zg) (u0 u:Tr) (v w:V),SR Z F H σ δ own->u0.sub st=some u->Wk K H v st w->Q w H->Q' v H):Od K i fp σ H Q':=by
 obtain⟨Z,F,δ,own,p',t,u,s,hp,ht,hu,k⟩:=h
 obtain⟨p,st,e1,rfl,kk⟩:=hst δ p' hp
 obtain⟨u0,h1,h2⟩:=Ze9 hu
 obtain⟨v,w,n1,nu,n2,hv,⟨v',hv',hw⟩,_⟩:=s.part ht hu
 obtain⟨x,w1,w2⟩:=hw.snoc
 exact Op s e1 ht h1 ⟨v',hv',w1⟩ (kk Z F own u0 u x w s h2 w2 (k w ⟨v',hv',hw⟩))
@[simp] noncomputable def Oq:FP:=fun _=>some []
@[simp] noncomputable def plF(c x:Str)(fp:FP):FP:=fun δ=>(fp δ).bind fun p=>some (p++[.f c x])
@[simp] noncomputable def plK(j:Nat)(fp:FP):FP:=fun δ=>(fp δ).bind fun p=>(R6 δ j).bind fun x=>some (p++[.k (Sum.inr x)])
@[simp] noncomputable def plI(n:Nat)(fp:FP):FP:=fun δ=>(fp δ).bind fun p=>some (p++[.i n])
@[simp] noncomputable def Xx(j:Nat)(fp:FP):FP:=fun δ=>(fp δ).bind fun p=>(Pw δ j).bind fun x=>if 0<=x then some (p++[.i x.toNat])else none
theorem Zn3{i:Nat}(h:Od K i Oq σ H Q):Jg i σ H Q:=by
 obtain⟨Z,F,δ,own,p,t,u,s,hp,ht,hu,k⟩:=h
 cases hp
 obtain⟨v,hv,_⟩:=s.tree ht
 exact⟨v,hv,k v ⟨v,hv,rfl⟩⟩
theorem Zn4{i:Nat}{c x:Str}{fp:FP}(kn:∀C,Yf K c C->Cls K C/\W9 K C x)(h:Od K i (plF c x fp) σ H Q):Zl2 K (Od K i fp) x σ H Q:=
 Rb h fun δ p' e=>by
  refine bnd1 e fun p e1 e2=>?_
  cases e2
  exact⟨p,_,e1,rfl,fun Z F own u0 u v w s hs ⟨a,C,dx,fvs,ev,ha,cl,hl⟩ q=>⟨a,C,dx,fvs,w,ev,ha,(kn C cl).1,(kn C cl).2,hl,q⟩⟩
theorem Zn5{i j:Nat}{fp:FP}(h:Od K i (plK j fp) σ H Q):Zgm (Od K i fp) (Jg j) σ H Q:=
 Rb h fun δ p' e=>by
  refine bnd1 e fun p e1 e2=>?_
  refine bnd1 e2 fun x e3 e4=>?_
  cases e4
  exact⟨p,_,e1,rfl,fun Z F own u0 u v w s hs ⟨a,kvs,ep,ev,ha,hl⟩ q=>⟨_,s.txt e3,a,w,ev,.inl ⟨kvs,_,⟨ep,.inl ha⟩,rfl,hl.symm⟩,q⟩⟩
theorem Px{v:V}{n:Nat}{w:V}(h:Wk K H v (.i n) w):Ky K v (.int (n:Nat)) H (fun u _=>u=w)\/Vg K v (.int (n:Nat)) H (fun u _=>u=w):=by
 obtain⟨a,vs,ev,ha,hl⟩:=h
 rcases ha with ha|ha
 ·exact .inl ⟨a,vs,_,w,ev,rfl,.inl (.inl ha),B3 hl,rfl⟩
 ·exact .inr ⟨a,vs,_,w,ev,rfl,.inl (.inl ha),B3 hl,rfl⟩
theorem Zn6{i n:Nat}{fp:FP}(h:Od K i (plI n fp) σ H Q):tOp (fun x y H Q=>Ky K x y H Q\/Vg K x y H Q) (Od K i fp) (tC (.int (n:Nat))) σ H Q:=
 Rb h fun δ p' e=>by
  refine bnd1 e fun p e1 e2=>?_
  cases e2
  refine⟨p,_,e1,rfl,fun Z F own u0 u v w s hs hw q=>?_⟩
  show Ky K v _ H Q\/Vg K v _ H Q
  rcases Px hw with⟨a,xs,j,w',z1,z2,z3,z4,rfl⟩|⟨a,xs,j,w',z1,z2,z3,z4,rfl⟩
  ·exact .inl ⟨a,xs,j,w',z1,z2,z3,z4,q⟩
  ·exact .inr ⟨a,xs,j,w',z1,z2,z3,z4,q⟩
theorem Zn7{i j:Nat}{fp:FP}(h:Od K i (Xx j fp) σ H Q):tOp (fun x y H Q=>Ky K x y H Q\/Vg K x y H Q) (Od K i fp) (Jg j) σ H Q:=
 Rb h fun δ p' e=>by
  refine bnd1 e fun p e1 e2=>?_
  refine bnd1 e2 fun x e3 e4=>?_
  by_cases hx:0<=x
  ·rw[if_pos hx]at e4
   cases e4
   refine⟨p,_,e1,rfl,fun Z F own u0 u v w s hs hw q=>⟨_,s.num e3,?_⟩⟩
   have ex:x=(x.toNat:Nat):=(Int.toNat_of_nonneg hx).symm
   rw[ex]
   rcases Px hw with⟨a,xs,j,w',z1,z2,z3,z4,rfl⟩|⟨a,xs,j,w',z1,z2,z3,z4,rfl⟩
   ·exact .inl ⟨a,xs,j,w',z1,z2,z3,z4,q⟩
   ·exact .inr ⟨a,xs,j,w',z1,z2,z3,z4,q⟩
  ·rw[if_neg hx]at e4;cases e4
theorem SR.hand1{F' H':Hp}{i:Nat}{sv sv':SV}{v:V}{ns':Zg}(s:SR Z F H σ δ own)(hi:δ[i]? =some (some sv))(hv:σ[i]? =some (some v))(sH:Zh (Wi H (own i)) H')(sF:Zh F F')(le':Zh F' H')(fro':∀(b:Addr) (o:HO),F' b=some o->F b=some o\/Wi H (own i) b=none)
  (sh:Shape K F' sv' v ns') (nd:(Yi ns').Nodup) (ok':∀p∈ns',F' p.1=none/\Z.h p.1=none/\H' p.1=some p.2) (sep':∀j,j≠i->∀q∈own j,∀p∈ns',p.1≠q.1):SR Z F' H' σ (δ.set i (some sv')) (put own i ns'):=by
 have hil:i<δ.length:=(List.getElem?_eq_some_iff.mp hi).1
 have inO:∀c,c∈Yi (own i)->∃q∈own i,c=q.1:=fun c hc=>let⟨q,hq,e⟩:=List.mem_map.mp hc;⟨q,hq,e.symm⟩
 have zh:∀c,Wi H (own i) c=none->Z.h c=none:=fun c hc=>by
  rcases Q1 hc with z|z
  ·obtain⟨q,hq,e⟩:=inO c z;rw[e];exact(s.ok i q hq).2.1
  ·exact s.old.free z
 have keep:∀l,l≠i->∀q∈own l,Wi H (own i) q.1=some q.2:=fun l h1 q hq=>by
  rw[Ym fun z=>?_]
  ·exact(s.ok l q hq).2.2
  ·obtain⟨r,hr,e⟩:=inO _ z;exact s.sep l i q r h1 hq hr e
 refine⟨le',fun c o e=>?_,fun c o e=>?_,by rw[List.length_set];exact s.len,fun l sv e=>?_,fun l=>?_,fun l p hp=>?_,fun l m q r hlm hq hr z=>?_⟩
 ·rcases fro' c o e with z|z
  ·exact s.fro c o z
  ·exact .inr (zh c z)
 ·refine sH c o ?_
  rw[Ym fun z=>?_]
  ·exact s.old c o e
  ·obtain⟨q,hq,e'⟩:=inO c z;rw[e',(s.ok i q hq).2.1]at e;cases e
 ·by_cases h1:l=i
  ·subst h1
   rw[List.getElem?_set_self hil]at e
   cases e
   rw[Zy]
   exact⟨_,hv,sh⟩
  ·rw[List.getElem?_set_ne (Ne.symm h1)]at e
   obtain⟨w,g1,g2⟩:=s.at' l sv e
   rw[Z4 h1]
   exact⟨w,g1,g2.mono sF⟩
 ·by_cases h1:l=i
  ·subst h1;rw[Zy];exact nd
  ·rw[Z4 h1];exact s.nod l
 ·by_cases h1:l=i
  ·subst h1;rw[Zy]at hp;exact ok' p hp
  ·rw[Z4 h1]at hp
   obtain⟨y1,y2,y3⟩:=s.ok l p hp
   have hh:=keep l h1 p hp
   refine⟨?_,y2,sH _ _ hh⟩
   cases z:F' p.1 with
   |none=>rfl
   |some u=>
    rcases fro' _ u z with y|y
    ·rw[y1]at y;cases y
    ·rw[hh]at y;cases y
 ·by_cases h1:l=i
  ·subst h1
   rw[Zy]at hq;rw[Z4 (Ne.symm hlm)]at hr
   exact sep' m (Ne.symm hlm) r hr q hq z
  ·by_cases h2:m=i
   ·subst h2
    rw[Zy]at hr;rw[Z4 h1]at hq
    exact sep' l h1 q hq r hr z.symm
   ·rw[Z4 h1]at hq;rw[Z4 h2]at hr
    exact s.sep l m q r hlm hq hr z
theorem SR.dict{i:Nat}{p:List Stp}{t:Tr}{ks:List Key}{ts:List Tr}{w:V}{nt:Zg}(s:SR Z F H σ δ own)(ht:Z0 δ i=some t)(hu:t.at' p=some (.dc ks ts))(hw:Xw K σ H i p w)
  (ndt:(Yi nt).Nodup) (okt:∀q∈nt,F q.1=none/\Z.h q.1=none/\H q.1=some q.2) (sept:∀(j:Nat) (q r:Addr×HO),q∈nt->r∈own j->q.1≠r.1):
  ∃a kvs ep nd0,w= .ref a/\H a=some (.dK kvs ep)/\kvs.map (·.1)=ks/\ks.Nodup/\TrsOk K F ts (kvs.map (·.2)) nd0/\∀kvs' ep' ks' ts' n1 nx n2,nd0=n1++(nx++n2)->kvs'.map (·.1)=ks'->ks'.Nodup->TrsOk K F ts' (kvs'.map (·.2)) (n1++(nt++n2))->
   ∃own',SR Z F (Ys H a (.dK kvs' ep')) σ (δ.set i (some (.oG (Wv δ i) (t.up p (.dc ks' ts'))))) own':=by
 obtain⟨v,w',m1,nu,m2,hv,hw',eo,r,up⟩:=s.part ht hu
 cases hw.one hw'
 cases r with
 | @dc a _ _ kvs nd0 ep ndk ek r=>
  have ma:(a,HO.dK kvs ep)∈own i:=by rw[eo];exact List.mem_append_right _ (List.mem_append_left _ List.mem_cons_self)
  obtain⟨fa,za,ha⟩:=s.ok i _ ma
  refine⟨a,kvs,ep,nd0,rfl,ha,ek,ndk,r,fun kvs' ep' ks' ts' n1 nx n2 e0 ek' ndk' r'=>⟨_,s.hand1 (Q3 ht) hv (fun b o e=>?_) (Zh.refl F) (fun b o e=>?_) (fun b o e=>.inl e) (up F _ _ (Zh.refl F) (.dc (ep:=ep') ndk' ek' r')) ?_ (fun q hq=>?_) fun j hj q hq q' hq'=>?_⟩⟩
  ·have hb:b≠a:=fun z=>by rw[z,W1 (List.mem_map.mpr ⟨_,ma,rfl⟩)]at e;cases e
   rw[Zl hb];exact Ej _ _ e
  ·rw[Zl fun z=>by rw[z]at e;rw[fa]at e;cases e];exact s.le b o e
  ·have c1:=s.nod i
   rw[List.nodup_iff_count]at c1 ndt⊢
   intro c
   have x1:=c1 c
   have x2:=ndt c
   have x3:(Yi nt).count c=0\/(Yi (own i)).count c=0:=by
    by_cases hc:c∈Yi nt
    ·refine .inr (List.count_eq_zero.mpr fun hc'=>?_)
     obtain⟨q,hq,e1⟩:=List.mem_map.mp hc
     obtain⟨r0,hr0,e2⟩:=List.mem_map.mp hc'
     exact sept i q r0 hq hr0 (e1.trans e2.symm)
    ·exact .inl (List.count_eq_zero.mpr hc)
   rw[eo,e0]at x1 x3
   simp only[Yi,List.map_append,List.map_cons,List.count_append,List.count_cons]at x1 x2 x3⊢
   omega
  ·have hq2:q=(a,.dK kvs' ep')\/q∈nt\/(q∈own i/\q.1≠a):=by
    have nda:=s.nod i
    rw[eo]at nda
    have ne:∀z∈m1++(nd0++m2),z.1≠a:=fun z hz ez=>by
     have nda':=List.nodup_iff_count.mp nda a
     have:1<=(Yi (m1++(nd0++m2))).count a:=List.one_le_count_iff.mpr (List.mem_map.mpr ⟨z,hz,ez⟩)
     simp only[Yi,List.map_append,List.map_cons,List.count_append,List.count_cons,beq_self_eq_true,if_true]at nda' this
     omega
    rcases List.mem_append.mp hq with h|h
    ·exact .inr (.inr ⟨by rw[eo];exact List.mem_append_left _ h,ne q (List.mem_append_left _ h)⟩)
    ·rcases List.mem_append.mp h with h|h
     ·rcases List.mem_cons.mp h with h|h
      ·exact .inl h
      ·have hin:q∈nt\/q∈nd0:=by
        rw[e0]
        rcases List.mem_append.mp h with h|h
        ·exact .inr (List.mem_append_left _ h)
        ·rcases List.mem_append.mp h with h|h
         ·exact .inl h
         ·exact .inr (List.mem_append_right _ (List.mem_append_right _ h))
       rcases hin with h|h
       ·exact .inr (.inl h)
       ·exact .inr (.inr ⟨by rw[eo];exact List.mem_append_right _ (List.mem_append_left _ (List.mem_cons_of_mem _ h)),ne q (List.mem_append_right _ (List.mem_append_left _ h))⟩)
     ·exact .inr (.inr ⟨by rw[eo];exact List.mem_append_right _ (List.mem_append_right _ h),ne q (List.mem_append_right _ (List.mem_append_right _ h))⟩)
   rcases hq2 with h|h|⟨h,ne⟩
   ·subst h;exact⟨fa,za,Zu⟩
   ·obtain⟨y1,y2,y3⟩:=okt q h
    have:q.1≠a:=fun z=>sept i q _ h ma z
    exact⟨y1,y2,by rw[Zl this];exact y3⟩
   ·obtain⟨y1,y2,y3⟩:=s.ok i q h
    exact⟨y1,y2,by rw[Zl ne];exact y3⟩
  ·have hin:q'∈nt\/∃r0∈own i,q'.1=r0.1:=by
    rcases List.mem_append.mp hq' with h|h
    ·exact .inr ⟨q',by rw[eo];exact List.mem_append_left _ h,rfl⟩
    ·rcases List.mem_append.mp h with h|h
     ·rcases List.mem_cons.mp h with h|h
      ·subst h;exact .inr ⟨_,ma,rfl⟩
      ·rcases List.mem_append.mp h with h|h
       ·exact .inr ⟨q',by rw[eo,e0];exact List.mem_append_right _ (List.mem_append_left _ (List.mem_cons_of_mem _ (List.mem_append_left _ h))),rfl⟩
       ·rcases List.mem_append.mp h with h|h
        ·exact .inl h
        ·exact .inr ⟨q',by rw[eo,e0];exact List.mem_append_right _ (List.mem_append_left _ (List.mem_cons_of_mem _ (List.mem_append_right _ (List.mem_append_right _ h)))),rfl⟩
     ·exact .inr ⟨q',by rw[eo];exact List.mem_append_right _ (List.mem_append_right _ h),rfl⟩
   rcases hin with h|⟨r0,hr0,e⟩
   ·exact sept j q' q h hq
   ·rw[e];exact fun z=>s.sep i j r0 q (Ne.symm hj) hr0 hq z
end
end DL
namespace DL
open PySem PySem.Spec PyProof.Rows L2
variable{K:PySem.W.Frag}
noncomputable def HO.chg:HO->Bool
 | .lst _=>true
 | .dK _ _=>true
 | .dT _ _ _=>true
 | .dN _ _ _=>true
 | .ins _ _ _=>true
 |_=>false
theorem Y9{q:Addr×HO}{l:Zg}(hq:HO.chg q.2=true)(hl:∀p∈l,HO.chg p.2=true):∀p∈q::l,HO.chg p.2=true:=fun p hp=>by
 rcases List.mem_cons.mp hp with z|z
 ·subst z;exact hq
 ·exact hl p z
theorem Kids.chg{F:Hp}:∀{xss:List (List D)} {ws:List V} {ns:Zg},Kids K F xss ws ns->∀p∈ns,HO.chg p.2=true
 |_,_,_,.nil=>fun _ h=>nomatch h
 |_,_,_,.cons r t=>Y9 rfl t.chg
theorem KidD.chg{F:Hp}:∀{dss:List (List Key×List D)} {ws:List V} {ns:Zg},KidD K F dss ws ns->∀p∈ns,HO.chg p.2=true
 |_,_,_,.nil=>fun _ h=>nomatch h
 |_,_,_,.cons r t=>Y9 rfl t.chg
theorem TrOk.chg{F:Hp}{t:Tr}{v:V}{ns:Zg}(h:TrOk K F t v ns):∀p∈ns,HO.chg p.2=true:=
 TrOk.rec (motive_1:=fun _ _ ns _=>∀p∈ns,HO.chg p.2=true) (motive_2:=fun _ _ ns _=>∀p∈ns,HO.chg p.2=true) (fun _ _ h=>nomatch h) (fun _ _ _ r=>Y9 rfl r) (fun _ _ r=>r)
  (fun _ r=>Y9 rfl r) (fun _ _ _ r=>Y9 rfl r) (fun _ h=>nomatch h) (fun _ _ h r p hp=>(List.mem_append.mp hp).elim (h p) (r p)) h
theorem Shape.chg{F:Hp}{sv:SV}{v:V}{ns:Zg}(h:Shape K F sv v ns):∀p∈ns,HO.chg p.2=true:=by
 cases h with
 |fz h=>exact fun _ h=>nomatch h
 |ol r=>exact Y9 rfl fun _ h=>nomatch h
 |oK e r=>exact Y9 rfl fun _ h=>nomatch h
 |oT kb e r=>exact Y9 rfl fun _ h=>nomatch h
 |oN e r=>exact Y9 rfl r.chg
 |oR e r=>exact Y9 rfl r.chg
 |oL _ r=>exact Y9 rfl r.chg
 |oQ e r=>exact Y9 rfl fun _ h=>nomatch h
 |oX kb e r=>exact Y9 rfl r.chg
 |oD r=>exact Y9 rfl r.chg
 |oM kb e r=>exact Y9 rfl fun _ h=>nomatch h
 |oG hp r=>exact r.chg
section
variable{Z:Ent K}{F H:Hp}{σ:L2.St}{δ:Ya}{own:Nat->Zg}{Q:VK}{E:Ends}
open Classical in
theorem SR.ice(s:SR Z F H σ δ own)(x:Ib):∃F1,SR (⟨H,F1,x⟩:Ent K) F1 H σ (icy δ) (fun _=>[])/\∀H' F' own' δ',Zh F1 F'->SR (⟨H,F1,x⟩:Ent K) F' H' σ δ' own'->
  ∃F2 own2,Zh F F2/\SR Z F2 H' σ δ own2/\(∀b o,F' b=some o->HO.chg o=false->F2 b=some o):=by
 let F1:Hp:=fun b=>if Jr own δ b then H b else F b
 have hO:∀{b},Jr own δ b->F b=none:=fun{b} ⟨i,sv,p,_,hp,e⟩=>by rw[<-e];exact(s.ok i p hp).1
 have f1:Zh F F1:=fun b o e=>by
  show(if Jr own δ b then H b else F b)=some o
  rw[if_neg fun z=>by rw[hO z]at e;cases e];exact e
 have le1:Zh F1 H:=fun b o e=>by
  have e:(if Jr own δ b then H b else F b)=some o:=e
  split at e
  ·exact e
  ·exact s.le b o e
 have Ev:∀{i:Nat} {sv:SV} {v:V},δ[i]? =some (some sv)->Shape K F sv v (own i)->Rep K F1 sv.toD v:=fun{i sv v} hi sh=>by
  refine(sh.rep (s.nod i) fun p hp=>(s.ok i p hp).1).mono fun b o eb=>?_
  by_cases hb:b∈Yi (own i)
  ·obtain⟨p,hp,rfl⟩:=List.mem_map.mp hb
   rw[B8 (s.nod i) hp]at eb
   cases eb
   show(if Jr own δ p.1 then H p.1 else F p.1)=_
   rw[if_pos ⟨i,sv,p,hi,hp,rfl⟩]
   exact(s.ok i p hp).2.2
  ·rw[Q9 hb]at eb
   exact f1 b o eb
 refine⟨F1,⟨le1,fun b o e=>.inl e,Zh.refl H,by rw[icy,List.length_map];exact s.len,fun i sv e=>?_,fun _=>List.nodup_nil,fun _ _ h=>(nomatch h),fun _ _ _ _ _ h=>(nomatch h)⟩,fun H' F' own' δ' sF s'=>?_⟩
 ·rw[icy,List.getElem?_map]at e
  cases o:δ[i]? with
  |none=>rw[o]at e;cases e
  |some u=>cases u with
   |none=>rw[o]at e;cases e
   |some sv0=>
    rw[o]at e
    cases e
    obtain⟨v,hv,sh⟩:=s.at' i sv0 o
    exact⟨v,hv,.fz (Ev o sh)⟩
 have sH:Zh H H':=s'.old
 let F2:Hp:=fun b=>if Jr own δ b then none else F' b
 have f2:Zh F F2:=fun b o e=>by
  show(if Jr own δ b then none else F' b)=some o
  rw[if_neg fun z=>by rw[hO z]at e;cases e];exact sF _ _ (f1 b o e)
 have i2:Zh F2 F':=fun b o e=>by
  have e:(if Jr own δ b then none else F' b)=some o:=e
  split at e
  ·cases e
  ·exact e
 have zf:∀(b:Addr) (o:HO),F' b=some o->Z.f b=some o\/Z.h b=none\/Jr own δ b:=fun b o e=>by
  rcases s'.fro b o e with z|z
  ·have z:(if Jr own δ b then H b else F b)=some o:=z
   split at z
   ·rename_i w;exact .inr (.inr w)
   ·rcases s.fro b o z with y|y
    ·exact .inl y
    ·exact .inr (.inl y)
  ·exact .inr (.inl (s.old.free z))
 let own2:Nat->Zg:=fun i=>if(∃sv,δ[i]? =some (some sv))then own i else[]
 have sub:∀{i p},p∈own2 i->p∈own i/\Jr own δ p.1:=fun{i p} hp=>by
  have hp:p∈(if(∃sv,δ[i]? =some (some sv))then own i else[]):=hp
  split at hp
  ·rename_i w;obtain⟨sv,w⟩:=w;exact⟨hp,i,sv,p,w,hp,rfl⟩
  ·exact nomatch hp
 refine⟨F2,own2,f2,⟨i2.trans s'.le,fun b o e=>?_,s.old.trans sH,s.len,fun i sv e=>?_,fun i=>?_,fun i p hp=>?_,fun i j p q hij hp hq=>s.sep i j p q hij (sub hp).1 (sub hq).1⟩,fun b o e hc=>?_⟩
 ·rcases zf b o (i2 b o e)with z|z|z
  ·exact .inl z
  ·exact .inr z
  ·have e:(if Jr own δ b then none else F' b)=some o:=e
   rw[if_pos z]at e;cases e
 ·obtain⟨v,hv,sh⟩:=s.at' i sv e
  have:own2 i=own i:=if_pos ⟨sv,e⟩
  rw[this]
  exact⟨v,hv,sh.mono f2⟩
 ·show(Yi (if(∃sv,δ[i]? =some (some sv))then own i else[])).Nodup
  split
  ·exact s.nod i
  ·exact List.nodup_nil
 ·obtain⟨h1,h2⟩:=sub hp
  obtain⟨x,y,z⟩:=s.ok i p h1
  exact⟨if_pos h2,y,sH _ _ z⟩
 ·have hn:¬Jr own δ b:=fun⟨i,sv,p,hi,hp,ep⟩=>by
   obtain⟨v0,_,sh0⟩:=s.at' i sv hi
   have h1:=sH _ _ (s.ok i p hp).2.2
   have h2:=s'.le _ _ e
   rw[ep,h2]at h1
   have h3:=sh0.chg p hp
   rw[<-Option.some.inj h1,hc]at h3
   cases h3
  show(if Jr own δ b then none else F' b)=some o
  rw[if_neg hn];exact e
@[simp] noncomputable def D.scal:D->Bool
 | .non=>true
 | .bl _=>true
 | .int _=>true
 | .str _=>true
 |_=>false
theorem D.scal_any{d:D}{v:V}{G:Hp}(h:d.scal=true)(r:Rep K F d v):Rep K G d v:=by
 cases r with
 |non=>exact .non
 |bl b=>exact .bl b
 |int i=>exact .int i
 |str y=>exact .str y
 |_=>exact absurd h Bool.false_ne_true
theorem Fh{G:Hp}:∀{ds:List D} {vs:List V},ds.all D.scal=true->Reps K F ds vs->Reps K G ds vs
 |_,_,_,.nil=>.nil
 |_,_,h,.cons r t=>by
  rw[List.all_cons,Bool.and_eq_true]at h
  exact .cons (D.scal_any h.1 r) (Fh h.2 t)
@[simp] noncomputable def Fi(f:FX):FX:=fun δ=>(f (icy δ)).bind fun
 | .v rv δ1=>(N1 rv δ1).bind fun d=>if d.scal=true then some (.v (.tmp (.fz d)) δ)else none
 | .x e _=>if e.vs.all D.scal=true then some (.x e δ)else none
theorem Zfa{f:FX}(h:Qc Z (Fi f) σ H Q):∃h' f':Hp,Qc (⟨h',f',Z.x⟩:Ent K) f σ H Q:=by
 obtain⟨F,δ,own,r,s,e,k⟩:=h
 refine bnd1 e fun r1 e1 e2=>?_
 obtain⟨F1,s1,back⟩:=s.ice Z.x
 refine⟨H,F1,F1,icy δ,fun _=>[],r1,s1,e1,?_⟩
 cases r1 with
 |v rv δ1=>
  refine bnd1 e2 fun d e3 e4=>?_
  by_cases hd:d.scal=true
  ·rw[if_pos hd]at e4
   cases e4
   intro v H' F' own' sH sF s' r'
   obtain⟨F2,own2,f2,s2,_⟩:=back H' F' own' δ1 sF s'
   obtain⟨F3,sF3,s3,r3⟩:=s'.settleR r'
   have rn:=s3.rd r3 e3
   have rep:Rep K F2 d v:=by
    cases d with
    |non=>rw[rn.non];exact .non
    |bl b=>rw[rn.bl];exact .bl b
    |int i=>rw[rn.int];exact .int i
    |str y=>rw[rn.str];exact .str y
    |_=>cases hd
   exact k v H' F2 own2 sH f2 s2 ⟨[],.fz rep⟩
  ·rw[if_neg hd]at e4;cases e4
 |x x1 δ1=>
  have e2:(if x1.vs.all D.scal=true then some (RX.x x1 δ)else none)=some r:=e2
  by_cases hd:x1.vs.all D.scal=true
  ·rw[if_pos hd]at e2
   cases e2
   intro H' F' own' cls od sF s' ⟨C,cl,ec,m⟩
   obtain⟨F2,own2,f2,s2,kp⟩:=back H' F' own' δ1 sF s'
   refine k H' F2 own2 cls od f2 s2 ⟨C,cl,ec,?_⟩
   cases od with
   |none=>exact m
   |some dx=>
    obtain⟨fs,h1,h2,h3⟩:=m
    exact⟨fs,kp _ _ h1 rfl,h2,Fh hd h3⟩
  ·rw[if_neg hd]at e2;cases e2
@[simp] noncomputable def Fj(f:FT):FT:=fun δ=>(f (icy δ)).bind fun p=>some (p.1,δ)
theorem Zfb{f:FT}{Q:Bool->Hp->Prop}(h:Z5 Z (Fj f) σ H Q):∃Z':Ent K,Z5 Z' f σ H Q:=by
 obtain⟨F,δ,own,b,δ',s,e,k⟩:=h
 refine bnd2 e fun b1 δ1 e1 e2=>?_
 cases e2
 obtain⟨F1,s1,back⟩:=s.ice Z.x
 refine⟨_,F1,icy δ,fun _=>[],b1,δ1,s1,e1,fun H' F' own' sH sF s'=>?_⟩
 obtain⟨F2,own2,f2,s2,_⟩:=back H' F' own' δ1 sF s'
 exact k H' F2 own2 sH f2 s2
@[simp] noncomputable def Xc(c x:Str):D->Option SV
 | .ob c' fs ds=>if c'=c then(look fs ds x).bind fun d=>some (.fz d)else none
 |_=>none
end
section
variable{X:Cx}{Z:Ent X.K}{a:Expr}{fa:FX}{ft:FT}
theorem C8(ha:∀{h f:Hp},PE X a (Qc (⟨h,f,Z.x⟩:Ent X.K) fa)):PE X a (Qc Z (Fi fa)):=fun pins s σ H Q I h=>let⟨_,_,h'⟩:=Zfa h;ha pins s σ H Q I h'
theorem Py(ha:∀{Z':Ent X.K},PT X a (Z5 Z' ft)):PT X a (Z5 Z (Fj ft)):=fun pins s σ H Q I h=>let⟨_,h'⟩:=Zfb h;ha pins s σ H Q I h'
end
end DL
namespace DL
open PySem PySem.Spec PyProof.Rows L2
variable{K:PySem.W.Frag}
section
variable{Z:Ent K}{F H:Hp}{σ:L2.St}{δ:Ya}{own:Nat->Zg}{Q:VK}{E:Ends}
@[simp] noncomputable def toTr:RV->Ya->Option (Tr×Ya)
 | .tmp (.oG _ t),δ=>some (t,δ)
 |rv,δ=>(frz rv δ).bind fun q=>some (.lf q.1,q.2)
theorem SR.toTr{rv:RV}{v:V}{t:Tr}{δ':Ya}(s:SR Z F H σ δ own)(r:Tp Z F H σ own rv v)(e:DL.toTr rv δ=some (t,δ')):∃F1 own1 nt,Zh F F1/\SR Z F1 H σ δ' own1/\TmpOk Z F1 H own1 (.oG none t) v nt:=by
 unfold DL.toTr at e
 split at e
 ·cases e
  obtain⟨ns,t0⟩:=r
  exact⟨F,own,ns,Zh.refl F,s,⟨.oG (fun _ z=>nomatch z) (Jb t0.sh).2,t0.nd,t0.ok,t0.sep⟩⟩
 ·refine bnd2 e fun d δ1 e1 e2=>?_
  cases e2
  obtain⟨F2,sF2,s2,r2⟩:=s.settleR r
  obtain⟨F3,own3,sF3,s3,r3⟩:=s2.frzR r2 e1
  exact⟨F3,own3,[],sF2.trans sF3,s3,⟨.oG (fun _ z=>nomatch z) (.lf r3),List.nodup_nil,fun _ h=>(nomatch h),fun _ _ _ h=>(nomatch h)⟩⟩
@[simp] noncomputable def Fk(i:Nat)(fp:FP)(j:Nat)(fe:FE):FS:=fun δ=>(fe δ).bind fun a=>(toTr a.1 a.2).bind fun b=>(fp b.2).bind fun p=>(R6 b.2 j).bind fun x=>(Z0 b.2 i).bind fun t=>match t.at' p with
 |some (.dc ks ts)=>if ks.length<PySem.sizeLine then some (.nx (b.2.set i (some (.oG (Wv b.2 i) (t.up p (.dc (Ux ks ts (Sum.inr x) b.1).1 (Ux ks ts (Sum.inr x) b.1).2))))))else none
 |_=>none
theorem Zjz{i j:Nat}{fp:FP}{fe:FE}(h:Zq Z (Fk i fp j fe) E σ H):Df (Od K i fp) (Jg j) (Zb Z fe) E σ H:=by
 obtain⟨F,δ,own,fl,s,e,k⟩:=h
 unfold Fk at e
 refine bnd2 e fun rv δ1 e1 e=>?_
 refine bnd2 e fun tn δ2 e2 e=>?_
 refine bnd1 e fun p e3 e=>?_
 refine bnd1 e fun x e4 e=>?_
 refine bnd1 e fun t ht e=>?_
 dsimp only at e
 split at e
 ·rename_i ks ts hu
  split at e
  ·rename_i hl
   cases e
   refine⟨F,δ,own,rv,δ1,s,e1,fun v H1 F1 own1 sH sF s1 r1=>?_⟩
   obtain⟨F2,own2,nt,sF2,s2,tm⟩:=s1.toTr r1 e2
   obtain⟨v0,w,_,_,_,_,hw,_⟩:=s2.part ht hu
   obtain⟨a,kvs,ep,nd0,rfl,ha,ek,ndk,r,up⟩:=s2.dict ht hu hw tm.nd tm.ok tm.sep
   refine Op s2 e3 ht hu hw ⟨_,s2.txt e4,a,rfl,?_⟩
   subst ek
   refine Mx.k (k:=Sum.inr x) ⟨ep,ha⟩ (by rw[List.length_map]at hl;exact hl) fun ep'=>?_
   obtain⟨n1,nx,n2,e0,ek',ndk',r'⟩:=Ze8 (k:=(Sum.inr x:Key)) (v':=v) ndk r (Jb tm.sh).2
   obtain⟨own',s3⟩:=up _ ep' _ _ n1 nx n2 e0 ek' ndk' r'
   exact k σ _ F2 own' (sF.trans sF2) s3
  ·cases e
 ·cases e
@[simp] noncomputable def Zj0(δ:Ya)(i:Nat)(p:List Stp)(t:Tr)(q:List Key×List Tr):Ya:=δ.set i (some (.oG (Wv δ i) (t.up p (.dc q.1 q.2))))
theorem SR.del{i:Nat}{p:List Stp}{t:Tr}{ks:List Key}{ts:List Tr}{w:V}{x:Str}(s:SR Z F H σ δ own)(ht:Z0 δ i=some t)(hu:t.at' p=some (.dc ks ts))(hw:Xw K σ H i p w):
  ∃a kvs ep,w= .ref a/\H a=some (.dK kvs ep)/\kvs.map (·.1)=ks/\∀ep',∃own',SR Z F (Ys H a (.dK (Jm kvs (Sum.inr x)) ep')) σ (Zj0 δ i p t (Bf ks (Sum.inr x),Fe ks ts (Sum.inr x))) own':=by
 obtain⟨a,kvs,ep,nd0,rfl,ha,ek,ndk,r,up⟩:=s.dict (nt:=[]) ht hu hw List.nodup_nil (fun _ h=>(nomatch h)) fun _ _ _ h=>(nomatch h)
 refine⟨a,kvs,ep,rfl,ha,ek,fun ep'=>?_⟩
 subst ek
 obtain⟨n1,nx,n2,e0,ek',r'⟩:=Zbk (k:=(Sum.inr x:Key)) ndk r
 exact up _ ep' _ _ n1 nx n2 e0 ek' (ndk.sublist (T5 _)) r'
theorem Bu{ks:List Key}{ts:List Tr}{k:Key}{q:List Key×List Tr}(h:Wj ks ts k=some q):k∈ks/\q=(Bf ks k,Fe ks ts k):=by
 unfold Wj at h
 split at h
 ·rename_i hm;exact⟨hm,(Option.some.inj h).symm⟩
 ·cases h
theorem L1{ks:List Key}{ts:List Tr}{k:Key}(h:Wj ks ts k=none):k∉ks:=by
 unfold Wj at h
 split at h
 ·cases h
 ·assumption
@[simp] noncomputable def Xd(i:Nat)(fp:FP)(j:Nat):FS:=fun δ=>(fp δ).bind fun p=>(R6 δ j).bind fun x=>(Z0 δ i).bind fun t=>match t.at' p with
 |some (.dc ks ts)=>some (.nx (match Wj ks ts (Sum.inr x)with
  |some q=>Zj0 δ i p t q
  |none=>δ))
 |_=>none
theorem Zj1{i j:Nat}{fp:FP}(h:Zq Z (Xd i fp j) E σ H):M5 (K4 (Od K i fp) (Jg j) (tC .non)) E σ H:=by
 obtain⟨F,δ,own,fl,s,e,k⟩:=h
 unfold Xd at e
 refine bnd1 e fun p e3 e=>?_
 refine bnd1 e fun x e4 e=>?_
 refine bnd1 e fun t ht e=>?_
 split at e
 ·rename_i ks ts hu
  cases e
  obtain⟨v0,w,_,_,_,_,hw,_⟩:=s.part ht hu
  obtain⟨a,kvs,ep,rfl,ha,ek,up⟩:=s.del (x:=x) ht hu hw
  subst ek
  unfold M5 K4
  refine Op s e3 ht hu hw ⟨a,rfl,.inl ⟨kvs,ep,.inl ha⟩,_,s.txt e4,kvs,Sum.inr x,⟨ep,ha⟩,rfl,fun v ep' hv=>?_,fun hv=>?_⟩
  ·obtain⟨own',s3⟩:=up ep'
   cases hd:Wj (kvs.map (·.1)) ts (Sum.inr x:Key)with
   |none=>exact absurd (Q2.mp (by rw[hv];rfl)) (L1 hd)
   |some q=>
    rw[hd]at k
    obtain⟨_,rfl⟩:=Bu hd
    exact k σ _ F own' (Zh.refl F) s3
  ·cases hd:Wj (kvs.map (·.1)) ts (Sum.inr x:Key)with
   |none=>
    rw[hd]at k
    exact k σ _ F own (Zh.refl F) s
   |some q=>
    have:=Q2.mpr (Bu hd).1
    rw[hv]at this;cases this
 ·cases e
@[simp] noncomputable def Xe(i:Nat)(fp:FP)(fx:FX):FS:=fun δ=>(fp δ).bind fun p=>(Z0 δ i).bind fun t=>match t.at' p with
 |some (.dc ks ts)=>(fx δ).bind fun
  | .x e δ1=>some (.ex e δ1)
  | .v rv δ1=>match rv with
   | .tmp (.fz (.str x))=>(Z0 δ1 i).bind fun t1=>match t1.at' p with
    |some (.dc ks1 ts1)=>(Wj ks1 ts1 (Sum.inr x)).bind fun q=>some (.nx (Zj0 δ1 i p t1 q))
    |_=>none
   |_=>none
 |_=>none
theorem Zj2{i:Nat}{fp:FP}{fx:FX}(h:Zq Z (Xe i fp fx) E σ H):M5 (K3 (Od K i fp) (Qc Z fx)) E σ H:=by
 obtain⟨F,δ,own,fl,s,e,k⟩:=h
 unfold Xe at e
 refine bnd1 e fun p e3 e=>?_
 refine bnd1 e fun t ht e=>?_
 split at e
 ·rename_i ks ts hu
  refine bnd1 e fun r1 e1 e=>?_
  obtain⟨v0,w,_,_,_,_,hw,_⟩:=s.part ht hu
  obtain⟨a,kvs,ep,rfl,ha,ek,_⟩:=s.del (x:=default) ht hu hw
  unfold M5 K3
  refine Op s e3 ht hu hw ⟨a,rfl,.inl ⟨kvs,ep,.inl ha⟩,F,δ,own,r1,s,e1,?_⟩
  cases r1 with
  |x x1 δ1=>cases e;exact Kk.of k
  |v rv δ1=>
   intro v H1 F1 own1 sH sF s1 r1
   dsimp only at e
   split at e
   ·rename_i x
    refine bnd1 e fun t1 ht1 e=>?_
    split at e
    ·rename_i ks1 ts1 hu1
     refine bnd1 e fun q hq e=>?_
     cases e
     obtain⟨hm,rfl⟩:=Bu hq
     obtain⟨ns,tm⟩:=r1
     have ev:v= .str x:=by
      have sh:=tm.sh
      cases sh with
      |fz r=>cases r;rfl
     obtain⟨a1,kvs1,ep1,e5,ha1,ek1,up⟩:=s1.del (x:=x) ht1 hu1 (hw.mono sH)
     cases e5
     subst ek1
     obtain⟨w',hw'⟩:=Option.isSome_iff_exists.mp (Q2.mpr hm)
     refine⟨kvs1,Sum.inr x,w',⟨ep1,ha1⟩,ev,hw',fun ep'=>?_⟩
     obtain⟨own',s3⟩:=up ep'
     exact k σ _ F1 own' sF s3
    ·cases e
   ·cases e
 ·cases e
@[simp] noncomputable def Xf:FE:=fun δ=>some (.tmp (.oG none (.dc [] [])),δ)
theorem Zbn{a:Addr}(s:SR Z F H σ δ own)(ha:H a=none):Zh H (Ys H a (.dK [] 0))/\SR Z F (Ys H a (.dK [] 0)) σ δ own/\TmpOk Z F (Ys H a (.dK [] 0)) own (.oG none (.dc [] [])) (.ref a) [(a,.dK [] 0)]:=by
 have sm:=Wg (o:=.dK [] 0) ha
 refine⟨sm,s.grow sm,.oG (fun _ z=>nomatch z) (.dc List.nodup_nil rfl .nil),Tq,fun p hp=>?_,fun i p q hp hq z=>?_⟩
 ·obtain rfl:=List.mem_singleton.mp hp
  exact⟨s.le.free ha,s.old.free ha,Zu⟩
 ·obtain rfl:=List.mem_singleton.mp hp
  have:=(s.ok i q hq).2.2
  rw[<-z]at this
  have this:H a=some q.2:=this
  rw[ha]at this;cases this
theorem Zj3(h:Zb Z Xf σ H Q):Ay σ H Q:=by
 obtain⟨F,δ,own,rv,δ',s,e,k⟩:=h
 cases e
 intro a ha
 obtain⟨sm,s1,t1⟩:=Zbn s ha
 exact k _ _ F own sm (Zh.refl F) s1 ⟨_,t1⟩
@[simp] noncomputable def Zbo(fe:FE):FE:=fun δ=>(fe δ).bind fun p=>(frz p.1 p.2).bind fun q=>some (.tmp (.oG none (.tp [.lf q.1,.dc [] []])),q.2)
theorem Zfc{fe:FE}(h:Zb Z (Zbo fe) σ H Q):Zic (Q5 (Zb Z fe) (Q5 Ay Mv)) σ H Q:=by
 obtain⟨F,δ,own,rv,δ',s,e,k⟩:=h
 refine bnd2 e fun rv1 δ1 e1 e2=>?_
 refine bnd2 e2 fun d δ2 e3 e4=>?_
 cases e4
 refine⟨F,δ,own,rv1,δ1,s,e1,fun v H1 F1 own1 sH sF s1 r1=>?_⟩
 obtain⟨F2,sF2,s2,r2⟩:=s1.settleR r1
 obtain⟨F3,own3,sF3,s3,r3⟩:=s2.frzR r2 e3
 intro a ha
 obtain⟨sm,s4,t4⟩:=Zbn s3 ha
 refine⟨by show 2<=PySem.sizeLine;decide,fun b hb=>?_⟩
 have hb:Ys H1 a (.dK [] 0) b=none:=hb
 have sm2:=Wg (o:=.tup [v,.ref a]) hb
 have hab:b≠a:=fun z=>by rw[z,Zu]at hb;cases hb
 have fb:F3 b=none:=s4.le.free hb
 have sF5:Zh F3 (Qa F3 [(b,.tup [v,.ref a])]):=Wo fun p hp=>by obtain rfl:=List.mem_singleton.mp hp;exact fb
 have s5:SR Z (Qa F3 [(b,.tup [v,.ref a])]) (Ys (Ys H1 a (.dK [] 0)) b (.tup [v,.ref a])) σ δ2 own3:=by
  refine(s4.grow sm2).addF (ns:=[(b,.tup [v,.ref a])]) Tq (fun p hp=>?_) (fun p hp=>?_) (fun p hp=>?_) fun i p q hp hq z=>?_
  ·obtain rfl:=List.mem_singleton.mp hp;exact fb
  ·obtain rfl:=List.mem_singleton.mp hp;exact Zu
  ·obtain rfl:=List.mem_singleton.mp hp;exact s4.old.free hb
  ·obtain rfl:=List.mem_singleton.mp hp
   have:=(s4.ok i q hq).2.2
   rw[<-z]at this
   rw[show Ys H1 a (.dK [] 0) b=none from hb]at this;cases this
 refine k (.ref b) _ _ own3 (sH.trans (sm.trans sm2)) (sF.trans (sF2.trans (sF3.trans sF5))) s5 ⟨[(a,.dK [] 0)],.oG (fun _ z=>nomatch z) (.tp (vs:=[v,.ref a]) Zu ?_),Tq,fun p hp=>?_,t4.sep⟩
 ·have q:TrsOk K (Qa F3 [(b,.tup [v,.ref a])]) [.lf d,.dc [] []] [v,.ref a] ([]++([(a,.dK [] 0)]++[])):=.cons (.lf (r3.mono sF5)) (.cons (.dc (kvs:=[]) List.nodup_nil rfl .nil) .nil)
  exact q
 ·obtain rfl:=List.mem_singleton.mp hp
  have hba:a≠b:=fun z=>hab z.symm
  refine⟨?_,(t4.ok _ List.mem_cons_self).2.1,by rw[Zl hba];exact Zu⟩
  show Ys F3 b _ a=none
  rw[Zl hba];exact(t4.ok _ List.mem_cons_self).1
end
end DL
namespace DL
open PySem PySem.Spec PyProof.Rows L2
variable{K:PySem.W.Frag}
inductive MO where
 |v (d:D) (δ:Ya)|x (e:Exn) (δ:Ya)
noncomputable abbrev FN:=Ya->Option MO
noncomputable def Ws(Z:Ent K)(f:FN):TE:=fun σ H Q=>∃F δ own r,SR Z F H σ δ own/\f δ=some r/\match r with
 | .v d δ'=>∀v H' F' own',Zh F F'->SR Z F' H' σ δ' own'->Rep K F' d v->Q v H'
 | .x e δ'=>Kk Z F σ e δ'
section
variable{Z:Ent K}{F H:Hp}{σ:L2.St}{δ:Ya}{own:Nat->Zg}{Q:VK}{E:Ends}
@[simp] noncomputable def upN(fx:FX):FN:=fun δ=>(fx δ).bind fun
 | .v rv δ1=>(frz rv δ1).bind fun q=>some (.v q.1 q.2)
 | .x e δ1=>some (.x e δ1)
theorem Zn8{fx:FX}(h:Ws Z (upN fx) σ H Q):Qc Z fx σ H Q:=by
 obtain⟨F,δ,own,r,s,e,k⟩:=h
 refine bnd1 e fun r1 e1 e2=>?_
 cases r1 with
 |x x1 δ1=>cases e2;exact⟨F,δ,own,_,s,e1,k⟩
 |v rv δ1=>
  refine bnd2 e2 fun d δ2 e3 e4=>?_
  cases e4
  refine⟨F,δ,own,_,s,e1,fun v H1 F1 own1 sH sF s1 r1=>?_⟩
  obtain⟨F2,sF2,s2,r2⟩:=s1.settleR r1
  obtain⟨F3,own3,sF3,s3,r3⟩:=s2.frzR r2 e3
  exact k v H1 F3 own3 (sF.trans (sF2.trans sF3)) s3 r3
@[simp] noncomputable def M3(g:D->D->Option SV)(fa:FN)(fb:FE):FN:=fun δ=>(fa δ).bind fun
 | .x e δ1=>some (.x e δ1)
 | .v d1 δ1=>(fb δ1).bind fun p=>(N1 p.1 p.2).bind fun d2=>(g d1 d2).bind fun sv=>if sv.scal=true then some (.v sv.toD p.2)else none
theorem Zbp{r:R2}{g:D->D->Option SV}{fa:FN}{fb:FE}(hg:Yg Z r g)(h:Ws Z (M3 g fa fb) σ H Q):tOp r (Ws Z fa) (Zb Z fb) σ H Q:=by
 obtain⟨F,δ,own,rx,s,e,k⟩:=h
 refine bnd1 e fun r1 e1 e2=>?_
 cases r1 with
 |x x1 δ1=>cases e2;exact⟨F,δ,own,_,s,e1,k⟩
 |v d1 δ1=>
  refine bnd2 e2 fun rv δ2 e3 e=>?_
  refine bnd1 e fun d2 e4 e=>?_
  refine bnd1 e fun sv e5 e=>?_
  by_cases hs:sv.scal=true
  ·rw[if_pos hs]at e
   cases e
   refine⟨F,δ,own,_,s,e1,fun v H1 F1 own1 sF s1 r1=>?_⟩
   refine⟨F1,δ1,own1,rv,δ2,s1,e3,fun u H2 F2 own2 sH2 sF2 s2 r2=>?_⟩
   obtain⟨F3,sF3,s3,r3⟩:=s2.settleR r2
   refine hg F3 H2 σ δ2 own2 v u d1 d2 sv Q s3 (Yc.of (r1.mono (sF2.trans sF3))) (s3.rd r3 e4) e5 fun z H5 F5 ns sH5 sF5 s5 t5=>?_
   exact k z H5 F5 own2 (sF.trans (sF2.trans (sF3.trans sF5))) s5 (Zbh hs t5.sh F5)
  ·rw[if_neg hs]at e;cases e
@[simp] noncomputable def G1(fn:FN):FS:=fun δ=>(fn δ).bind fun
 | .v d δ1=>some (.rg d δ1)
 | .x e δ1=>some (.ex e δ1)
theorem Zj5{fn:FN}(h:Zq Z (G1 fn) E σ H):Zc3 (Ws Z fn) E σ H:=by
 obtain⟨F,δ,own,fl,s,e,k⟩:=h
 refine bnd1 e fun r1 e1 e2=>?_
 cases r1 with
 |x x1 δ1=>cases e2;exact⟨F,δ,own,_,s,e1,Kk.of k⟩
 |v d δ1=>cases e2;exact⟨F,δ,own,_,s,e1,fun v H' F' own' sF s' r'=>k v σ H' F' own' sF s' r'⟩
@[simp] noncomputable def Zj6(i:Nat)(fn:FN):FS:=fun δ=>(fn δ).bind fun
 | .v d δ1=>if i<δ1.length then some (.nx (δ1.set i (some (.fz d))))else none
 | .x e δ1=>some (.ex e δ1)
theorem Zj7{i:Nat}{fn:FN}(h:Zq Z (Zj6 i fn) E σ H):S6 (Ws Z fn) (Rn i) E σ H:=by
 obtain⟨F,δ,own,fl,s,e,k⟩:=h
 refine bnd1 e fun r1 e1 e2=>?_
 cases r1 with
 |x x1 δ1=>cases e2;exact⟨F,δ,own,_,s,e1,Kk.of k⟩
 |v d δ1=>
  have e2:(if i<δ1.length then some (Fl.nx (δ1.set i (some (.fz d))))else none)=some fl:=e2
  by_cases hi:i<δ1.length
  ·rw[if_pos hi]at e2
   cases e2
   exact⟨F,δ,own,_,s,e1,fun v H' F' own' sF s' r'=>k _ H' F' _ sF (s'.store (.fz r') (by rw[s'.len];exact hi))⟩
  ·rw[if_neg hi]at e2;cases e2
@[simp] noncomputable def ifN(neg:Bool)(fn:FN)(f g:FS):FS:=fun δ=>(fn δ).bind fun
 | .v d δ1=>match d with
  | .bl b=>if(bif neg then !b else b)=true then f δ1 else g δ1
  |_=>none
 | .x e δ1=>some (.ex e δ1)
theorem Zhd{neg:Bool}{fn:FN}{f g:FS}{tt:TT}(ht:∀σ H (R:Bool->Hp->Prop),Ws Z fn σ H (fun x H1=>∃k,x= .bl k/\R (bif neg then !k else k) H1)->tt σ H R)(h:Zq Z (ifN neg fn f g) E σ H):Zhy tt (Zq Z f) (Zq Z g) E σ H:=by
 obtain⟨F,δ,own,fl,s,e,k⟩:=h
 refine bnd1 e fun r1 e1 e2=>?_
 refine ht σ H _ ⟨F,δ,own,r1,s,e1,?_⟩
 cases r1 with
 |x x1 δ1=>cases e2;exact Kk.of k
 |v d δ1=>
  intro v H' F' own' sF s' r'
  dsimp only at e2
  split at e2
  ·rename_i b
   cases r'
   refine⟨b,rfl,?_⟩
   by_cases hb:(bif neg then !b else b)=true
   ·rw[if_pos hb]at e2
    rw[if_pos hb]
    exact⟨F',δ1,own',fl,s',e2,k.mono sF⟩
   ·rw[if_neg hb]at e2
    rw[if_neg hb]
    exact⟨F',δ1,own',fl,s',e2,k.mono sF⟩
  ·cases e2
inductive GO where
 |v (d:D) (ts:List Tr)|x (e:Exn) (ts:List Tr)
@[simp] noncomputable def GO.ts:GO->List Tr
 | .v _ ts=>ts
 | .x _ ts=>ts
noncomputable abbrev GG:=List Addr->List Tr->List D->Option GO
noncomputable def Gp(K:PySem.W.Frag)(m n:Nat)(g:GG):Sp:=fun vs H Q E=>∃F as ts ns us ds o,vs=as.map V.ref++us/\as.length=m/\Zh F H/\TrsOk K F ts (as.map V.ref) ns/\Reps K F ds us/\ds.length=n/\(Yi ns).Nodup/\(∀p∈ns,F p.1=none/\H p.1=some p.2)/\g as ts ds=some o/\
 ∀H' F' ns',Zh (Wi H ns) H'->Zh F F'->Zh F' H'->(∀(b:Addr) (o:HO),F' b=some o->F b=some o\/Wi H ns b=none)->TrsOk K F' o.ts (as.map V.ref) ns'->(Yi ns').Nodup->(∀p∈ns',F' p.1=none/\Wi H ns p.1=none/\H' p.1=some p.2)->match o with
  | .v d _=>∀v,Rep K F' d v->Q v H'
  | .x e _=>∀cls od,A4 K F' e cls od->E cls od H'
theorem Zfd{m n:Nat}{g:GG}{vs:List V}{E:XK}(h:Gp K m n g vs H Q E):vs.length=m+n:=by
 obtain⟨F,as,ts,ns,us,ds,o,rfl,hm,_,_,r,hn,_⟩:=h
 rw[List.length_append,List.length_map,hm,<-r.length,hn]
@[simp] noncomputable def Uy(N:Nat)(as:List Addr)(ts:List Tr)(ds:List D):Ya:=List.zipWith (fun a t=>some (.oG (some a) t)) as ts++(ds.map (fun d=>some (.fz d))++List.replicate (N- (as.length+ds.length)) none)
@[simp] noncomputable def R7:List Addr->Ya->Option (List Tr)
 | [],_=>some []
 |a::as,some (.oG (some b) t)::δ=>if b=a then(R7 as δ).bind fun ts=>some (t::ts)else none
 |_,_=>none
@[simp] noncomputable def Jy(f:FS)(N:Nat):GG:=fun as ts ds=>match f (Uy N as ts ds)with
 |some (.rg d δ)=>(R7 as δ).bind fun ts'=>some (.v d ts')
 |some (.nx δ)=>(R7 as δ).bind fun ts'=>some (.v .non ts')
 |some (.ex e δ)=>(R7 as δ).bind fun ts'=>some (.x e ts')
 |_=>none
theorem TrsOk.split:∀{ts:List Tr} {vs:List V} {ns:Zg},TrsOk K F ts vs ns->∃nss:List Zg,ns=nss.flatten/\nss.length=ts.length/\∀(i:Nat) (t:Tr) (v:V),ts[i]? =some t->vs[i]? =some v->TrOk K F t v (nss[i]?.getD []):=by
 intro ts
 induction ts with
 |nil=>intro vs ns r;cases r;exact⟨[],rfl,rfl,fun i t v h=>by simp at h⟩
 |cons t ts ih=>
  intro vs ns r
  cases r with
  | @cons _ v _ vs n1 n2 h r=>
   obtain⟨nss,e,l,k⟩:=ih r
   refine⟨n1::nss,by rw[e];rfl,by simp[l],fun i t' v' ht hv=>?_⟩
   cases i with
   |zero=>simp at ht hv;subst ht hv;exact h
   |succ i=>simp at ht hv⊢;exact k i t' v' ht hv
theorem Pz{nss:List Zg}{i:Nat}{p:Addr×HO}(h:p∈nss[i]?.getD []):p∈nss.flatten:=by
 cases e:nss[i]? with
 |none=>rw[e]at h;exact nomatch h
 |some l=>
  rw[e]at h
  exact List.mem_flatten.mpr ⟨l,List.mem_of_getElem? e,h⟩
theorem P0:∀{nss:List Zg},(Yi nss.flatten).Nodup->(∀i:Nat,(Yi (nss[i]?.getD [])).Nodup)/\∀(i j:Nat) (p q:Addr×HO),i≠j->p∈nss[i]?.getD []->q∈nss[j]?.getD []->p.1≠q.1
 | [],_=>⟨fun i=>List.nodup_nil,fun i j p q _ h=>nomatch h⟩
 |l::r,h=>by
  have h':(Yi l++Yi r.flatten).Nodup:=by simpa[Yi]using h
  obtain⟨h1,h2,h3⟩:=List.nodup_append.mp h'
  obtain⟨a,b⟩:=P0 h2
  have cross:∀(j:Nat) (p q:Addr×HO),p∈l->q∈r[j]?.getD []->p.1≠q.1:=fun j p q hp hq=>h3 _ (List.mem_map.mpr ⟨p,hp,rfl⟩) _ (List.mem_map.mpr ⟨q,Pz hq,rfl⟩)
  refine⟨fun i=>?_,fun i j p q hij hp hq=>?_⟩
  ·cases i with
   |zero=>exact h1
   |succ i=>exact a i
  ·cases i with
   |zero=>
    cases j with
    |zero=>exact absurd rfl hij
    |succ j=>exact cross j p q hp hq
   |succ i=>
    cases j with
    |zero=>exact Ne.symm (cross i q p hq hp)
    |succ j=>exact b i j p q (fun z=>hij (by rw[z])) hp hq
theorem Zfe{G0 F0:Hp}{x:Ib}{as:List Addr}:∀{j:Nat} {δ':Ya} {ts':List Tr},SR (⟨G0,F0,x⟩:Ent K) F H σ δ own->δ'=δ.drop j->R7 as δ'=some ts'->
  TrsOk K F ts' (as.map V.ref) ((List.range' j as.length).flatMap own):=by
 induction as with
 |nil=>intro j δ' ts' s e h;cases h;exact .nil
 |cons a as ih=>
  intro j δ' ts' s e h
  cases δ' with
  |nil=>simp at h
  |cons o δ'=>
   have hj:δ[j]? =some o:=by
    have:=congrArg (·[0]?) e
    simpa using this.symm
   have e2:δ'=δ.drop (j+1):=by
    have:=congrArg List.tail e
    simpa using this
   unfold R7 at h
   split at h
   ·rename_i e1;cases e1
   ·rename_i b t δ2 e1 e3
    cases e1;cases e3
    split at h
    ·rename_i hb
     refine bnd1 h fun ts h1 h2=>?_
     cases h2
     obtain⟨v,hv,sh⟩:=s.at' j _ hj
     obtain⟨hp,r⟩:=Jb sh
     cases hp b rfl
     subst hb
     exact .cons r (ih s e2 h1)
    ·cases h
   ·cases h
theorem P1{G0 F0:Hp}{x:Ib}(s:SR (⟨G0,F0,x⟩:Ent K) F H σ δ own):∀(m j:Nat),(Yi ((List.range' j m).flatMap own)).Nodup/\∀p∈(List.range' j m).flatMap own,(∃i,j<=i/\p∈own i)
 |0,j=>⟨List.nodup_nil,fun _ h=>nomatch h⟩
 |m+1,j=>by
  obtain⟨a,b⟩:=P1 s m (j+1)
  rw[List.range'_succ,List.flatMap_cons]
  refine⟨?_,fun p hp=>?_⟩
  ·show(Yi _).Nodup
   rw[Yi,List.map_append]
   refine List.nodup_append.mpr ⟨s.nod j,a,fun u hu w hw z=>?_⟩
   obtain⟨p,hp,rfl⟩:=List.mem_map.mp hu
   obtain⟨q,hq,rfl⟩:=List.mem_map.mp hw
   obtain⟨i,hi,hq⟩:=b q hq
   exact s.sep j i p q (by omega) hp hq z
  ·rcases List.mem_append.mp hp with h|h
   ·exact⟨j,Nat.le_refl _,h⟩
   ·obtain⟨i,hi,h⟩:=b p h
    exact⟨i,by omega,h⟩
theorem L3{N:Nat}{as:List Addr}{ts:List Tr}{ds:List D}(h:as.length+ds.length<=N)(hl:ts.length=as.length):(Uy N as ts ds).length=N:=by
 simp[Uy,hl];omega
theorem Xg{N:List Str}{m n:Nat}{f:FS}{vs:List V}{E':XK}(hN:m+n<=N.length)(h:Gp K m n (Jy f N.length) vs H Q E'):∃G F,Zq (entX G F E':Ent K) f {nx:=fun _ H'=>Q .non H',rt:=Q} (L2.start N vs) H:=by
 obtain⟨F,as,ts,ns,us,ds,o,rfl,hm,le,tr,r1,hn,nd,ok,e,k⟩:=h
 refine⟨Wi H ns,F,?_⟩
 obtain⟨nss,en,ln,ht⟩:=tr.split
 obtain⟨nod,sep⟩:=P0 (en▸nd)
 have hta:ts.length=as.length:=by have:=tr.length;simpa using this
 have hus:us.length=ds.length:=r1.length.symm
 have s0:SR (entX (Wi H ns) F E':Ent K) F H (L2.start N (as.map V.ref++us)) (Uy N.length as ts ds) fun i=>nss[i]?.getD []:=by
  refine⟨le,fun b o e=>.inl e,Ej,?_,fun i sv ei=>?_,nod,fun i p hp=>?_,sep⟩
  ·rw[L3 (by omega) hta]
   simp[L2.start];omega
  ·have hs:∀v,(as.map V.ref++us)[i]? =some v->(L2.start N (as.map V.ref++us))[i]? =some (some v):=fun v hv=>by
    have hi:=(List.getElem?_eq_some_iff.mp hv).1
    unfold L2.start
    rw[List.getElem?_append_left (by simpa using hi),List.getElem?_map,hv];rfl
   by_cases h1:i<as.length
   ·have hz:(List.zipWith (fun a t=>some (SV.oG (some a) t)) as ts).length=as.length:=by simp[hta]
    rw[Uy,List.getElem?_append_left (by rw[hz];exact h1)]at ei
    have ha:as[i]? =some as[i]:=by simp[h1]
    have ht2:ts[i]? =some (ts[i]'(by omega)):=by simp[hta,h1]
    rw[List.getElem?_zipWith,ha,ht2]at ei
    cases ei
    refine⟨.ref as[i],hs _ ?_,.oG (fun b hb=>by cases hb;rfl) (ht i _ _ ht2 ?_)⟩
    ·rw[List.getElem?_append_left (by simpa using h1)];simp[h1]
    ·simp[h1]
   ·have hz:(List.zipWith (fun a t=>some (SV.oG (some a) t)) as ts).length=as.length:=by simp[hta]
    rw[Uy,List.getElem?_append_right (by rw[hz];omega),hz]at ei
    by_cases h2:i- as.length<ds.length
    ·rw[List.getElem?_append_left (by simpa using h2),List.getElem?_map]at ei
     cases hd:ds[i- as.length]? with
     |none=>rw[hd]at ei;cases ei
     |some d=>
      rw[hd]at ei
      cases ei
      obtain⟨v,hv,rv⟩:=r1.get hd
      have hno:nss[i]?.getD []=[]:=by
       rw[List.getElem?_eq_none (by omega)];rfl
      rw[hno]
      refine⟨v,hs v ?_,.fz rv⟩
      rw[List.getElem?_append_right (by simp;omega)]
      simpa using hv
    ·rw[List.getElem?_append_right (by simp;omega),List.getElem?_replicate]at ei
     split at ei<;> cases ei
  ·have hp':p∈ns:=by rw[en];exact Pz hp
   exact⟨(ok p hp').1,W1 (List.mem_map.mpr ⟨p,hp',rfl⟩),(ok p hp').2⟩
 have fin:∀{δ':Ya} {ts':List Tr} {σ':L2.St} {H' F':Hp} {own':Nat->Zg},R7 as δ'=some ts'->SR (entX (Wi H ns) F E':Ent K) F' H' σ' δ' own'->∃ns',TrsOk K F' ts' (as.map V.ref) ns'/\(Yi ns').Nodup/\∀p∈ns',F' p.1=none/\Wi H ns p.1=none/\H' p.1=some p.2:=fun{δ' ts' σ' H' F' own'} hl s'=>by
  obtain⟨n1,n2⟩:=P1 s' as.length 0
  refine⟨_,Zfe (j:=0) s' rfl hl,n1,fun p hp=>?_⟩
  obtain⟨i,_,hi⟩:=n2 p hp
  exact s'.ok i p hi
 unfold Jy at e
 split at e
 ·rename_i d δ1 hf
  refine bnd1 e fun ts' hl e=>?_
  cases e
  refine⟨F,_,_,.rg d δ1,s0,hf,fun v σ' H' F' own' sF s' r'=>?_⟩
  obtain⟨ns',t1,t2,t3⟩:=fin hl s'
  exact k H' F' ns' s'.old sF s'.le s'.fro t1 t2 t3 v r'
 ·rename_i δ1 hf
  refine bnd1 e fun ts' hl e=>?_
  cases e
  refine⟨F,_,_,.nx δ1,s0,hf,fun σ' H' F' own' sF s'=>?_⟩
  obtain⟨ns',t1,t2,t3⟩:=fin hl s'
  exact k H' F' ns' s'.old sF s'.le s'.fro t1 t2 t3 .non .non
 ·rename_i x δ1 hf
  refine bnd1 e fun ts' hl e=>?_
  cases e
  refine⟨F,_,_,.ex x δ1,s0,hf,fun σ' H' F' own' cls od sF s' r'=>?_⟩
  obtain⟨ns',t1,t2,t3⟩:=fin hl s'
  exact k H' F' ns' s'.old sF s'.le s'.fro t1 t2 t3 cls od r'
 ·cases e
end
end DL
namespace DL
open PySem PySem.Spec PyProof.Rows L2
variable{K:PySem.W.Frag}
@[simp] noncomputable def Tr.isRef:Tr->Bool
 | .lf _=>false
 |_=>true
theorem TrOk.ref{F:Hp}{u:Tr}{w:V}{ns:Zg}(h:TrOk K F u w ns)(hr:u.isRef=true):∃a,w= .ref a:=by
 cases h with
 |lf _=>cases hr
 |dc _ _ _=>exact⟨_,rfl⟩
 |tp _ _=>exact⟨_,rfl⟩
 |ls _=>exact⟨_,rfl⟩
 |ob _ _ _=>exact⟨_,rfl⟩
section
variable{Z:Ent K}{F H:Hp}{σ:L2.St}{δ:Ya}{own:Nat->Zg}{Q:VK}{E:Ends}
theorem SR.lent{F' H':Hp}{i:Nat}{t:Tr}{v:V}{sv':SV}{n1 nu n2 ns':Zg}(s:SR Z F H σ δ own)(ht:Z0 δ i=some t)(hv:σ[i]? =some (some v))(eo:own i=n1++(nu++n2))(sh:Shape K F' sv' v (n1++(ns'++n2)))(sH:Zh (Wi H nu) H')(sF:Zh F F')(le':Zh F' H')
  (fro':∀(b:Addr) (o:HO),F' b=some o->F b=some o\/Wi H nu b=none) (nd':(Yi ns').Nodup) (ok':∀p∈ns',F' p.1=none/\Wi H nu p.1=none/\H' p.1=some p.2):∃own',SR Z F' H' σ (δ.set i (some sv')) own':=by
 have sub:∀b,b∈Yi nu->b∈Yi (own i):=fun b hb=>by
  rw[eo,Yi,List.map_append,List.map_append]
  exact List.mem_append_right _ (List.mem_append_left _ hb)
 have cnt:=fun c=>List.nodup_iff_count.mp (s.nod i) c
 rw[eo]at cnt
 have rest:∀p,p∈n1\/p∈n2->p∈own i/\Wi H nu p.1=some p.2:=fun p hp=>by
  have hin:p∈own i:=by
   rw[eo]
   rcases hp with h|h
   ·exact List.mem_append_left _ h
   ·exact List.mem_append_right _ (List.mem_append_right _ h)
  refine⟨hin,?_⟩
  rw[Ym fun hb=>?_]
  ·exact(s.ok i p hin).2.2
  ·have c:=cnt p.1
   have c1:1<=(Yi nu).count p.1:=List.one_le_count_iff.mpr hb
   have c2:1<=(Yi n1).count p.1+(Yi n2).count p.1:=by
    rcases hp with h|h
    ·have:1<=(Yi n1).count p.1:=List.one_le_count_iff.mpr (List.mem_map.mpr ⟨p,h,rfl⟩)
     omega
    ·have:1<=(Yi n2).count p.1:=List.one_le_count_iff.mpr (List.mem_map.mpr ⟨p,h,rfl⟩)
     omega
   simp only[Yi,List.map_append,List.count_append]at c c1 c2
   omega
 have new:∀p,p∈n1++(ns'++n2)->(p∈n1\/p∈n2)\/p∈ns':=fun p hp=>by
  rcases List.mem_append.mp hp with h|h
  ·exact .inl (.inl h)
  ·rcases List.mem_append.mp h with h|h
   ·exact .inr h
   ·exact .inl (.inr h)
 refine⟨_,s.hand1 (Q3 ht) hv (fun b o e=>sH b o ?_) sF le' (fun b o e=>?_) sh ?_ (fun p hp=>?_) fun j hj q hq p hp z=>?_⟩
 ·have hb:b∉Yi (own i):=fun z=>by rw[W1 z]at e;cases e
  rw[Ym hb]at e
  rw[Ym fun z=>hb (sub b z)];exact e
 ·rcases fro' b o e with z|z
  ·exact .inl z
  ·refine .inr ?_
   rcases Q1 z with y|y
   ·exact W1 (sub b y)
   ·by_cases hb:b∈Yi (own i)
    ·exact W1 hb
    ·rw[Ym hb];exact y
 ·rw[List.nodup_iff_count]
  intro c
  have x1:=cnt c
  have x2:=List.nodup_iff_count.mp nd' c
  have x3:(Yi ns').count c=0\/((Yi n1).count c=0/\(Yi n2).count c=0):=by
   by_cases hc:c∈Yi ns'
   ·obtain⟨q,hq,rfl⟩:=List.mem_map.mp hc
    have h0:=(ok' q hq).2.1
    refine .inr ⟨List.count_eq_zero.mpr fun hc'=>?_,List.count_eq_zero.mpr fun hc'=>?_⟩
    ·obtain⟨r,hr,er⟩:=List.mem_map.mp hc'
     have:=(rest r (.inl hr)).2
     rw[er,h0]at this;cases this
    ·obtain⟨r,hr,er⟩:=List.mem_map.mp hc'
     have:=(rest r (.inr hr)).2
     rw[er,h0]at this;cases this
   ·exact .inl (List.count_eq_zero.mpr hc)
  simp only[Yi,List.map_append,List.count_append]at x1 x2 x3⊢
  omega
 ·rcases new p hp with h|h
  ·obtain⟨hin,hh⟩:=rest p h
   obtain⟨y1,y2,y3⟩:=s.ok i p hin
   refine⟨?_,y2,sH _ _ hh⟩
   cases z:F' p.1 with
   |none=>rfl
   |some u=>
    rcases fro' _ u z with y|y
    ·rw[y1]at y;cases y
    ·rw[hh]at y;cases y
  ·obtain⟨y1,y2,y3⟩:=ok' p h
   refine⟨y1,?_,y3⟩
   rcases Q1 y2 with z|z
   ·obtain⟨q,hq,e⟩:=List.mem_map.mp (sub _ z)
    rw[<-e];exact(s.ok i q hq).2.1
   ·exact s.old.free z
 ·rcases new p hp with h|h
  ·exact s.sep i j p q (Ne.symm hj) (rest p h).1 hq z
  ·have h0:=(ok' p h).2.1
   have:Wi H nu q.1=some q.2:=by
    rw[Ym fun hb=>?_]
    ·exact(s.ok j q hq).2.2
    ·obtain⟨r,hr,er⟩:=List.mem_map.mp (sub _ hb)
     exact s.sep i j r q (Ne.symm hj) hr hq er
   rw[<-z,h0]at this;cases this
open Classical in
noncomputable def Jc(i:Nat)(fp:FP)(n:Nat)(g:GG)(fd:FD):FN:=fun δ=>(fp δ).bind fun p=>(Z0 δ i).bind fun t0=>(t0.at' p).bind fun _=>(fd δ).bind fun q=>if q.1.length=n then(Z0 q.2 i).bind fun t=>(t.at' p).bind fun u=>if h:u.isRef=true/\∃o,∀a,g [a] [u] q.1=some o then(match h.2.choose with
 | .v d [u']=>some (.v d (q.2.set i (some (.oG (Wv q.2 i) (t.up p u')))))
 | .x e [u']=>some (.x e (q.2.set i (some (.oG (Wv q.2 i) (t.up p u')))))
 |_=>none)else none else none
@[simp] noncomputable def Zff(δ:Ya)(i:Nat)(p:List Stp)(t:Tr):GO->Option MO
 | .v d [u']=>some (.v d (δ.set i (some (.oG (Wv δ i) (t.up p u')))))
 | .x e [u']=>some (.x e (δ.set i (some (.oG (Wv δ i) (t.up p u')))))
 |_=>none
theorem C9{i n:Nat}{fp:FP}{g:GG}{fd:FD}{δ1:Ya}{p:List Stp}{t0 u0 t u:Tr}{ds:List D}{o:GO}(hp:fp δ=some p)(h0:Z0 δ i=some t0)(h1:t0.at' p=some u0)(hd:fd δ=some (ds,δ1))(hn:ds.length=n)(h2:Z0 δ1 i=some t)(h3:t.at' p=some u)(hr:u.isRef=true)(hg:∀a,g [a] [u] ds=some o):
  Jc i fp n g fd δ=Zff δ1 i p t o:=by
 unfold Jc
 rw[hp,Option.bind_some,h0,Option.bind_some,h1,Option.bind_some,hd,Option.bind_some]
 dsimp only
 rw[if_pos hn,h2,Option.bind_some,h3,Option.bind_some]
 have h:u.isRef=true/\∃o,∀a,g [a] [u] ds=some o:=⟨hr,o,hg⟩
 rw[dif_pos h]
 have hc:h.2.choose=o:=by
  have:=h.2.choose_spec 0
  rw[hg 0]at this
  exact(Option.some.inj this).symm
 rw[hc]
 rfl
noncomputable def MOk(Z:Ent K)(F:Hp)(σ:L2.St)(Q:VK):MO->Prop
 | .v d δ'=>∀v H' F' own',Zh F F'->SR Z F' H' σ δ' own'->Rep K F' d v->Q v H'
 | .x e δ'=>Kk Z F σ e δ'
theorem T6{i n:Nat}{fp:FP}{g:GG}{fd:FD}{r:MO}(s:SR Z F H σ δ own)(e:Jc i fp n g fd δ=some r)(k:MOk Z F σ Q r):∃p t u w,fp δ=some p/\Z0 δ i=some t/\t.at' p=some u/\Xw K σ H i p w/\Wd Z fd σ H fun vs H2=>Gp K 1 n g (w::vs) H2 Q fun cls od H'=>Z.x cls od σ H':=by
 unfold Jc at e
 refine bnd1 e fun p hp e=>?_
 refine bnd1 e fun t0 h0 e=>?_
 refine bnd1 e fun u0 h1 e=>?_
 refine bnd2 e fun ds δ1 hd e=>?_
 dsimp only at e
 split at e
 ·rename_i hn
  refine bnd1 e fun t h2 e=>?_
  refine bnd1 e fun u h3 e=>?_
  split at e
  ·rename_i hh
   have spec:=hh.2.choose_spec
   generalize hh.2.choose=o at e spec
   obtain⟨v0,w,_,_,_,_,hw,_⟩:=s.part h0 h1
   refine⟨p,t0,u0,w,hp,h0,h1,hw,F,δ,own,ds,δ1,s,hd,fun vs H1 F1 own1 sH sF s1 r1=>?_⟩
   obtain⟨v1,w1,n1,nu,n2,hv1,hw1,eo,ru,up⟩:=s1.part h2 h3
   cases(hw.mono sH).one hw1
   obtain⟨a,rfl⟩:=ru.ref hh.1
   have inu:∀q∈nu,q∈own1 i:=fun q hq=>by rw[eo];exact List.mem_append_right _ (List.mem_append_left _ hq)
   have ndu:(Yi nu).Nodup:=by
    have:=s1.nod i
    rw[eo,Yi,List.map_append,List.map_append]at this
    exact(List.nodup_append.mp (List.nodup_append.mp this).2.1).1
   have tr:TrsOk K F1 [u] [V.ref a] nu:=by have:=TrsOk.cons ru .nil;rw[List.append_nil]at this;exact this
   have fin:∀{H' F':Hp} {ns':Zg} {u':Tr},Zh (Wi H1 nu) H'->Zh F1 F'->Zh F' H'->(∀(b:Addr) (o:HO),F' b=some o->F1 b=some o\/Wi H1 nu b=none)->TrsOk K F' [u'] [V.ref a] ns'->(Yi ns').Nodup->(∀p∈ns',F' p.1=none/\Wi H1 nu p.1=none/\H' p.1=some p.2)->
     ∃own',SR Z F' H' σ (δ1.set i (some (.oG (Wv δ1 i) (t.up p u')))) own':=fun{H' F' ns' u'} sH' sF' le' fro' tr' nd' ok'=>by
    cases tr' with
    | @cons _ _ _ _ m1 _ hu' rest=>
     cases rest
     rw[List.append_nil]at nd' ok'
     exact s1.lent h2 hv1 eo (up F' u' m1 sF' hu') sH' sF' le' fro' nd' ok'
   refine⟨F1,[a],[u],nu,vs,ds,o,rfl,rfl,s1.le,tr,r1,hn,ndu,fun q hq=>let z:=s1.ok i q (inu q hq);⟨z.1,z.2.2⟩,spec a,fun H' F' ns' sH' sF' le' fro' tr' nd' ok'=>?_⟩
   split at e
   ·rename_i d u'
    cases e
    obtain⟨own',s'⟩:=fin sH' sF' le' fro' tr' nd' ok'
    exact fun v rv=>k v H' F' own' (sF.trans sF') s' rv
   ·rename_i x u'
    cases e
    obtain⟨own',s'⟩:=fin sH' sF' le' fro' tr' nd' ok'
    exact fun cls od rx=>k H' F' own' cls od (sF.trans sF') s' rx
   ·cases e
  ·cases e
 ·cases e
theorem Fm{i n:Nat}{fp:FP}{g:GG}{fd:FD}(h:Ws Z (Jc i fp n g fd) σ H Q):Bk (Gp K 1 n g) Z.x (Q5 (Od K i fp) (Wd Z fd)) σ H Q:=by
 obtain⟨F,δ,own,r,s,e,k⟩:=h
 obtain⟨p,t,u,w,hp,ht,hu,hw,q⟩:=T6 (Q:=Q) s e (by cases r<;> exact k)
 unfold Bk Q5
 exact Op s hp ht hu hw q
end
end DL
namespace DL
open PySem PySem.Spec PyProof.Rows L2
variable{K:PySem.W.Frag}
section
variable{Z:Ent K}{F H:Hp}{σ:L2.St}{δ:Ya}{own:Nat->Zg}{Q:VK}{E:Ends}
theorem SR.lent2{F' H':Hp}{i j:Nat}{t r:Tr}{v w:V}{sv' sw':SV}{n1 nu n2 nu' m1 nw m2 nw':Zg}(s:SR Z F H σ δ own)(hij:i≠j)(ht:Z0 δ i=some t)(hr:Z0 δ j=some r)(hv:σ[i]? =some (some v))(hw:σ[j]? =some (some w))(va:∃a,v= .ref a)(wb:∃b,w= .ref b)(eo:own i=n1++(nu++n2))(ep:own j=m1++(nw++m2))
  (sh:Shape K F' sv' v (n1++(nu'++n2))) (sg:Shape K F' sw' w (m1++(nw'++m2))) (sH:Zh (Wi H (nu++nw)) H') (sF:Zh F F') (le':Zh F' H')
  (fro':∀(b:Addr) (o:HO),F' b=some o->F b=some o\/Wi H (nu++nw) b=none) (nd':(Yi (nu'++nw')).Nodup) (ok':∀p∈nu'++nw',F' p.1=none/\Wi H (nu++nw) p.1=none/\H' p.1=some p.2):∃own',SR Z F' H' σ ((δ.set i (some sv')).set j (some sw')) own':=by
 obtain⟨a,rfl⟩:=va
 obtain⟨b,rfl⟩:=wb
 have cnt:∀c,(Yi (n1++(nu++n2))).count c+(Yi (m1++(nw++m2))).count c<=1:=fun c=>by
  have x1:=List.nodup_iff_count.mp (s.nod i) c
  have x2:=List.nodup_iff_count.mp (s.nod j) c
  rw[eo]at x1
  rw[ep]at x2
  by_cases hc:c∈Yi (own i)
  ·have:c∉Yi (own j):=fun hc'=>by
    obtain⟨p,hp,e1⟩:=List.mem_map.mp hc
    obtain⟨q,hq,e2⟩:=List.mem_map.mp hc'
    exact s.sep i j p q hij hp hq (e1.trans e2.symm)
   rw[ep]at this
   rw[List.count_eq_zero.mpr this];omega
  ·rw[eo]at hc
   rw[List.count_eq_zero.mpr hc];omega
 have sub:∀c,c∈Yi (nu++nw)->c∈Yi (own i++own j):=fun c hc=>by
  rw[Yi,List.map_append]at hc⊢
  rcases List.mem_append.mp hc with h|h
  ·refine List.mem_append_left _ ?_
   rw[eo,List.map_append,List.map_append]
   exact List.mem_append_right _ (List.mem_append_left _ h)
  ·refine List.mem_append_right _ ?_
   rw[ep,List.map_append,List.map_append]
   exact List.mem_append_right _ (List.mem_append_left _ h)
 have rest:∀p,(p∈n1\/p∈n2)\/(p∈m1\/p∈m2)->(p∈own i++own j)/\F p.1=none/\Wi H (nu++nw) p.1=some p.2:=fun p hp=>by
  have hin:p∈own i++own j:=by
   rw[eo,ep]
   rcases hp with(h|h)| (h|h)
   ·exact List.mem_append_left _ (List.mem_append_left _ h)
   ·exact List.mem_append_left _ (List.mem_append_right _ (List.mem_append_right _ h))
   ·exact List.mem_append_right _ (List.mem_append_left _ h)
   ·exact List.mem_append_right _ (List.mem_append_right _ (List.mem_append_right _ h))
  have hok:F p.1=none/\H p.1=some p.2:=by
   rcases List.mem_append.mp hin with h|h
   ·exact⟨(s.ok i p h).1,(s.ok i p h).2.2⟩
   ·exact⟨(s.ok j p h).1,(s.ok j p h).2.2⟩
  refine⟨hin,hok.1,?_⟩
  rw[Ym fun hb=>?_]
  ·exact hok.2
  ·have c:=cnt p.1
   have c1:1<=(Yi (nu++nw)).count p.1:=List.one_le_count_iff.mpr hb
   have c2:1<=(Yi n1).count p.1+(Yi n2).count p.1+(Yi m1).count p.1+(Yi m2).count p.1:=by
    have mk:∀l:Zg,p∈l->1<=(Yi l).count p.1:=fun l h=>List.one_le_count_iff.mpr (List.mem_map.mpr ⟨p,h,rfl⟩)
    rcases hp with(h|h)| (h|h)
    ·have:=mk n1 h;omega
    ·have:=mk n2 h;omega
    ·have:=mk m1 h;omega
    ·have:=mk m2 h;omega
   simp only[Yi,List.map_append,List.count_append]at c c1 c2
   omega
 have new:∀p,p∈(n1++(nu'++n2))++(m1++(nw'++m2))->((p∈n1\/p∈n2)\/(p∈m1\/p∈m2))\/p∈nu'++nw':=fun p hp=>by
  simp only[List.mem_append]at hp⊢
  rcases hp with(h|h|h)| (h|h|h)<;> simp[h]
 refine⟨_,s.hand2 hij (Q3 ht) (Q3 hr) hv hw (fun c o e=>sH c o ?_) sF le' (fun c o e=>?_) sh sg ?_ fun p hp=>?_⟩
 ·have hb:c∉Yi (own i++own j):=fun z=>by rw[W1 z]at e;cases e
  rw[Ym hb]at e
  rw[Ym fun z=>hb (sub c z)];exact e
 ·rcases fro' c o e with z|z
  ·exact .inl z
  ·refine .inr ?_
   rcases Q1 z with y|y
   ·exact W1 (sub c y)
   ·by_cases hb:c∈Yi (own i++own j)
    ·exact W1 hb
    ·rw[Ym hb];exact y
 ·rw[List.nodup_iff_count]
  intro c
  have x1:=cnt c
  have x2:=List.nodup_iff_count.mp nd' c
  have x3:(Yi (nu'++nw')).count c=0\/(((Yi n1).count c=0/\(Yi n2).count c=0)/\(Yi m1).count c=0/\(Yi m2).count c=0):=by
   by_cases hc:c∈Yi (nu'++nw')
   ·obtain⟨q,hq,rfl⟩:=List.mem_map.mp hc
    have h0:=(ok' q hq).2.1
    have no:∀l:Zg,(∀p∈l,(p∈n1\/p∈n2)\/(p∈m1\/p∈m2))->(Yi l).count q.1=0:=fun l hl=>List.count_eq_zero.mpr fun hc'=>by
     obtain⟨r,hr,er⟩:=List.mem_map.mp hc'
     have:=(rest r (hl r hr)).2.2
     rw[er,h0]at this;cases this
    exact .inr ⟨⟨no n1 fun p h=>.inl (.inl h),no n2 fun p h=>.inl (.inr h)⟩,no m1 fun p h=>.inr (.inl h),no m2 fun p h=>.inr (.inr h)⟩
   ·exact .inl (List.count_eq_zero.mpr hc)
  simp only[Yi,List.map_append,List.count_append]at x1 x2 x3⊢
  omega
 ·rcases new p hp with h|h
  ·obtain⟨hin,y1,hh⟩:=rest p h
   refine⟨?_,W1 (List.mem_map.mpr ⟨p,hin,rfl⟩),sH _ _ hh⟩
   cases z:F' p.1 with
   |none=>rfl
   |some u=>
    rcases fro' _ u z with y|y
    ·rw[y1]at y;cases y
    ·rw[hh]at y;cases y
  ·obtain⟨y1,y2,y3⟩:=ok' p h
   refine⟨y1,?_,y3⟩
   rcases Q1 y2 with z|z
   ·exact W1 (sub _ z)
   ·by_cases hb:p.1∈Yi (own i++own j)
    ·exact W1 hb
    ·rw[Ym hb];exact z
@[simp] noncomputable def P2(δ:Ya)(i j:Nat)(p q:List Stp)(t r:Tr):GO->Option MO
 | .v d [u',w']=>some (.v d ((δ.set i (some (.oG (Wv δ i) (t.up p u')))).set j (some (.oG (Wv δ j) (r.up q w')))))
 |_=>none
open Classical in
noncomputable def Jd(i j:Nat)(fp fq:FP)(n:Nat)(g:GG)(fd:FD):FN:=fun δ=>(fp δ).bind fun p=>(fq δ).bind fun q=>(Z0 δ i).bind fun t0=>(t0.at' p).bind fun _=>(Z0 δ j).bind fun r0=>(r0.at' q).bind fun _=>(fd δ).bind fun z=>if z.1.length=n/\i≠j then(Z0 z.2 i).bind fun t=>(t.at' p).bind fun u=>(Z0 z.2 j).bind fun r=>(r.at' q).bind fun w=>
 if h:(u.isRef=true/\w.isRef=true/\t.isRef=true/\r.isRef=true)/\∃o,∀a b,g [a,b] [u,w] z.1=some o then P2 z.2 i j p q t r h.2.choose else none else none
theorem Xh{i j n:Nat}{fp fq:FP}{g:GG}{fd:FD}{δ1:Ya}{p q:List Stp}{t0 u0 r0 w0 t u r w:Tr}{ds:List D}{o:GO}(hp:fp δ=some p)(hq:fq δ=some q)(h0:Z0 δ i=some t0)(h1:t0.at' p=some u0)(k0:Z0 δ j=some r0)(k1:r0.at' q=some w0)(hd:fd δ=some (ds,δ1))(hn:ds.length=n)(hij:i≠j)(h2:Z0 δ1 i=some t)(h3:t.at' p=some u)(k2:Z0 δ1 j=some r)(k3:r.at' q=some w)(hr:u.isRef=true/\w.isRef=true/\t.isRef=true/\r.isRef=true)(hg:∀a b,g [a,b] [u,w] ds=some o):
  Jd i j fp fq n g fd δ=P2 δ1 i j p q t r o:=by
 unfold Jd
 rw[hp,Option.bind_some,hq,Option.bind_some,h0,Option.bind_some,h1,Option.bind_some,k0,Option.bind_some,k1,Option.bind_some,hd,Option.bind_some]
 dsimp only
 rw[if_pos ⟨hn,hij⟩,h2,Option.bind_some,h3,Option.bind_some,k2,Option.bind_some,k3,Option.bind_some]
 have h:(u.isRef=true/\w.isRef=true/\t.isRef=true/\r.isRef=true)/\∃o,∀a b,g [a,b] [u,w] ds=some o:=⟨hr,o,hg⟩
 rw[dif_pos h]
 have hc:h.2.choose=o:=by
  have:=h.2.choose_spec 0 0
  rw[hg 0 0]at this
  exact(Option.some.inj this).symm
 rw[hc]
theorem Zbq{i j n:Nat}{fp fq:FP}{g:GG}{fd:FD}(h:Ws Z (Jd i j fp fq n g fd) σ H Q):Bk (Gp K 2 n g) Z.x (Q5 (Od K i fp) (Q5 (Od K j fq) (Wd Z fd))) σ H Q:=by
 obtain⟨F,δ,own,rr,s,e,k⟩:=h
 unfold Jd at e
 refine bnd1 e fun p hp e=>?_
 refine bnd1 e fun q hq e=>?_
 refine bnd1 e fun t0 h0 e=>?_
 refine bnd1 e fun u0 h1 e=>?_
 refine bnd1 e fun r0 k0 e=>?_
 refine bnd1 e fun w0 k1 e=>?_
 refine bnd2 e fun ds δ1 hd e=>?_
 dsimp only at e
 split at e
 ·rename_i hn
  refine bnd1 e fun t h2 e=>?_
  refine bnd1 e fun u h3 e=>?_
  refine bnd1 e fun r k2 e=>?_
  refine bnd1 e fun w k3 e=>?_
  split at e
  ·rename_i hh
   have spec:=hh.2.choose_spec
   generalize hh.2.choose=o at e spec
   obtain⟨v0,w1,_,_,_,_,hw1,_⟩:=s.part h0 h1
   obtain⟨v2,w2,_,_,_,_,hw2,_⟩:=s.part k0 k1
   unfold Bk Q5
   refine Op s hp h0 h1 hw1 (Op s hq k0 k1 hw2 ⟨F,δ,own,ds,δ1,s,hd,fun vs H1 F1 own1 sH sF s1 r1=>?_⟩)
   obtain⟨va,wa,n1,nu,n2,hva,hwa,eo,ru,up⟩:=s1.part h2 h3
   obtain⟨vb,wb,m1,nw,m2,hvb,hwb,ep,rw',uq⟩:=s1.part k2 k3
   cases(hw1.mono sH).one hwa
   cases(hw2.mono sH).one hwb
   obtain⟨a,rfl⟩:=ru.ref hh.1.1
   obtain⟨b,rfl⟩:=rw'.ref hh.1.2.1
   obtain⟨_,_,_,rt⟩:=s1.tree h2
   obtain⟨_,_,_,rt'⟩:=s1.tree k2
   have hva':∃a,va= .ref a:=by
    obtain⟨x,hx,_,rx⟩:=s1.tree h2
    rw[hva]at hx;cases hx
    exact rx.ref hh.1.2.2.1
   have hvb':∃a,vb= .ref a:=by
    obtain⟨x,hx,_,rx⟩:=s1.tree k2
    rw[hvb]at hx;cases hx
    exact rx.ref hh.1.2.2.2
   have inu:∀x∈nu,x∈own1 i:=fun x hx=>by rw[eo];exact List.mem_append_right _ (List.mem_append_left _ hx)
   have inw:∀x∈nw,x∈own1 j:=fun x hx=>by rw[ep];exact List.mem_append_right _ (List.mem_append_left _ hx)
   have nd0:(Yi (nu++nw)).Nodup:=by
    have x1:=s1.nod i
    have x2:=s1.nod j
    rw[eo,Yi,List.map_append,List.map_append]at x1
    rw[ep,Yi,List.map_append,List.map_append]at x2
    rw[Yi,List.map_append]
    refine List.nodup_append.mpr ⟨(List.nodup_append.mp (List.nodup_append.mp x1).2.1).1,(List.nodup_append.mp (List.nodup_append.mp x2).2.1).1,fun y hy z hz=>?_⟩
    obtain⟨y',hy',rfl⟩:=List.mem_map.mp hy
    obtain⟨z',hz',rfl⟩:=List.mem_map.mp hz
    exact s1.sep i j y' z' hn.2 (inu _ hy') (inw _ hz')
   have tr:TrsOk K F1 [u,w] [V.ref a,V.ref b] (nu++nw):=by have:=TrsOk.cons ru (TrsOk.cons rw' .nil);rw[List.append_nil]at this;exact this
   refine⟨F1,[a,b],[u,w],nu++nw,vs,ds,o,rfl,rfl,s1.le,tr,r1,hn.1,nd0,fun x hx=>?_,spec a b,fun H' F' ns' sH' sF' le' fro' tr' nd' ok'=>?_⟩
   ·rcases List.mem_append.mp hx with h|h
    ·have z:=s1.ok i x (inu x h);exact⟨z.1,z.2.2⟩
    ·have z:=s1.ok j x (inw x h);exact⟨z.1,z.2.2⟩
   unfold P2 at e
   split at e
   ·rename_i d u' w'
    cases e
    cases tr' with
    | @cons _ _ _ _ x1 _ hu' rest=>
     cases rest with
     | @cons _ _ _ _ x2 _ hw' rest=>
      cases rest
      rw[List.append_nil]at nd' ok'
      obtain⟨own',s'⟩:=s1.lent2 hn.2 h2 k2 hva hvb hva' hvb' eo ep (up F' u' x1 sF' hu') (uq F' w' x2 sF' hw') sH' sF' le' fro' nd' ok'
      exact fun v rv=>k v H' F' own' (sF.trans sF') s' rv
   ·cases e
  ·cases e
 ·cases e
end
section
variable{X:Cx}{e:Expr}{i:Nat}{fp:FP}{pos:Pos}
theorem Wa(i:Nat){x:Str}(hN:X.N[i]? =some x:=by rfl)(hv:Km X.env.scope x:=by first|exact Or.inl rfl|exact Or.inr (Or.inl rfl)|exact Or.inr (Or.inr rfl))(hd:(x==("__debug__":Str))=false:=by decide)(hcd:(x==("__classdict__":Str))=false:=by decide):PE X (.Name x pos) (Od X.K i Oq):=(Q4 hN hv hd hcd).imp fun _ _ _ h=>Zn3 h
theorem Ek{c x:Str}(kn:∀C,Yf X.K c C->Cls X.K C/\W9 X.K C x)(he:PE X e (Od X.K i fp))(hb:attributeBase e x X.env (eval e X.env)=eval e X.env:=by rfl):PE X (.Attribute e x pos) (Od X.K i (plF c x fp)):=(Hr he hb).imp fun _ _ _ h=>Zn4 kn h
theorem El(j:Nat){y:Str}{p:Pos}(hu:X.A.units+1<cLine)(he:PE X e (Od X.K i fp))(hN:X.N[j]? =some y:=by rfl)(hv:Km X.env.scope y:=by first|exact Or.inl rfl|exact Or.inr (Or.inl rfl)|exact Or.inr (Or.inr rfl))(hd:(y==("__debug__":Str))=false:=by decide)(hcd:(y==("__classdict__":Str))=false:=by decide)(hs:De (.Name y p):=by exact fun _ _=>rfl):
  PE X (.Subscript e (.Name y p) pos) (Od X.K i (plK j fp)):=(Nw hu he (Q4 hN hv hd hcd) hs).imp fun _ _ _ h=>Zn5 h
theorem P3(n:Nat){j:Nat}{p:Pos}(he:PE X e (Od X.K i fp))(hs:B4 (.Constant (.int n) j p):=by exact fun _ _=>rfl):PE X (.Subscript e (.Constant (.int n) j p) pos) (Od X.K i (plI n fp)):=(Nu (Aq.or Ap) he Ko hs).imp fun _ _ _ h=>Zn6 h
theorem Em(j:Nat){y:Str}{p:Pos}(he:PE X e (Od X.K i fp))(hN:X.N[j]? =some y:=by rfl)(hv:Km X.env.scope y:=by first|exact Or.inl rfl|exact Or.inr (Or.inl rfl)|exact Or.inr (Or.inr rfl))(hd:(y==("__debug__":Str))=false:=by decide)(hcd:(y==("__classdict__":Str))=false:=by decide)(hs:B4 (.Name y p):=by exact fun _ _=>rfl):
  PE X (.Subscript e (.Name y p) pos) (Od X.K i (Xx j fp)):=(Nu (Aq.or Ap) he (Q4 hN hv hd hcd) hs).imp fun _ _ _ h=>Zn7 h
end
end DL
namespace L2
open PySem PySem.Spec PyProof.Rows
noncomputable def Zbr(C:Addr)(m:Str)(sp:Sp)(EX:Ib)(ta:TE)(t:TA):TE:=fun σ H Q=>ta σ H fun x H1=>∃a dx fs,x= .ref a/\H1 a=some (.ins C dx fs)/\fs.lookup m=none/\t σ H1 fun vs H2=>sp (x::vs) H2 Q fun cls od H'=>EX cls od σ H'
theorem P4{X:Cx}{EX:Ib}{k:Nat}{f:Addr}{fd:FuncData}{ps:List Str}{sp:Sp}{pins:List (Addr×Obj)}{σ:St}{H:Hp}{s:Shared}{Q:VK}{us:List Value}{vs:List V}(F:FnOk X.prog X.w X.K X.mg X.base (Oc X.prog X.w) k f fd ps sp)(hr:Room k X.A)(hb:Qf X.K fd ps [])
  (th:Ub X EX) (I:Inv X pins σ H s) (r:Yb vs us) (q:sp vs H Q fun cls od H'=>EX cls od σ H'):wpAny (model X.prog X.w) X.A (call (.ref f) us) (EP X pins σ Q) X.xe s:=by
 have hl:(us++[]).length=ps.length:=by rw[List.append_nil,<-r.length];exact F.len _ _ _ _ q
 have bb:=hb s us I.kIn hl
 rw[List.append_nil]at bb
 refine wpAny_call (codeAny_mono (F.run X.A X.stack s H ⟨us,[]⟩ us vs Q _ hr I.env0 bb r q) fun r' s' hq=>?_)
 cases r' with
 |error e=>exact th _ _ _ _ _ _ I hq
 |ok fl=>
  cases fl with
  |ret u=>exact I.after hq
  |next=>exact False.elim hq
  |brk=>exact False.elim hq
  |cont=>exact False.elim hq
theorem Zbs{X:Cx}{EX:Ib}{k:Nat}{C f:Addr}{fd:FuncData}{ps:List Str}{sp:Sp}{m:Str}{pos apos:Pos}{o e:Expr}{es:List Expr}{ta:TE}{t:TA}{pl:Sem Bool}(he:PE X o ta)(c:Cls X.K C)(hm:Meth X.K C m f)(F:FnOk X.prog X.w X.K X.mg X.base (Oc X.prog X.w) k f fd ps sp)(hr:Room k X.A)(hb:Qf X.K fd ps [])(th:Ub X EX)(ha:PA X (e::es) t)
  (hst:starEach (e::es) X.env=(false,eval e X.env)::starEach es X.env:=by rfl) (hpl:(backTo pos (starEach es X.env)).any (·.1)=false:=by rfl)
  (ht:eval (.Call (.Attribute o m apos) (e::es) [] pos) X.env=(do
   let ov<-eval o X.env
   standAt apos.atName
   let(f,first)<-holding [ov] (getMethod ov m pl)
   callWith pos f first (backTo pos (starEach (e::es) X.env)) (backToKw pos (keywordEach [] X.env))):=by rfl):
  PE X (.Call (.Attribute o m apos) (e::es) [] pos) (Zbr C m sp EX ta t):=by
 intro pins s σ H Q I h
 refine PySem.W.methodCall_KW (pl:=pl) (Y3 (he pins s σ H _ I h) fun u s1 ⟨x,H1,I1,rx,a,dx,fs,ex,ea,l,q⟩=>?_) ht
 subst ex
 obtain rfl:u=Value.ref a:=rx
 refine Ku I1 ea c hm l ?_
 refine PySem.W.callWith_K (first:=[.ref a]) (h₀:=X.base) I.ok.mod.kin hm.kp (Y3 (ha pos pins s1 σ H1 _ I1 q) fun us s2 ⟨vs,H2,I2,r,q2⟩=>⟨I2.kIn,?_⟩) hst hpl
 exact P4 (us:=.ref a::us) (vs:=.ref a::vs) F hr hb th I2 (.cons rfl r) q2
theorem Zbt{X:Cx}{EX:Ib}{k j:Nat}{f:Addr}{fd:FuncData}{ps:List Str}{sp:Sp}{y:Str}{p pos:Pos}{e:Expr}{es:List Expr}{t:TA}(F:FnOk X.prog X.w X.K X.mg X.base (Oc X.prog X.w) k f fd ps sp)(hr:Room k X.A)(hk:PySem.W.keepIn X.K (.ref f)=true)(hb:Qf X.K fd ps [])
  (th:Ub X EX) (hv:PE X (.Name y p) (Jg j)) (ha:PA X (e::es) t) (he:starEach (e::es) X.env=(false,eval e X.env)::starEach es X.env:=by rfl) (hpl:(backTo pos (starEach es X.env)).any (·.1)=false:=by rfl):
  PE X (.Call (.Name y p) (e::es) [] pos) (fun σ H Q=>σ[j]? =some (some (.ref f))/\Bk sp EX t σ H Q):=by
 intro pins s σ H Q I ⟨hj,h⟩
 refine wpAny_Call_Name_kw (Y3 (hv pins s σ H (fun v H'=>v= .ref f/\H'=H) I ⟨_,hj,rfl,rfl⟩) fun u s1 zq9=>?_)
 obtain⟨v,H1,I1,rv,ev,eH⟩:=zq9
 subst ev eH
 obtain rfl:u=Value.ref f:=rv
 refine PySem.W.callWith_K (h₀:=X.base) I.ok.mod.kin hk (Y3 (ha pos pins s1 σ H1 _ I1 h) fun us s2 ⟨vs,H2,I2,r,q⟩=>⟨I2.kIn,?_⟩) he hpl
 exact P4 (us:=us) (vs:=vs) F hr hb th I2 r q
end L2
namespace DL
open PySem PySem.Spec PyProof.Rows L2
section
variable{X:Cx}{Z:Ent X.K}{a b c o:Expr}{fa fb fe:FE}{fx:FX}{fn:FN}{fp fq:FP}{fd:FD}{f g:FS}{pos:Pos}{i j:Nat}
theorem R8{H F:Hp}:Ub X (ent H F:Ent X.K).x:=fun _ _ _ _ _ _ _ ⟨_,_,_,_,_,_,_,_,_,_,_,_,_,_,_,q⟩=>q.elim
theorem En:PE X (.Dict [] [] pos) (Zb Z Xf):=Rq.imp fun _ _ _ h=>Zj3 h
theorem Zfg{p0:Pos}{kt} (ha:PE X a (Zb Z fa)) (h1:starEach [a,.Dict [] [] p0] X.env=(false,eval a X.env)::starEach [.Dict [] [] p0] X.env:=by rfl) (h2:starEach [.Dict [] [] p0] X.env=(false,eval (.Dict [] [] p0) X.env)::starEach [] X.env:=by rfl):PE X (.Tuple [a,.Dict [] [] p0] kt pos) (Zb Z (Zbo fa)):=
 (Hs (Yn ha (Yn Rq Jv h2) h1)).imp fun _ _ _ h=>Zfc h
theorem Eo(j:Nat){y:Str}{p p':Pos}(hu:X.A.units+1<cLine)(ho:PE X o (Od X.K i fp))(hv:PE X a (Zb Z fe))(hN:X.N[j]? =some y:=by rfl)(hvis:Km X.env.scope y:=by first|exact Or.inl rfl|exact Or.inr (Or.inl rfl)|exact Or.inr (Or.inr rfl))(hd:(y==("__debug__":Str))=false:=by decide)(hcd:(y==("__classdict__":Str))=false:=by decide)
  (hs:swapsWith a (some (.Subscript o (.Name y p) p')) pos.line X.env=pure false:=by rfl):PS X (.Assign [.Subscript o (.Name y p) p'] a pos) (Zq Z (Fk i fp j fe)):=(Nx hu ho (Q4 hN hvis hd hcd) hv hs).imp fun _ _ _ h=>Zjz h
theorem Zbu(j:Nat){y:Str}{p apos cpos p0:Pos}{q0:Nat}(ho:PE X o (Od X.K i fp))(hN:X.N[j]? =some y:=by rfl)(hvis:Km X.env.scope y:=by first|exact Or.inl rfl|exact Or.inr (Or.inl rfl)|exact Or.inr (Or.inr rfl))(hd:(y==("__debug__":Str))=false:=by decide)(hcd:(y==("__classdict__":Str))=false:=by decide)
  (m:M2 X o "pop" apos (.Name y p) (.Constant .none q0 p0) cpos:=by exact⟨rfl,rfl,rfl,rfl⟩) (hs:swapsWith (.Call (.Attribute o "pop" apos) [.Name y p,.Constant .none q0 p0] [] cpos) none pos.line X.env=pure false:=by rfl):
  PS X (.Expr (.Call (.Attribute o "pop" apos) [.Name y p,.Constant .none q0 p0] [] cpos) pos) (Zq Z (Xd i fp j)):=(Al (Dm ho (Q4 hN hvis hd hcd) X4 m) hs).imp fun _ _ _ h=>Zj1 h
theorem Zbv{apos cpos:Pos}(ho:PE X o (Od X.K i fp))(ha:PE X a (Qc Z fx))(m:M1 X o "pop" apos a cpos:=by exact⟨rfl,rfl,rfl,rfl⟩)(hs:swapsWith (.Call (.Attribute o "pop" apos) [a] [] cpos) none pos.line X.env=pure false:=by rfl):
  PS X (.Expr (.Call (.Attribute o "pop" apos) [a] [] cpos) pos) (Zq Z (Xe i fp fx)):=(Al (Dl ho ha m) hs).imp fun _ _ _ h=>Zj2 h
theorem Fo(h:PE X a (Qc Z fx)):PE X a (Ws Z (upN fx)):=h.imp fun _ _ _ h=>Zn8 h
theorem Zcx(hv:X.A.units+64<cLine)(ha:PE X a (Ws Z fn))(hb:PE X b (Zb Z fb)):PE X (.Compare a [.Eq] [b] pos) (Ws Z (M3 Gz fn fb)):=(Np (Hk.or (Ln hv)) ha hb (Up _)).imp fun _ _ _ h=>Zbp Zao h
theorem Je(h:PE X a (Ws Z fn)):PS X (.Return (some a) pos) (Zq Z (G1 fn)):=(Kp h).imp fun _ _ _ h=>Zj5 h
theorem Zj8(i:Nat){x:Str}{pos':Pos}(hN:X.N.Nodup)(he:PE X a (Ws Z fn))(hi:X.N[i]? =some x:=by rfl)(hx:Loc X.env.scope x:=by first|exact Or.inl rfl|exact Or.inr rfl)(hs:swapsWith a (some (.Name x pos')) pos.line X.env=pure false:=by rfl)(hf:X.fn x=true\/X.env.scope.names.lookup x=some .local:=by first|exact .inl rfl|exact .inr rfl):
  PS X (.Assign [.Name x pos'] a pos) (Zq Z (Zj6 i fn)):=(Am hN hi hx he hs hf).imp fun _ _ _ h=>Zj7 h
theorem P5{bt be:List Stmt}{p:Pos}(h:PE X a (Ws Z fn))(ha:Ob X bt (Zq Z f))(hb:Ob X be (Zq Z g))(he:∀whole,isTrue a X.env whole=(do let v<-whole;standAt a.pos;holding [v] (truthy v)):=by intro _;rfl):PS X (.If (.UnaryOp .Not a p) bt be pos) (Zq Z (ifN true fn f g)):=
 (Ha (X7 (X6 h he)) ha hb).imp fun _ _ _ h=>Zhd (neg:=true) (fn:=fn) (fun σ H R q=>q) h
theorem Zj9{bt be:List Stmt}{p:Pos}(hv:X.A.units+64<cLine)(h:PE X a (Ws Z fn))(h2:PE X b (Zb Z fb))(ha:Ob X bt (Zq Z f))(hb:Ob X be (Zq Z g)):PS X (.If (.Compare a [.NotEq] [b] p) bt be pos) (Zq Z (ifN false (M3 neX fn fb) f g)):=
 (Ha (Nq (Zgd.or (Zan hv)) h h2 (Up _)) ha hb).imp fun _ _ _ h=>Zhd (fun σ H R q=>Zbp Zg3 q) h
variable{k n:Nat}{ps:List Str}{x:Str}{p:Pos}{es:List Expr}{gg:GG}
theorem R9(S:Sv X.prog X.w X.K X.mg X.base (Oc X.prog X.w) k x ps (Gp X.K 1 n gg))(hr:Room j X.A)(th:Ub X Z.x)(hp:PE X a (Od X.K i fp))(ha:PA X es (Wd Z fd))(hj:k<=j:=by decide)(hg:Gl X x:=by rfl)(hdb:(x==("__debug__":Str))=false:=by decide)(he:starEach (a::es) X.env=(false,eval a X.env)::starEach es X.env:=by rfl)(hpl:(backTo pos (starEach es X.env)).any (·.1)=false:=by rfl):
  PE X (.Call (.Name x p) (a::es) [] pos) (Ws Z (Jc i fp n gg fd)):=
 let⟨_,_,F,b,c,d⟩:=S;(Rt F (hr.mono hj) hg b c d th (Yn hp ha he) hdb he hpl).imp fun _ _ _ h=>Fm h
theorem Ma{i2:Nat}(S:Sv X.prog X.w X.K X.mg X.base (Oc X.prog X.w) k x ps (Gp X.K 2 n gg))(hr:Room j X.A)(th:Ub X Z.x)(hp:PE X a (Od X.K i fp))(hq:PE X b (Od X.K i2 fq))(ha:PA X es (Wd Z fd))(hj:k<=j:=by decide)(hg:Gl X x:=by rfl)(hdb:(x==("__debug__":Str))=false:=by decide)(he:starEach (a::b::es) X.env=(false,eval a X.env)::starEach (b::es) X.env:=by rfl)(he2:starEach (b::es) X.env=(false,eval b X.env)::starEach es X.env:=by rfl)(hpl:(backTo pos (starEach (b::es) X.env)).any (·.1)=false:=by rfl):
  PE X (.Call (.Name x p) (a::b::es) [] pos) (Ws Z (Jd i i2 fp fq n gg fd)):=
 let⟨_,_,F,b,c,d⟩:=S;(Rt F (hr.mono hj) hg b c d th (Yn hp (Yn hq ha he2) he) hdb he hpl).imp fun _ _ _ h=>Zbq h
noncomputable def P6(j:Nat)(L:List (Str×GG))(i:Nat)(fp:FP)(n:Nat)(fd:FD):FN:=fun δ=>match δ[j]? with
 |some (some (.fz (.fn x)))=>(L.lookup x).bind fun g=>Jc i fp n g fd δ
 |_=>none
theorem Q8{x:Str}{g:GG}:∀{L:List (Str×GG)},L.lookup x=some g->(x,g)∈L
 | [],h=>nomatch h
 |p::r,h=>by
  have h:(match x==p.1 with|true=>some p.2|false=>r.lookup x)=some g:=h
  split at h
  ·rename_i e;cases h;rw[show x=p.1 from eq_of_beq e];exact List.mem_cons_self
  ·exact List.mem_cons_of_mem _ (Q8 h)
theorem Zfh{y:Str}{L:List (Str×GG)}(u:Xu X.K X.mg)(S:∀q∈L,Sv X.prog X.w X.K X.mg X.base (Oc X.prog X.w) k q.1 ps (Gp X.K 1 n q.2))(hr:Room k X.A)(th:Ub X Z.x)(hv:PE X (.Name y p) (Jg j))(hp:PE X a (Od X.K i fp))(ha:PA X es (Wd Z fd))(he:starEach (a::es) X.env=(false,eval a X.env)::starEach es X.env:=by rfl)(hpl:(backTo pos (starEach es X.env)).any (·.1)=false:=by rfl):
  PE X (.Call (.Name y p) (a::es) [] pos) (Ws Z (P6 j L i fp n fd)):=by
 intro pins s σ H Q I h
 obtain⟨F,δ,own,r,s0,e,kk⟩:=h
 unfold P6 at e
 split at e
 ·rename_i x hx
  refine bnd1 e fun g e1 e2=>?_
  obtain⟨f,fd',F1,b1,c1,d1⟩:=S _ (Q8 e1)
  obtain⟨v,hσ,sh⟩:=s0.at' j _ hx
  have ev:v= .ref f:=by
   generalize own j=ns at sh
   cases sh with
   |fz r=>
    cases r with
    |fn cl=>
     have:=u cl
     rw[b1]at this
     cases this;rfl
  subst ev
  exact(Zbt F1 hr c1 d1 th hv (Yn hp ha he) he hpl) pins s σ H Q I ⟨hσ,Fm ⟨F,δ,own,r,s0,e2,kk⟩⟩
 ·cases e
end
noncomputable abbrev HBG(P:Program)(w:World)(K:PySem.W.Frag)(mg:Str->Option Value)(base:Heap)(N:List Str)(x:Str)(st:Stmt)(f:Addr)(k:Nat)(f0:FS)(cdv:Value):Prop:=
 ∀{A:Around} {outer:List Env} {s:Shared} {H G0 F0:Hp} {E:XK},N.Nodup->True->Room k (A.deeper (envOfC x (Zv st) s.heap.objs.size f cdv))->(A.deeper (envOfC x (Zv st) s.heap.objs.size f cdv)).units+1<cLine->(A.deeper (envOfC x (Zv st) s.heap.objs.size f cdv)).units+64<cLine->
  Ob (O7 (Oc P w) P w K mg base N x (Zv st) f cdv A outer s H E) (W0 st) (Zq (entX G0 F0 E:Ent K) f0)
section
variable{P:Program}{w:World}{K:PySem.W.Frag}{mg:Str->Option Value}{base:Heap}{x y:Str}{st:Stmt}{f:Addr}{fd:FuncData}
theorem Zn9(a:Fun K x y st f fd)(k m n:Nat)(N:List Str)(g:GG)(f0:FS)(hb:∀{cdv:Value},HBG P w K mg base N y st f k f0 cdv)(S:FnScope N (N.take (m+n)) (Zv st))(hl:m+n=(N.take (m+n)).length)(hg:g=Jy f0 N.length)(hN:m+n<=N.length):FnOk P w K mg base (Oc P w) (k+1) f fd (N.take (m+n)) (Gp K m n g):=by
 subst hg
 exact Fun.okX a S (fun _ _ _ _ h=>(Zfd h).trans hl) fun cdv A outer s H vs Q E hr h=>by
  obtain⟨G0,F0,h⟩:=Xg (N:=N) (f:=f0) hN h
  exact⟨_,hb S.nd trivial hr (Dq hr) hr.units,h⟩
theorem Fp(u:Xu K mg)(a:∃f fd,AtF K x st f fd)(k m n:Nat)(N:List Str)(g:GG)(f0:FS)(hb:∀{f:Addr} {cdv:Value},HBG P w K mg base N x st f k f0 cdv)
  (S:Sc x st (m+n) N:=by exact⟨⟨rfl,rfl,rfl,by decide+kernel,rfl,by decide+kernel,by decide+kernel⟩,by first|exact fun _ _ _ _ _ _ us hl=>of1 (fun _=>rfl) us hl|exact fun _ _ _ _ _ _ us hl=>of2 (fun _ _=>rfl) us hl|exact fun _ _ _ _ _ _ us hl=>of3 (fun _ _ _=>rfl) us hl|exact fun _ _ _ _ _ _ us hl=>of4 (fun _ _ _ _=>rfl) us hl|exact fun _ _ _ _ _ _ us hl=>of5 (fun _ _ _ _ _=>rfl) us hl,rfl⟩)
  (hg:g=Jy f0 N.length:=by rfl) (hN:m+n<=N.length:=by decide):Sv P w K mg base (Oc P w) (k+1) x (N.take (m+n)) (Gp K m n g):=by
 obtain⟨f,fd,a⟩:=a
 exact⟨f,fd,Zn9 a.2 k m n N g f0 hb S.S S.n hg hN,u a.1,a.2.kp,a.2.binds S.B⟩
end
end DL
namespace DL
open PySem PySem.Spec PyProof.Rows L2
variable{K:PySem.W.Frag}
section
variable{Z:Ent K}{F H:Hp}{σ:L2.St}{δ:Ya}{own:Nat->Zg}{Q:VK}{E:Ends}
open Classical in
theorem SR.frame{ns:Zg}(s:SR Z F H σ δ own)(ok:∀p∈ns,F p.1=none/\Z.h p.1=none/\H p.1=some p.2)(sep:∀(i:Nat) (p q:Addr×HO),p∈ns->q∈own i->p.1≠q.1):∃h',SR (⟨h',F,Z.x⟩:Ent K) F H σ δ own/\∀H' F' own' δ',Zh F F'->SR (⟨h',F,Z.x⟩:Ent K) F' H' σ δ' own'->
  SR Z F' H' σ δ' own'/\(∀p∈ns,F' p.1=none/\Z.h p.1=none/\H' p.1=some p.2)/\(∀(i:Nat) (p q:Addr×HO),p∈ns->q∈own' i->p.1≠q.1)/\∀q:Addr,h' q=none->Z.h q=none/\q∉Yi ns:=by
 let h':Hp:=fun b=>if b∈Yi ns then H b else Z.h b
 have hin:∀{p},p∈ns->h' p.1=some p.2:=fun{p} hp=>by
  show(if p.1∈Yi ns then H p.1 else Z.h p.1)=_
  rw[if_pos (List.mem_map.mpr ⟨p,hp,rfl⟩)];exact(ok p hp).2.2
 have hout:∀{b},b∉Yi ns->h' b=Z.h b:=fun{b} hb=>if_neg hb
 have z0:∀q:Addr,h' q=none->Z.h q=none/\q∉Yi ns:=fun q hq=>by
  by_cases hb:q∈Yi ns
  ·obtain⟨p,hp,rfl⟩:=List.mem_map.mp hb
   rw[hin hp]at hq;cases hq
  ·rw[hout hb]at hq;exact⟨hq,hb⟩
 refine⟨h',⟨s.le,fun b o e=>.inl e,fun b o e=>?_,s.len,s.at',s.nod,fun i p hp=>?_,s.sep⟩,fun H' F' own' δ' sF s'=>⟨⟨s'.le,fun b o e=>?_,fun b o e=>?_,s'.len,s'.at',s'.nod,fun i p hp=>?_,s'.sep⟩,fun p hp=>?_,fun i p q hp hq z=>?_,z0⟩⟩
 ·have e:h' b=some o:=e
  by_cases hb:b∈Yi ns
  ·obtain⟨p,hp,rfl⟩:=List.mem_map.mp hb
   rw[hin hp]at e;cases e;exact(ok p hp).2.2
  ·rw[hout hb]at e;exact s.old b o e
 ·obtain⟨a,b,c⟩:=s.ok i p hp
  refine⟨a,?_,c⟩
  show h' p.1=none
  rw[hout fun hb=>?_]
  ·exact b
  ·obtain⟨q,hq,e⟩:=List.mem_map.mp hb;exact sep i q p hq hp e
 ·rcases s'.fro b o e with z|z
  ·exact s.fro b o z
  ·exact .inr (z0 b z).1
 ·refine s'.old b o ?_
  show h' b=some o
  rw[hout fun hb=>?_]
  ·exact e
  ·obtain⟨p,hp,rfl⟩:=List.mem_map.mp hb
   rw[(ok p hp).2.1]at e;cases e
 ·obtain⟨a,b,c⟩:=s'.ok i p hp
  exact⟨a,(z0 _ b).1,c⟩
 ·refine⟨?_,(ok p hp).2.1,s'.old _ _ (hin hp)⟩
  cases z:F' p.1 with
  |none=>rfl
  |some u=>
   rcases s'.fro _ u z with y|y
   ·have y:F p.1=some u:=y
    rw[(ok p hp).1]at y;cases y
   ·have y:h' p.1=none:=y
    rw[hin hp]at y;cases y
 ·have h1:=(s'.ok i q hq).2.1
  exact(z0 _ h1).2 (List.mem_map.mpr ⟨p,hp,z⟩)
noncomputable def exE(K:PySem.W.Frag)(f:FE):TE:=fun σ H Q=>∃Z:Ent K,Zb Z f σ H Q
@[simp] noncomputable def Fq(f1 f2:FE):FE:=fun δ=>(f1 δ).bind fun p=>match p.1 with
 | .tmp (.oG _ t1)=>(f2 p.2).bind fun q=>match q.1 with
  | .tmp (.oG _ t2)=>some (.tmp (.oG none (.ls [t1,t2])),q.2)
  |_=>none
 |_=>none
theorem Zfi{f1 f2:FE}(h:Zb Z (Fq f1 f2) σ H Q):Zid (Q5 (Zb Z f1) (Q5 (exE K f2) Mv)) σ H Q:=by
 obtain⟨F,δ,own,rv,δ',s,e,k⟩:=h
 unfold Fq at e
 refine bnd2 e fun rv1 δ1 e1 e=>?_
 dsimp only at e
 split at e
 ·rename_i pin1 t1
  refine bnd2 e fun rv2 δ2 e2 e=>?_
  dsimp only at e
  split at e
  ·rename_i pin2 t2
   cases e
   refine⟨F,δ,own,_,δ1,s,e1,fun v1 H1 F1 own1 sH1 sF1 s1 r1=>?_⟩
   obtain⟨n1,x1⟩:=r1
   obtain⟨h',s1',back⟩:=s1.frame x1.ok x1.sep
   refine⟨_,F1,δ1,own1,_,_,s1',e2,fun v2 H2 F2 own2 sH2 sF2 s2 r2=>?_⟩
   obtain⟨n2,x2⟩:=r2
   obtain⟨s2',ok2,sep2,z0⟩:=back H2 F2 own2 _ sF2 s2
   refine⟨by show 2<=sizeLine;decide,fun a ha=>?_⟩
   have ha:H2 a=none:=ha
   have sm:=Wg (o:=.lst [v1,v2]) ha
   have okn:∀p∈n1++n2,F2 p.1=none/\Z.h p.1=none/\H2 p.1=some p.2:=fun p hp=>by
    rcases List.mem_append.mp hp with h|h
    ·exact ok2 p h
    ·obtain⟨y1,y2,y3⟩:=x2.ok p h
     exact⟨y1,(z0 _ y2).1,y3⟩
   have hne:∀p∈n1++n2,p.1≠a:=fun p hp z=>by
    have:=(okn p hp).2.2
    rw[z,ha]at this;cases this
   refine k (.ref a) _ F2 own2 (sH1.trans (sH2.trans sm)) (sF1.trans sF2) (s2'.grow sm) ⟨(a,.lst [v1,v2])::(n1++n2),.oG (fun _ z=>nomatch z) (.ls ?_),?_,fun p hp=>?_,fun i p q hp hq z=>?_⟩
   ·have:=TrsOk.cons ((Jb x1.sh).2.mono sF2) (TrsOk.cons (Jb x2.sh).2 .nil)
    rw[List.append_nil]at this;exact this
   ·show(Yi _).Nodup
    rw[Yi,List.map_cons,List.map_append]
    refine List.nodup_cons.mpr ⟨fun hm=>?_,List.nodup_append.mpr ⟨x1.nd,x2.nd,fun y hy z hz e=>?_⟩⟩
    ·rw[<-List.map_append]at hm
     obtain⟨p,hp,e⟩:=List.mem_map.mp hm
     exact hne p hp e
    ·obtain⟨q,hq,rfl⟩:=List.mem_map.mp hz
     rw[e]at hy
     exact(z0 _ (x2.ok q hq).2.1).2 hy
   ·rcases List.mem_cons.mp hp with h|h
    ·subst h;exact⟨s2'.le.free ha,s2'.old.free ha,Zu⟩
    ·obtain⟨y1,y2,y3⟩:=okn p h
     exact⟨y1,y2,by rw[Zl (hne p h)];exact y3⟩
   ·rcases List.mem_cons.mp hp with h|h
    ·subst h
     have:=(s2'.ok i q hq).2.2
     have z:a=q.1:=z
     rw[<-z,ha]at this;cases this
    ·rcases List.mem_append.mp h with h|h
     ·exact sep2 i p q h hq z
     ·exact x2.sep i p q h hq z
  ·cases e
 ·cases e
theorem Fs{x:Str}{v:V}:∀{fvs:List (Str×V)},x∉fvs.map (·.1)->L2.O6 x v fvs=fvs++[(x,v)]
 | [],_=>rfl
 |p::r,h=>by
  have h1:p.1≠x:=fun e=>h (by rw[<-e];exact List.mem_cons_self)
  show(if p.1=x then _ else _)=_
  rw[if_neg h1,Fs fun z=>h (List.mem_cons_of_mem _ z)];rfl
@[simp] noncomputable def Ep(c x:Str)(fe:FE):FS:=fun δ=>(fe δ).bind fun a=>(toTr a.1 a.2).bind fun b=>match Z0 b.2 0 with
 |some (.ob c' fs ts)=>if c'=c/\x∉fs/\fs.length<1000 then some (.nx (b.2.set 0 (some (.oG (Wv b.2 0) (.ob c (fs++[x]) (ts++[b.1]))))))else none
 |_=>none
theorem Zka{c x:Str}{fe:FE}(kn:∀C,Yf K c C->Cls K C/\W9 K C x)(h:Zq Z (Ep c x fe) E σ H):Zl3 K (Jg 0) (Zb Z fe) x E σ H:=by
 obtain⟨F,δ,own,fl,s,e,k⟩:=h
 unfold Ep at e
 refine bnd2 e fun rv δ1 e1 e=>?_
 refine bnd2 e fun tn δ2 e2 e=>?_
 dsimp only at e
 split at e
 ·rename_i c' fs ts ht
  split at e
  ·rename_i hc
   obtain⟨rfl,hx,hl⟩:=hc
   cases e
   refine⟨F,δ,own,rv,δ1,s,e1,fun v H1 F1 own1 sH sF s1 r1=>?_⟩
   obtain⟨F2,own2,nt,sF2,s2,tm⟩:=s1.toTr r1 e2
   obtain⟨w,hw,hp,tr⟩:=s2.tree ht
   refine⟨w,hw,?_⟩
   generalize eo:own2 0=no at tr
   cases tr with
   | @ob a C dx _ _ _ fvs ns cl ek r=>
    subst ek
    have ma:(a,HO.ins C dx fvs)∈own2 0:=by rw[eo];exact List.mem_cons_self
    obtain⟨fa,za,ha⟩:=s2.ok 0 _ ma
    refine⟨a,C,dx,fvs,rfl,ha,(kn C cl).1,(kn C cl).2,by rw[List.length_map]at hl;exact hl,?_⟩
    rw[Fs hx]
    have nd0:=s2.nod 0
    rw[eo]at nd0
    obtain⟨na,nd0⟩:=List.nodup_cons.mp nd0
    have new:∀p∈ns++nt,p.1≠a:=fun p hp z=>by
     rcases List.mem_append.mp hp with h|h
     ·exact na (List.mem_map.mpr ⟨p,h,z⟩)
     ·exact tm.sep 0 p _ h ma z
    have okn:∀p∈ns++nt,F2 p.1=none/\Z.h p.1=none/\H1 p.1=some p.2:=fun p hp=>by
     rcases List.mem_append.mp hp with h|h
     ·exact s2.ok 0 p (by rw[eo];exact List.mem_cons_of_mem _ h)
     ·exact tm.ok p h
    refine k σ _ F2 _ (sF.trans sF2) (s2.hand1 (ns':=(a,.ins C dx (fvs++[(x,v)]))::(ns++nt)) (Q3 ht) hw (fun b o e=>?_) (Zh.refl F2) (fun b o e=>?_) (fun b o e=>.inl e) (.oG hp (.ob cl (by simp) ?_)) ?_ (fun p hp=>?_) fun j hj q hq p hp z=>?_)
    ·have hb:b≠a:=fun z=>by rw[z,W1 (List.mem_map.mpr ⟨_,ma,rfl⟩)]at e;cases e
     rw[Zl hb];exact Ej _ _ e
    ·rw[Zl fun z=>by rw[z,fa]at e;cases e];exact s2.le b o e
    ·rw[List.map_append];exact r.snoc (Jb tm.sh).2
    ·show(Yi _).Nodup
     rw[Yi,List.map_cons]
     refine List.nodup_cons.mpr ⟨fun hm=>?_,?_⟩
     ·obtain⟨p,hp,e⟩:=List.mem_map.mp hm;exact new p hp e
     ·rw[List.map_append]
      refine List.nodup_append.mpr ⟨nd0,tm.nd,fun y hy z hz e=>?_⟩
      obtain⟨p,hp,rfl⟩:=List.mem_map.mp hy
      obtain⟨q,hq,rfl⟩:=List.mem_map.mp hz
      exact tm.sep 0 q p hq (by rw[eo];exact List.mem_cons_of_mem _ hp) e.symm
    ·rcases List.mem_cons.mp hp with h|h
     ·subst h;exact⟨fa,za,Zu⟩
     ·obtain⟨y1,y2,y3⟩:=okn p h
      exact⟨y1,y2,by rw[Zl (new p h)];exact y3⟩
    ·rcases List.mem_cons.mp hp with h|h
     ·subst h;exact s2.sep 0 j _ q (Ne.symm hj) ma hq z
     ·rcases List.mem_append.mp h with h|h
      ·exact s2.sep 0 j p q (Ne.symm hj) (by rw[eo];exact List.mem_cons_of_mem _ h) hq z
      ·exact tm.sep j p q h hq z
  ·cases e
 ·cases e
open Classical in
noncomputable def Gq(c:Str)(g:GG):FE:=fun δ=>if h:∃t,∀a,g [a] [.ob c [] []] []=some (.v .non [t])then some (.tmp (.oG none h.choose),δ)else none
theorem Zbw{c:Str}{g:GG}{t:Tr}(h:∀a,g [a] [.ob c [] []] []=some (.v .non [t])):Gq c g δ=some (.tmp (.oG none t),δ):=by
 unfold Gq
 have hh:∃t,∀a,g [a] [.ob c [] []] []=some (.v .non [t]):=⟨t,h⟩
 rw[dif_pos hh]
 have:=hh.choose_spec 0
 rw[h 0]at this
 cases this
 rfl
theorem Zfj{c:Str}{C:Addr}{g:GG}{E':XK}(cl:Yf K c C)(h:Zb Z (Gq c g) σ H Q):Zgh C (Gp K 1 0 g) [] E' Mv σ H Q:=by
 obtain⟨F,δ,own,rv,δ',s,e,k⟩:=h
 unfold Gq at e
 split at e
 ·rename_i hh
  cases e
  intro x dx hx hdx hne
  have sm1:=Wg (o:=.own x) hdx
  have hx':Ys H dx (.own x) x=none:=by rw[Zl (Ne.symm hne)];exact hx
  have sm2:=Wg (o:=.ins C dx []) hx'
  have sm:=sm1.trans sm2
  have s1:=s.grow sm
  have fx:F x=none:=s.le.free hx
  have zx:Z.h x=none:=s.old.free hx
  refine⟨F,[x],[.ob c [] []],[(x,.ins C dx [])],[],[],_,rfl,rfl,s1.le,.cons (n2:=[]) (.ob (fvs:=[]) cl rfl .nil) .nil,.nil,rfl,Tq,fun p hp=>?_,hh.choose_spec x,fun H' F' ns' sH' sF' le' fro' tr' nd' ok' v rv=>?_⟩
  ·obtain rfl:=List.mem_singleton.mp hp
   exact⟨fx,Zu⟩
  ·cases rv
   refine⟨rfl,?_⟩
   have hh2:∀b,Wi (Ys (Ys H dx (.own x)) x (.ins C dx [])) [(x,.ins C dx [])] b=none->H b=none:=fun b hb=>by
    by_cases hbx:b=x
    ·rw[hbx];exact hx
    ·rw[Ym (fun z=>hbx (by simpa[Yi]using z)),Zl hbx]at hb
     by_cases hbd:b=dx
     ·rw[hbd];exact hdx
     ·rw[Zl hbd]at hb;exact hb
   have keepH:Zh H H':=fun b o e=>by
    refine sH' b o ?_
    have hbx:b≠x:=fun z=>by rw[z,hx]at e;cases e
    rw[Ym (fun z=>hbx (by simpa[Yi]using z))]
    exact sm b o e
   have s2:SR Z F' H' σ δ own:=by
    refine⟨le',fun b o e=>?_,s.old.trans keepH,s.len,fun i sv e=>?_,s.nod,fun i p hp=>?_,s.sep⟩
    ·rcases fro' b o e with z|z
     ·exact s.fro b o z
     ·exact .inr (s.old.free (hh2 b z))
    ·obtain⟨w,h1,h2⟩:=s.at' i sv e
     exact⟨w,h1,h2.mono sF'⟩
    ·obtain⟨y1,y2,y3⟩:=s.ok i p hp
     refine⟨?_,y2,keepH _ _ y3⟩
     cases z:F' p.1 with
     |none=>rfl
     |some u=>
      rcases fro' _ u z with y|y
      ·rw[y1]at y;cases y
      ·rw[hh2 _ y]at y3;cases y3
   cases tr' with
   | @cons _ _ _ _ m1 _ hu' rest=>
    cases rest
    rw[List.append_nil]at nd' ok'
    refine k (.ref x) H' F' own keepH sF' s2 ⟨m1,.oG (fun _ z=>nomatch z) hu',nd',fun p hp=>?_,fun i p q hp hq z=>?_⟩
    ·obtain⟨y1,y2,y3⟩:=ok' p hp
     exact⟨y1,s.old.free (hh2 _ y2),y3⟩
    ·have h1:=hh2 _ (ok' p hp).2.1
     have h2:=(s.ok i q hq).2.2
     rw[<-z,h1]at h2;cases h2
 ·cases e
noncomputable def Mb(c m:Str)(i:Nat)(fp:FP)(n:Nat)(g:GG)(fd:FD):FN:=fun δ=>match(fp δ).bind fun p=>(Z0 δ i).bind fun t=>t.at' p with
 |some (.ob c' fs _)=>if c'=c/\m∉fs then Jc i fp n g fd δ else none
 |_=>none
theorem T7{m:Str}:∀{fvs:List (Str×V)},m∉fvs.map (·.1)->fvs.lookup m=none
 | [],_=>rfl
 |p::r,h=>by
  have h1:p.1≠m:=fun e=>h (by rw[<-e];exact List.mem_cons_self)
  show(match m==p.1 with|true=>some p.2|false=>r.lookup m)=none
  rw[show(m==p.1)=false from beq_eq_false_iff_ne.mpr fun z=>h1 z.symm]
  exact T7 fun z=>h (List.mem_cons_of_mem _ z)
theorem Zfk{c m:Str}{C:Addr}{i n:Nat}{fp:FP}{g:GG}{fd:FD}(cl:Yf K c C)(h:Ws Z (Mb c m i fp n g fd) σ H Q):Zbr C m (Gp K 1 n g) Z.x (Od K i fp) (Wd Z fd) σ H Q:=by
 obtain⟨F,δ,own,r,s,e,k⟩:=h
 unfold Mb at e
 split at e
 ·rename_i c' fs ts hq
  split at e
  ·rename_i hc
   obtain⟨rfl,hm⟩:=hc
   refine bnd1 hq fun p0 hp0 hq=>?_
   refine bnd1 hq fun t0 ht0 hq=>?_
   obtain⟨p,t,u,w,hp,ht,hu,hw,q⟩:=T6 (Q:=Q) s e (by cases r<;> exact k)
   rw[hp0]at hp;cases hp
   rw[ht0]at ht;cases ht
   rw[hq]at hu;cases hu
   obtain⟨v0,w0,n1,nu,n2,hv0,hw0,eo,ru,_⟩:=s.part ht0 hq
   cases hw.one hw0
   refine Op s hp0 ht0 hq hw ?_
   cases ru with
   | @ob a C' dx _ _ _ fvs ns cl' ek r'=>
    subst ek
    have ma:(a,HO.ins C' dx fvs)∈own i:=by rw[eo];exact List.mem_append_right _ (List.mem_append_left _ List.mem_cons_self)
    have hC:C'=C:=by
     have h1:PySem.W.nsIn K mainGlobals c'=some (some (.ref C')):=cl'
     have h2:PySem.W.nsIn K mainGlobals c'=some (some (.ref C)):=cl
     rw[h1]at h2;cases h2;rfl
    subst hC
    exact⟨a,dx,fvs,rfl,(s.ok i _ ma).2.2,T7 hm,q⟩
  ·cases e
 ·cases e
end
end DL
namespace DL
open PySem PySem.Spec PyProof.Rows L2
noncomputable abbrev Ba:=List (Str×Int×Str×Str)
@[simp] noncomputable def Ww:Ba->Str->Option D
  | [],_=>none
  | (y,n,v,f)::r,x=>if y=x then some (.row n v f)else Ww r x
noncomputable def Zfl(K:PySem.W.Frag)(b:Addr)(n:Int)(v f:Str):Prop:=∃fa o its k,Yf K f fa/\K.lookup b=some o/\o.cls= .type "tuple"/\o.data= .seq its k/\its.size<=sizeLine/\Yb [.int n,.str v,.ref fa] its.toList
inductive RowsK(w:World)(K:PySem.W.Frag):Ba->List DictEntry->Prop where
 |nil:RowsK w K [] []
 |cons {y:Str} {n:Int} {v f:Str} {r:Ba} {t:Tok} {b:Addr} {es:List DictEntry} (h:Zfl K b n v f) (q:RowsK w K r es):RowsK w K ((y,n,v,f)::r) (⟨PyData.keyHash w.params y,.str y t,.ref b⟩::es)
structure RowsIn(w:World)(K:PySem.W.Frag)(x:Str)(rows:Ba):Prop where
 ex:∃a es ep,Yf K x a/\(a==sysModules)=false/\K.lookup a=some ⟨.type "dict",none,.dict es ep, #[]⟩/\RowsK w K rows es.toList/\(rows.map (·.1)).Nodup
variable{K:PySem.W.Frag}{w:World}
theorem Cj{b fa:Addr}{n:Int}{v f:Str}{t1 t2:Tok}{od:Option Addr}{k:Nat}{sl:Array (Option Value)}(h1:PySem.W.nsIn K mainGlobals f=some (some (.ref fa)))(h2:K.lookup b=some ⟨.type "tuple",od,.seq #[.int n t1,.str v t2,.ref fa] k,sl⟩):Zfl K b n v f:=
 ⟨fa,_,_,_,h1,h2,rfl,rfl,by show 3<=sizeLine;decide,.cons ⟨_,rfl⟩ (.cons ⟨_,rfl⟩ (.cons rfl .nil))⟩
theorem Zkb{x:Str}{rows:Ba}{a:Addr}{es:Array DictEntry}{ep:Nat}(h1:PySem.W.nsIn K mainGlobals x=some (some (.ref a)))(h2:K.lookup a=some ⟨.type "dict",none,.dict es ep, #[]⟩)(h3:(a==sysModules)=false)(h4:RowsK w K rows es.toList)(h5:(rows.map (·.1)).Nodup):RowsIn w K x rows:=⟨a,es,ep,h1,h3,h2,h4,h5⟩
theorem Zfl.rep{b:Addr}{n:Int}{v f:Str}{F:Hp}(h:Zfl K b n v f):Rep K F (.row n v f) (.ref b):=by
 obtain⟨fa,o,its,k,cl,h1,h2,h3,h4,h5⟩:=h
 exact .row (.inr ⟨o,its,k,h1,h2,h3,h4,h5⟩) cl
noncomputable def Qw:List DictEntry->List (Key×Value)
 | []=>[]
 |e::es=>match e.key with
  | .str y _=>(Sum.inr y,e.val)::Qw es
  |_=>Qw es
theorem RowsK.pairs{P:Program}{rows:Ba}{es:List DictEntry}(h:RowsK w K rows es):Pairs (Zo P w) es (Qw es)/\(∀e∈es,∃k,(Zo P w).is k e.key=true/\e.hash=(Zo P w).hash k)/\(Qw es).map (·.1)=rows.map fun r=>Sum.inr r.1:=by
 induction h with
 |nil=>exact⟨.nil,(fun _ h=>nomatch h),rfl⟩
 | @cons y n v f r t b es h q ih=>
  refine⟨.cons (Ct y t) rfl ih.1,fun e he=>?_,?_⟩
  ·rcases List.mem_cons.mp he with z|z
   ·subst z;exact⟨Sum.inr y,Ct y t,rfl⟩
   ·exact ih.2.1 e z
  ·show Sum.inr y::(Qw es).map (·.1)=_
   rw[ih.2.2];rfl
theorem RowsK.val{rows:Ba}{es:List DictEntry}(h:RowsK w K rows es)(x:Str):match Ww rows x with
  |some d=>∃b,valueAt (Qw es) (Sum.inr x:Key)=some (.ref b)/\∀F,Rep K F d (.ref b)
  |none=>valueAt (Qw es) (Sum.inr x:Key)=none:=by
 induction h with
 |nil=>rfl
 | @cons y n v f r t b es h q ih=>
  show match(if y=x then some (D.row n v f)else Ww r x)with
   |some d=>∃b',valueAt ((Sum.inr y,Value.ref b)::Qw es) (Sum.inr x:Key)=some (.ref b')/\∀F,Rep K F d (.ref b')
   |none=>valueAt ((Sum.inr y,Value.ref b)::Qw es) (Sum.inr x:Key)=none
  by_cases e:y=x
  ·subst e
   rw[if_pos rfl]
   exact⟨b,by simp[valueAt],fun F=>h.rep⟩
  ·rw[if_neg e]
   have hv:valueAt ((Sum.inr y,Value.ref b)::Qw es) (Sum.inr x:Key)=valueAt (Qw es) (Sum.inr x):=by
    unfold valueAt
    rw[List.find?_cons_of_neg (by simpa using e)]
   rw[hv]
   exact ih
theorem RowsIn.dict{P:Program}{x:Str}{rows:Ba}(R:RowsIn w K x rows):∃a es,Yf K x a/\(a==sysModules)=false/\(∀h:Heap,K.In h->h.DictOf (Zo P w) a (Qw es))/\RowsK w K rows es:=by
 obtain⟨a,es,ep,cl,hs,hl,hr,nd⟩:=R.ex
 obtain⟨p1,p2,p3⟩:=hr.pairs (P:=P)
 refine⟨a,es.toList,cl,hs,fun h X=>⟨_,es,ep,X _ _ hl,⟨rfl,rfl,rfl⟩,rfl,fun e he=>p2 e (by simpa using he),p1,?_⟩,hr⟩
 rw[p3]
 have:(rows.map fun r=>(Sum.inr r.1:Key))=(rows.map (·.1)).map Sum.inr:=by rw[List.map_map];rfl
 rw[this]
 exact List.Pairwise.map _ (fun a b hab z=>hab (Sum.inr.inj z)) nd
noncomputable def P7(rows:Ba)(ty:TE):TE:=fun σ H Q=>ty σ H fun y H1=>∃x,y= .str x/\Q (.bl (!(Ww rows x).isSome)) H1
noncomputable def P8(K:PySem.W.Frag)(rows:Ba)(ty:TE):TE:=fun σ H Q=>ty σ H fun y H1=>∃x d,y= .str x/\Ww rows x=some d/\∀b,(∀F,Rep K F d (.ref b))->Q (.ref b) H1
section
variable{X:Cx}{i:Expr}{ty:TE}{pos p:Pos}{r:Str}{rows:Ba}
theorem Xi(u:Xu X.K X.mg)(R:RowsIn X.w X.K r rows)(hi:PE X i ty)(hg:Gl X r:=by rfl)(hd:(r==("__debug__":Str))=false:=by decide):PC X .NotIn i (.Name r p) (P7 rows ty):=by
 intro pins s σ H Q I h
 obtain⟨a,es,cl,hs,dd,rk⟩:=R.dict (P:=X.prog)
 refine Y3 (hi pins s σ H _ I h) fun iv s1 ⟨y,H1,I1,ry,x,ey,q1⟩=>Jj I1 hg (u cl) ?_ hd
 subst ey
 refine wpAny_notIn_of (Oh (k:=Sum.inr x) ry) hs (dd s1.heap I1.kIn).mapOf ?_
 refine⟨.bl (!(Ww rows x).isSome),H1,I1.tok _,?_,q1⟩
 have:=rk.val x
 cases e:Ww rows x with
 |none=>rw[e]at this;rw[this];rfl
 |some d=>rw[e]at this;obtain⟨b,h1,_⟩:=this;rw[h1];rfl
theorem Xj(u:Xu X.K X.mg)(R:RowsIn X.w X.K r rows)(hi:PE X i ty)(hs:De i)(hg:Gl X r:=by rfl)(hd:(r==("__debug__":Str))=false:=by decide):PE X (.Subscript (.Name r p) i pos) (P8 X.K rows ty):=by
 intro pins s σ H Q I h
 obtain⟨a,es,cl,hsy,dd,rk⟩:=R.dict (P:=X.prog)
 refine Nv PySem.F.slot_dict_getitem.lookup hs (Jj I hg (u cl) ?_ hd)
 refine Y3 (hi pins s σ H _ I h) fun iv s1 zq9=>?_
 obtain⟨y,H1,I1,ry,x,d,ey,hx,q1⟩:=zq9
 subst ey
 have:=rk.val x
 rw[hx]at this
 obtain⟨b,h1,h2⟩:=this
 refine⟨(dd s1.heap I1.kIn).typeIs,wpAny_getItem_of (Oh (k:=Sum.inr x) ry) (dd s1.heap I1.kIn).mapOf h1 ?_⟩
 exact⟨.ref b,H1,I1.tok _,rfl,q1 b h2⟩
end
section
variable{Z:Ent K}{F H:Hp}{σ:L2.St}{δ:Ya}{own:Nat->Zg}{Q:VK}{E:Ends}{rows:Ba}
@[simp] noncomputable def L4(rows:Ba)(j:Nat):FT:=fun δ=>(R6 δ j).bind fun x=>some (!(Ww rows x).isSome,δ)
theorem Zbx{j:Nat}{R:Bool->Hp->Prop}(h:Z5 Z (L4 rows j) σ H R):tB (P7 rows (Jg j)) σ H R:=by
 obtain⟨F,δ,own,b,δ',s,e,k⟩:=h
 refine bnd1 e fun x e1 e2=>?_
 cases e2
 exact⟨_,s.txt e1,x,rfl,_,rfl,k H F own (Zh.refl H) (Zh.refl F) s⟩
@[simp] noncomputable def Zfm(rows:Ba)(fe:FE):FE:=fun δ=>(fe δ).bind fun p=>(N1 p.1 p.2).bind fun d=>match d with
 | .str x=>(Ww rows x).bind fun r=>some (.tmp (.fz r),p.2)
 |_=>none
theorem Zkc{fe:FE}(h:Zb Z (Zfm rows fe) σ H Q):P8 K rows (Zb Z fe) σ H Q:=by
 obtain⟨F,δ,own,rv,δ',s,e,k⟩:=h
 refine bnd2 e fun rv1 δ1 e1 e=>?_
 refine bnd1 e fun d e2 e=>?_
 dsimp only at e
 split at e
 ·rename_i x
  refine bnd1 e fun r e3 e4=>?_
  cases e4
  refine⟨F,δ,own,rv1,_,s,e1,fun v H1 F1 own1 sH sF s1 r1=>?_⟩
  obtain⟨F2,sF2,s2,r2⟩:=s1.settleR r1
  have:=(s2.rd r2 e2).str
  exact⟨x,r,this,e3,fun b hb=>k (.ref b) H1 F2 own1 sH (sF.trans sF2) s2 ⟨[],TmpOk.fz (hb F2)⟩⟩
 ·cases e
@[simp] noncomputable def ixR(n:Nat):D->Option SV
 | .row k v f=>match n with
  |0=>some (.fz (.int k))
  |1=>some (.fz (.str v))
  |2=>some (.fz (.fn f))
  |_=>none
 |_=>none
theorem Zoa{n:Nat}:Ru Z (fun x H Q=>Ky K x (.int (n:Nat)) H Q) (ixR n):=by
 intro F H σ δ own x d sv Q s r e k
 unfold ixR at e
 split at e
 ·rename_i kk v f
  obtain⟨sv0,ns,ed,nn,sh,hp⟩:=r
  cases sh with
  |fz r=>
   cases ed
   cases r with
   | @row a fa _ _ _ h cl=>
    rcases h with h|h
    ·rcases h with h|⟨o,h⟩<;> cases h
    ·have sq:Mu K H a [.int kk,.str v,.ref fa]:=.inr h
     split at e
     ·cases e;exact⟨a,_,_,.int kk,rfl,rfl,sq,B3 rfl,k.fz s (.int kk)⟩
     ·cases e;exact⟨a,_,_,.str v,rfl,rfl,sq,B3 rfl,k.fz s (.str v)⟩
     ·cases e;exact⟨a,_,_,.ref fa,rfl,rfl,sq,B3 rfl,k.fz s (.fn cl)⟩
     ·cases e
  |ol r=>cases ed
  |oK e' r=>cases ed
  |oT kb e' r=>cases ed
  |oN e' r=>cases nn
  |oR e' r=>cases nn
  |oG hp' r=>cases nn
  |oX kb' e' r=>cases nn
  |oD r=>cases nn
  |oM kb' e' r=>cases nn
  |oL _ r=>cases nn
  |oQ e' r=>cases ed
 ·cases e
end
section
variable{X:Cx}{Z:Ent X.K}{a:Expr}{fa:FE}{pos p:Pos}{r:Str}{rows:Ba}
theorem Zby(j:Nat){y:Str}{p1:Pos}(u:Xu X.K X.mg)(R:RowsIn X.w X.K r rows)(hN:X.N[j]? =some y:=by rfl)(hv:Km X.env.scope y:=by first|exact Or.inl rfl|exact Or.inr (Or.inl rfl)|exact Or.inr (Or.inr rfl))(hd:(y==("__debug__":Str))=false:=by decide)(hcd:(y==("__classdict__":Str))=false:=by decide)(hg:Gl X r:=by rfl)(hd2:(r==("__debug__":Str))=false:=by decide)(hb:behindInMarks .NotIn (.Name r p)=false:=by rfl):
  PT X (.Compare (.Name y p1) [.NotIn] [.Name r p] pos) (Z5 Z (L4 rows j)):=(Zhs (Xi u R (Q4 hN hv hd hcd) hg hd2) hb).imp fun _ _ _ h=>Zbx h
theorem Zbz(u:Xu X.K X.mg)(R:RowsIn X.w X.K r rows)(ha:PE X a (Zb Z fa))(hs:De a:=by exact fun _ _=>rfl)(hg:Gl X r:=by rfl)(hd:(r==("__debug__":Str))=false:=by decide):PE X (.Subscript (.Name r p) a pos) (Zb Z (Zfm rows fa)):=(Xj u R ha hs hg hd).imp fun _ _ _ h=>Zkc h
theorem T8(n:Nat){j:Nat}(ha:PE X a (Zb Z fa))(hs:B4 (.Constant (.int n) j p):=by exact fun _ _=>rfl):PE X (.Subscript a (.Constant (.int n) j p) pos) (Zb Z (G7 (ixR n) fa)):=(Nu Aq ha Ko hs).imp fun _ _ _ h=>Lf (Zoa (n:=n)) h
end
end DL
namespace DL
open PySem PySem.Spec PyProof.Rows L2
section
variable{K:PySem.W.Frag}{Z:Ent K}{F H:Hp}{σ:L2.St}{δ:Ya}{own:Nat->Zg}{Q:VK}{E:Ends}
theorem Zkd{c x:Str}(kn:∀C,Yf K c C->Cls K C/\W9 K C x):Ru Z (fun y H Q=>∃a C dx fs v,y= .ref a/\H a=some (.ins C dx fs)/\Cls K C/\W9 K C x/\fs.lookup x=some v/\Q v H) (Xc c x):=by
 intro F H σ δ own y d sv Q s r e k
 unfold Xc at e
 split at e
 ·rename_i c' fs ds
  split at e
  ·rename_i hc
   refine bnd1 e fun d e1 e2=>?_
   cases e2
   obtain⟨sv,ns,es,n,sh,hp⟩:=r
   cases sh with
   |fz r=>
    cases es
    cases r with
    | @ob a C dx _ _ _ fvs cl h ek rr=>
     subst ek
     have q:=G8 (K:=K) (F:=F) x fvs ds rr
     rw[e1]at q
     obtain⟨v,h1,h2⟩:=q
     rw[hc]at cl
     exact⟨a,C,dx,fvs,v,rfl,s.le _ _ h,(kn C cl).1,(kn C cl).2,by rw[Bt];exact h1,k.fz s h2⟩
   |ol r=>cases es
   |oK e' r=>cases es
   |oT kb e' r=>cases es
   |oN e' r=>cases n
   |oR e' r=>cases n
   |oG hp' r=>cases n
   |oX kb' e' r=>cases n
   |oD r=>cases n
   |oM kb' e' r=>cases n
   |oL _ r=>cases n
   |oQ e' r=>cases es
  ·cases e
 ·cases e
@[simp] noncomputable def Zke(fn:FN):FS:=fun δ=>(fn δ).bind fun
 | .v d _=>some (.rt (.fz d))
 | .x e δ1=>some (.ex e δ1)
theorem Zkf{fn:FN}(h:Zq Z (Zke fn) E σ H):Zc3 (Ws Z fn) E σ H:=by
 obtain⟨F,δ,own,fl,s,e,k⟩:=h
 refine bnd1 e fun r1 e1 e2=>?_
 cases r1 with
 |x x1 δ1=>cases e2;exact⟨F,δ,own,_,s,e1,Kk.of k⟩
 |v d δ1=>cases e2;exact⟨F,δ,own,_,s,e1,fun v H' F' own' sF s' r'=>k v H' F' [] sF s'.le s'.fro s'.old (.fz r') List.nodup_nil fun _ h=>(nomatch h)⟩
theorem Zkg{i:Nat}{fe:FE}(h:Zq Z (Cb (Yq i) fe) E σ H):S6 (Zb Z fe) (Rn i) E σ H:=by
 obtain⟨F,δ,own,rv,δ',s,e,k⟩:=D5 h
 exact⟨F,δ,own,rv,δ',s,e,fun v H' F' own' a b c d=>N2 (k v H' F' own' a b c d)⟩
end
section
variable{X:Cx}{Z:Ent X.K}{a b o e:Expr}{fa fb fe f1 f2:FE}{fp:FP}{fd:FD}{pos p:Pos}{i j k n:Nat}{ps:List Str}{c x m:Str}{es:List Expr}{g:GG}
theorem L5(kn:∀C,Yf X.K c C->Cls X.K C/\W9 X.K C x)(ha:PE X a (Zb Z fa))(hb:attributeBase a x X.env (eval a X.env)=eval a X.env:=by rfl):PE X (.Attribute a x pos) (Zb Z (G7 (Xc c x) fa)):=(Hr ha hb).imp fun _ _ _ h=>Lf (Zkd kn) h
theorem Zkh{fn:FN}(h:PE X a (Ws Z fn)):PS X (.Return (some a) pos) (Zq Z (Zke fn)):=(Kp h).imp fun _ _ _ h=>Zkf h
theorem Zb0(i:Nat){y:Str}{pos':Pos}(hN:X.N.Nodup)(he:PE X a (Zb Z fa))(hi:X.N[i]? =some y:=by rfl)(hx:Loc X.env.scope y:=by first|exact Or.inl rfl|exact Or.inr rfl)(hs:swapsWith a (some (.Name y pos')) pos.line X.env=pure false:=by rfl)(hf:X.fn y=true\/X.env.scope.names.lookup y=some .local:=by first|exact .inl rfl|exact .inr rfl):
  PS X (.Assign [.Name y pos'] a pos) (Zq Z (Cb (Yq i) fa)):=(Am hN hi hx he hs hf).imp fun _ _ _ h=>Zkg h
theorem P9(ha:PE X a (Zb Z f1))(hb:∀{Z':Ent X.K},PE X b (Zb Z' f2))(h1:starEach [a,b] X.env=(false,eval a X.env)::starEach [b] X.env:=by rfl)(h2:starEach [b] X.env=(false,eval b X.env)::starEach [] X.env:=by rfl):PE X (.List [a,b] pos) (Zb Z (Fq f1 f2)):=
 (Ht (Yn ha (Yn (te:=exE X.K f2) (fun pins s σ H Q I ⟨Z',h⟩=>hb pins s σ H Q I h) Jv h2) h1)).imp fun _ _ _ h=>Zfi h
noncomputable def SvO(P:Program)(w:World)(K:PySem.W.Frag)(mg:Str->Option Value)(base:Heap)(C:Addr)(m:Str)(k:Nat)(ps:List Str)(sp:Sp):Prop:=∃f fd,FnOk P w K mg base (Oc P w) k f fd ps sp/\PySem.W.findIn K (.ref C) m=some (some (.ref f))/\PySem.W.isFn K (.ref f)=true/\PySem.W.keepIn K (.ref f)=true/\Qf K fd ps []
theorem Zoc:Cv (Oc X.prog X.w) X (fun _ _ _=>False):=fun _ _ _ _ _ _ _ ⟨_,_,_,_,_,_,_,_,_,_,_,_,_,_,_,q⟩=>q.elim
theorem Sa{C:Addr}(u:Xu X.K X.mg)(cl:Yf X.K c C)(S:SvO X.prog X.w X.K X.mg X.base C "__init__" k ps (Gp X.K 1 0 g))(mk:PySem.W.makesIn X.K C=true/\PySem.W.keepIn X.K (.ref C)=true)(hr:Room (j+1) X.A)(hj:k<=j:=by decide)(hg:Gl X c:=by rfl)(hdb:(c==("__debug__":Str))=false:=by decide):PE X (.Call (.Name c p) [] [] pos) (Zb Z (Gq c g)):=
 let⟨_,_,F,a1,a2,_,d⟩:=S;(Hv ⟨mk.1,a1,a2,mk.2⟩ F (hr.mono (Nat.succ_le_succ hj)) hg (u cl) d .nil Zoc hdb).imp fun _ _ _ h=>Zfj cl h
theorem Zki{C:Addr}{apos:Pos}{pl:Sem Bool}(cl:Yf X.K c C)(kc:Cls X.K C)(S:SvO X.prog X.w X.K X.mg X.base C m k ps (Gp X.K 1 n g))(hr:Room j X.A)(th:Ub X Z.x)(ho:PE X o (Od X.K i fp))(ha:PA X (e::es) (Wd Z fd))(hj:k<=j:=by decide)
  (hst:starEach (e::es) X.env=(false,eval e X.env)::starEach es X.env:=by rfl) (hpl:(backTo pos (starEach es X.env)).any (·.1)=false:=by rfl)
  (ht:eval (.Call (.Attribute o m apos) (e::es) [] pos) X.env=(do
   let ov<-eval o X.env
   standAt apos.atName
   let(f,first)<-holding [ov] (getMethod ov m pl)
   callWith pos f first (backTo pos (starEach (e::es) X.env)) (backToKw pos (keywordEach [] X.env))):=by rfl):
  PE X (.Call (.Attribute o m apos) (e::es) [] pos) (Ws Z (Mb c m i fp n g fd)):=
 let⟨_,_,F,a1,a2,a3,d⟩:=S;(Zbs ho kc ⟨a1,a2,a3⟩ F (hr.mono hj) d th ha hst hpl ht).imp fun _ _ _ h=>Zfk cl h
theorem Ga{y:Str}{p0 p1:Pos}(kn:∀C,Yf X.K c C->Cls X.K C/\W9 X.K C x)(hv:PE X a (Zb Z fe))(hN:X.N[0]? =some y:=by rfl)(hvis:Km X.env.scope y:=by first|exact Or.inl rfl|exact Or.inr (Or.inl rfl)|exact Or.inr (Or.inr rfl))(hd:(y==("__debug__":Str))=false:=by decide)(hcd:(y==("__classdict__":Str))=false:=by decide)(hs:swapsWith a (some (.Attribute (.Name y p0) x p1)) pos.line X.env=pure false:=by rfl):
  PS X (.Assign [.Attribute (.Name y p0) x p1] a pos) (Zq Z (Ep c x fe)):=(Zib (Q4 hN hvis hd hcd) hv hs).imp fun _ _ _ h=>Zka kn h
end
section
variable{P:Program}{w:World}{K:PySem.W.Frag}{mg:Str->Option Value}{base:Heap}{x y:Str}{st:Stmt}{f C:Addr}{fd:FuncData}
theorem Zod(a:∃f fd,PySem.W.findIn K (.ref C) x=some (some (.ref f))/\PySem.W.isFn K (.ref f)=true/\Fun K x y st f fd)(k m n:Nat)(N:List Str)(g:GG)(f0:FS)(hb:∀{f:Addr} {cdv:Value},HBG P w K mg base N y st f k f0 cdv)
  (S:FnScope N (N.take (m+n)) (Zv st):=by exact⟨rfl,rfl,rfl,by decide+kernel,rfl,by decide+kernel,by decide+kernel⟩)
  (B:∀(kV doc pm:Value) (an:Option Addr) (cdv ct:Value) (us:List Value),us.length=(N.take (m+n)).length->bindArgs (PySem.W.fnOf x y (Uq st) (W0 st) (Zv st) .none kV doc pm an cdv ct) ⟨us,[]⟩=pure ((N.take (m+n)).zip us):=by first|exact fun _ _ _ _ _ _ us hl=>of1 (fun _=>rfl) us hl|exact fun _ _ _ _ _ _ us hl=>of2 (fun _ _=>rfl) us hl)
  (hl:m+n=(N.take (m+n)).length:=by rfl) (hg:g=Jy f0 N.length:=by rfl) (hN:m+n<=N.length:=by decide):SvO P w K mg base C x (k+1) (N.take (m+n)) (Gp K m n g):=by
 obtain⟨f,fd,a1,a2,a3⟩:=a
 exact⟨f,fd,Zn9 a3 k m n N g f0 hb S hl hg hN,a1,a2,a3.kp,a3.binds B⟩
end
end DL
namespace My
open DL PySem
theorem Qm{n:Nat}(h:n<=16777216):n<=PySem.sizeLine:=h
theorem O0{n:Nat}(h:n<16777216):n<PySem.sizeLine:=h
theorem Sb(a b:Str):(a++b).length=a.length+b.length:=by
 show(a.cps++b.cps).size=a.cps.size+b.cps.size
 simp
theorem Zpm(c:Nat):(⟨#[c]⟩:Str).length=1:=rfl
theorem Ft{te:FE}{f:D->D}{c:Option SV}{j:Nat}:∀(xs ys:List D),(∀x∈xs,∀zs,te [some (.fz x),c,some (.ol zs)]=some (.tmp (.fz (f x)),[some (.fz x),c,some (.ol zs)]))->ys.length+xs.length<=16777216->
  Io [.own,.cap j,.acc] 2 (Yq 0) N3 te xs [none,c,some (.ol ys)]=some [none,c,some (.ol (ys++xs.map f))]
 | [],ys,_,_=>by simp
 |x::xs,ys,h,hl=>by
  rw[List.length_cons]at hl
  have ih:=Ft (te:=te) (f:=f) (c:=c) (j:=j) xs (ys++[f x]) (fun y hy=>h y (List.mem_cons_of_mem _ hy)) (by rw[List.length_append];simp;omega)
  have e1:=h x List.mem_cons_self ys
  have h4:ys.length<PySem.sizeLine:=O0 (by omega)
  simp[e1,h4]
  simpa using ih
end My
namespace My
open DL PySem StrLaws Builtin.Str
noncomputable def gap(n:Nat):Nat->List Nat->Prop
 |_,[]=>True
 |a,p::r=>a<=p/\gap n (p+n) r
theorem Bv{n:Nat}:∀{a:Nat} {P:List Nat},gap n a P->∀i∈P,a<=i
 |_,[],_,i,h=>nomatch h
 |a,p::r,g,i,h=>by
  rcases List.mem_cons.mp h with e|e
  ·rw[e];exact g.1
  ·have:=Bv g.2 i e
   have:=g.1
   omega
theorem L6(s sub:Str)(hi limit:Nat)(hn:1<=sub.length):∀(m a:Nat) (found:Array Nat) (free:Nat) (P:List Nat),gap sub.length free P->(∀i∈P,a<=i/\i<a+m)->
  (∀i,a<=i->((free<=i/\At s sub hi i)↔i∈P))->
  (forIn (List.range' a m) (found,free) (occBody s sub hi limit)).run.fst.toList=found.toList++P.take (limit- found.size)
 |0,a,found,free,P,g,hb,hm=>by
  have:P=[]:=by
   cases P with
   |nil=>rfl
   |cons p r=>have:=hb p List.mem_cons_self;omega
  subst this
  simp
 |m+1,a,found,free,P,g,hb,hm=>by
  rw[List.range'_succ,List.forIn_cons]
  unfold occBody
  by_cases hl:found.size<limit
  ·by_cases ha:a∈P
   ·obtain⟨h1,h2,h3⟩:=(hm a (Nat.le_refl _)).mpr ha
    rw[if_pos ⟨⟨⟨hl,h1⟩,h2⟩,h3⟩]
    obtain⟨P',rfl⟩:∃P',P=a::P':=by
     cases P with
     |nil=>cases ha
     |cons p r=>
      rcases List.mem_cons.mp ha with e|e
      ·exact⟨r,by rw[e]⟩
      ·have:=Bv g.2 a e
       have:=(hb p List.mem_cons_self).1
       omega
    have ih:=L6 s sub hi limit hn m (a+1) (found.push a) (a+sub.length) P' g.2 (fun i hi'=>by
      have z1:=Bv g.2 i hi'
      have z2:=(hb i (List.mem_cons_of_mem _ hi')).2
      omega) (fun i hi'=>by
      constructor
      ·rintro⟨z1,z2⟩
       have:=(hm i (by omega)).mp ⟨by omega,z2⟩
       rcases List.mem_cons.mp this with e|e
       ·omega
       ·exact e
      ·intro z
       have z1:=Bv g.2 i z
       exact⟨z1,((hm i (by omega)).mpr (List.mem_cons_of_mem _ z)).2⟩)
    refine Eq.trans ih ?_
    rw[Array.toList_push,Array.size_push,show limit- found.size=(limit- (found.size+1))+1 by omega,List.take_succ_cons,List.append_assoc]
    rfl
   ·rw[if_neg fun z=>ha ((hm a (Nat.le_refl _)).mp ⟨z.1.1.2,z.1.2,z.2⟩)]
    refine L6 s sub hi limit hn m (a+1) found free P g (fun i hi'=>?_) (fun i hi'=>hm i (by omega))
    have z:=hb i hi'
    have:i≠a:=fun e=>ha (by rw[<-e];exact hi')
    omega
  ·rw[if_neg fun z=>hl z.1.1.1]
   have e0:limit- found.size=0:=by omega
   have ih:∀(l:List Nat) (st:Array Nat×Nat),¬st.fst.size<limit->(forIn l st (occBody s sub hi limit)).run.fst=st.fst:=by
    intro l
    induction l with
    |nil=>intro st _;rfl
    |cons x l ih=>
     intro st hst
     rw[List.forIn_cons]
     unfold occBody
     rw[if_neg fun z=>hst z.1.1.1]
     exact ih _ hst
   have:=ih (List.range' (a+1) m) (found,free) hl
   refine Eq.trans (congrArg Array.toList this) ?_
   rw[e0];simp
theorem Zkj(x y:Str)(limit:Nat)(P:List Nat)(hn:1<=y.length)(g:gap y.length 0 P)(hm:∀i,At x y x.length i↔i∈P):occurrences x y 0 x.length limit=P.take limit:=by
 rw[occ_eq]
 have:=L6 x y x.length limit hn (x.length+1- 0) 0 #[] 0 P g (fun i hi=>by
  have:=((hm i).mpr hi).1
  omega) (fun i _=>by rw[<-hm i];simp)
 simpa using this
noncomputable def jl(y:List Nat):List (List Nat)->List Nat
 | []=>[]
 | [p]=>p
 |p::q::r=>p++y++jl y (q::r)
noncomputable def pos(n:Nat):Nat->List (List Nat)->List Nat
 |_,[]=>[]
 |_,[_]=>[]
 |a,p::q::r=>(a+p.length)::pos n (a+p.length+n) (q::r)
theorem Er(n:Nat):∀(a:Nat) (ps:List (List Nat)),gap n a (pos n a ps)
 |_,[]=>True.intro
 |_,[_]=>True.intro
 |a,p::q::r=>⟨Nat.le_add_right _ _,Er n _ (q::r)⟩
theorem Zoe{y:List Nat}{c o:Nat}(ho:∀j,y[j]? =some c->j=o):∀(ps:List (List Nat)) (a j:Nat),(∀p∈ps,c∉p)->(jl y ps)[j]? =some c->∃i∈pos y.length a ps,a+j=i+o
 | [],a,j,_,e=>by simp[jl]at e
 | [p],a,j,hp,e=>absurd (List.mem_of_getElem? e) (hp p List.mem_cons_self)
 |p::q::r,a,j,hp,e=>by
  have e:(p++y++jl y (q::r))[j]? =some c:=e
  by_cases h1:j<p.length
  ·rw[List.append_assoc,List.getElem?_append_left h1]at e
   exact absurd (List.mem_of_getElem? e) (hp p List.mem_cons_self)
  ·by_cases h2:j<p.length+y.length
   ·rw[List.append_assoc,List.getElem?_append_right (by omega),List.getElem?_append_left (by omega)]at e
    have:=ho _ e
    exact⟨a+p.length,List.mem_cons_self,by omega⟩
   ·rw[List.getElem?_append_right (by rw[List.length_append];omega),List.length_append]at e
    obtain⟨i,hi,ei⟩:=Zoe ho (q::r) (a+p.length+y.length) _ (fun z hz=>hp z (List.mem_cons_of_mem _ hz)) e
    exact⟨i,List.mem_cons_of_mem _ hi,by omega⟩
theorem Es{y:List Nat}:∀(ps:List (List Nat)) (a i:Nat),i∈pos y.length a ps->a<=i/\i- a+y.length<=(jl y ps).length/\((jl y ps).drop (i- a)).take y.length=y
 | [],_,_,h=>nomatch h
 | [_],_,_,h=>nomatch h
 |p::q::r,a,i,h=>by
  show a<=i/\i- a+y.length<=(p++y++jl y (q::r)).length/\((p++y++jl y (q::r)).drop (i- a)).take y.length=y
  rcases List.mem_cons.mp h with e|e
  ·subst e
   rw[List.length_append,List.length_append,show a+p.length- a=p.length by omega]
   refine⟨by omega,by omega,?_⟩
   rw[List.append_assoc,List.drop_left,List.take_left]
  ·obtain⟨z1,z2,z3⟩:=Es (q::r) (a+p.length+y.length) i e
   rw[List.length_append,List.length_append]
   refine⟨by omega,by omega,?_⟩
   rw[show i- a=(p++y).length+(i- (a+p.length+y.length)) by rw[List.length_append];omega,<-List.drop_drop,List.drop_left]
   exact z3
theorem T9(y:Str):∀ps:List Str,(Str.join y ps).cps.toList=jl y.cps.toList (ps.map fun p=>p.cps.toList)
 | []=>rfl
 | [p]=>rfl
 |p::q::r=>by
  show(p++y++Str.join y (q::r)).cps.toList=p.cps.toList++y.cps.toList++jl y.cps.toList ((q::r).map fun p=>p.cps.toList)
  rw[<-T9 y (q::r)]
  simp[Str.cps_append]
theorem Yh(x:Str):x.cps.toList.length=x.length:=by simp[Str.length]
structure Sep(y:Str)(c o:Nat):Prop where
 at':y.cps.toList[o]? =some c
 one:∀j,y.cps.toList[j]? =some c->j=o
theorem Sep.pos{y:Str}{c o:Nat}(S:Sep y c o):1<=y.length:=by
 have:=(List.getElem?_eq_some_iff.mp S.at').1
 rw[Yh]at this;omega
theorem Zkk{y:Str}{c o:Nat}(S:Sep y c o)(ps:List Str)(hp:∀p∈ps,c∉p.cps.toList)(i:Nat):At (Str.join y ps) y (Str.join y ps).length i↔i∈pos y.length 0 (ps.map fun p=>p.cps.toList):=by
 have hL:=T9 y ps
 have hy:=Yh y
 constructor
 ·rintro⟨h1,h2⟩
  rw[subAt_eq]at h2
  have h2:=eq_of_beq h2
  have hc:(jl y.cps.toList (ps.map fun p=>p.cps.toList))[i+o]? =some c:=by
   have z:=S.at'
   rw[<-h2,List.getElem?_take]at z
   split at z
   ·rw[List.getElem?_drop]at z
    rw[<-hL];exact z
   ·cases z
  obtain⟨j,hj,e⟩:=Zoe S.one (ps.map fun p=>p.cps.toList) 0 (i+o) (fun q hq=>by
   obtain⟨p,h,rfl⟩:=List.mem_map.mp hq
   exact hp p h) hc
  have:i=j:=by omega
  rw[this,<-hy];exact hj
 ·intro h
  rw[<-hy]at h
  obtain⟨z1,z2,z3⟩:=Es _ 0 i h
  rw[<-hL]at z2 z3
  have hz:=Yh (Str.join y ps)
  refine⟨by omega,?_⟩
  rw[subAt_eq,<-hy]
  simpa using z3
theorem Zb1{y:Str}{c o:Nat}(S:Sep y c o)(ps:List Str)(hp:∀p∈ps,c∉p.cps.toList)(limit:Nat):
  occurrences (Str.join y ps) y 0 (Str.join y ps).length limit=(pos y.length 0 (ps.map fun p=>p.cps.toList)).take limit:=
 Zkj _ _ _ _ S.pos (Er _ _ _) (Zkk S ps hp)
theorem Ck(x:Str)(l:List Nat)(i j:Nat)(h:(x.cps.toList.drop i).take (j- i)=l):strSub x i j=⟨l.toArray⟩:=by
 apply Str.ext'
 apply Array.toList_inj.mp
 rw[strSub_toList,h]
theorem Mc{y:List Nat}(x:Str):∀(ps:List (List Nat)) (a:Nat),ps≠[]->x.cps.toList.drop a=jl y ps->a<=x.length->partsFrom x y.length a (pos y.length a ps)=ps.map fun p=>⟨p.toArray⟩
 | [],_,h,_,_=>absurd rfl h
 | [p],a,_,e,ha=>by
  show[strSub x a x.length]=[⟨p.toArray⟩]
  rw[Ck x p a x.length (by
   rw[e]
   show p.take _=p
   have:=congrArg List.length e
   rw[List.length_drop,Yh]at this
   have e2:(jl y [p]).length=p.length:=rfl
   rw[e2]at this
   rw[this];exact List.take_length)]
 |p::q::r,a,_,e,ha=>by
  have e:x.cps.toList.drop a=p++y++jl y (q::r):=e
  show strSub x a (a+p.length)::partsFrom x y.length (a+p.length+y.length) (pos y.length (a+p.length+y.length) (q::r))=⟨p.toArray⟩::((q::r).map fun p=>⟨p.toArray⟩)
  have l1:=congrArg List.length e
  rw[List.length_drop,Yh,List.length_append,List.length_append]at l1
  rw[Ck x p a (a+p.length) (by rw[e,show a+p.length- a=p.length by omega,List.append_assoc,List.take_left])]
  rw[Mc x (q::r) (a+p.length+y.length) (by simp) (by
   rw[show a+p.length+y.length=a+(p++y).length by rw[List.length_append];omega,<-List.drop_drop,e,List.drop_left]) (by omega)]
theorem Fu(x:Str):1<=Builtin.Str.strKind x:=by unfold Builtin.Str.strKind;split<;> (try split)<;> decide
theorem Zfo{n a:Nat}:∀{ps:List (List Nat)},pos n a ps=[]->ps=[]\/∃p,ps=[p]
 | [],_=>.inl rfl
 | [p],_=>.inr ⟨p,rfl⟩
end My
namespace My
open DL PySem
theorem Sd{tg:FG}{body:FS}{d:D}{ds:List D}{δ δ1 δ2:Ya}(h1:tg.run d δ=some δ1)(h2:body δ1=some (.nx δ2)):Ue tg body (d::ds) δ=Ue tg body ds δ2:=by
 show(tg.run d δ).bind _=_
 rw[h1,Option.bind_some,h2,Option.bind_some]
theorem Xk{t:FT}{b:FS}{n:Nat}{δ δ1 δ2:Ya}(h1:t δ=some (true,δ1))(h2:b δ1=some (.nx δ2)):Qh t b (n+1) δ=Qh t b n δ2:=by
 show(t δ).bind _=_
 rw[h1,Option.bind_some]
 show(if true=true then(b δ1).bind _ else _)=_
 rw[if_pos rfl,h2,Option.bind_some]
theorem L7{t:FT}{b:FS}{n:Nat}{δ δ1:Ya}(h1:t δ=some (false,δ1)):Qh t b (n+1) δ=some (.nx δ1):=by
 show(t δ).bind _=_
 rw[h1,Option.bind_some]
 rfl
noncomputable abbrev S(l:List Nat):Str:=⟨l.toArray⟩
theorem Js(l:List Nat):(S l).length=l.length:=by show l.toArray.size=_;simp
theorem Aa(a b:List Nat):S a++S b=S (a++b):=by
 show(⟨a.toArray++b.toArray⟩:Str)=⟨(a++b).toArray⟩
 simp
theorem Zhe{a b:List Nat}(h:S a=S b):a=b:=by
 have:a.toArray=b.toArray:=congrArg Str.cps h
 simpa using this
theorem Zkl(x:Str):x=S x.cps.toList:=by cases x;simp
theorem Os(l:List Nat):(S l).cps.toList=l:=by simp
theorem Ot{α:Type}(p:List α)(i:Nat)(c:α)(h:p[i]? =some c):L2.atI p (i:Int)=some c:=by
 have hl:=(List.getElem?_eq_some_iff.mp h).1
 unfold L2.atI L2.ixN
 rw[if_pos (by omega),if_pos (by omega)]
 simpa using h
end My
namespace My
open DL PySem
noncomputable abbrev Zb2(s n:Nat):List D:=(List.range' s n).map fun i:Nat=>D.int (i:Int)
theorem Uh(n:Nat):Gm 0 n=Zb2 0 n:=by
 unfold Gm
 rw[List.range_eq_range']
 refine List.map_congr_left fun i _=>?_
 simp
theorem O1{tg:FG}{body:FS}{P:Nat->Ya->Prop}:∀(n s:Nat) (δ:Ya),P s δ->(∀i,s<=i->i<s+n->∀δ,P i δ->∃δ1 δ2,tg.run (.int (i:Int)) δ=some δ1/\body δ1=some (.nx δ2)/\P (i+1) δ2)->
  ∃δ',Ue tg body (Zb2 s n) δ=some (.nx δ')/\P (s+n) δ'
 |0,s,δ,h,_=>⟨δ,rfl,h⟩
 |n+1,s,δ,h,k=>by
  obtain⟨δ1,δ2,h1,h2,h3⟩:=k s (Nat.le_refl _) (by omega) δ h
  obtain⟨δ',e,h'⟩:=O1 (tg:=tg) (body:=body) (P:=P) n (s+1) δ2 h3 fun i hi hj=>k i (by omega) (by omega)
  refine⟨δ',?_,by rw[show s+(n+1)=s+1+n by omega];exact h'⟩
  show Ue tg body (.int (s:Int)::Zb2 (s+1) n) δ=_
  rw[Sd h1 h2];exact e
noncomputable def Fv(i:Nat):List D->List D
 | []=>[]
 |x::r=>.tup [.int (i:Int),x]::Fv (i+1) r
theorem Zkm(xs:List D):∀i:Nat,((xs.zipIdx i).map fun p:D×Nat=>D.tup [.int (p.2:Nat),p.1])=Fv i xs:=by
 induction xs with
 |nil=>intro i;rfl
 |cons x r ih=>intro i;rw[List.zipIdx_cons,List.map_cons,ih];rfl
theorem Zfp(xs:List D):Rx xs=Fv 0 xs:=Zkm xs 0
end My
namespace My
open DL PySem StrLaws Builtin.Str
theorem Gr(c:Nat):∀l:List Nat,∃qs:List Str,qs≠[]/\(∀p∈qs,c∉p.cps.toList)/\S l=Str.join (S [c]) qs
 | []=>⟨[S []],by simp,by simp,rfl⟩
 |d::l=>by
  obtain⟨qs,h1,h2,h3⟩:=Gr c l
  have e:S (d::l)=S [d]++S l:=(Aa [d] l).symm
  cases qs with
  |nil=>exact absurd rfl h1
  |cons q r=>
   by_cases hd:d=c
   ·subst hd
    refine⟨S []::q::r,by simp,fun p hp=>?_,?_⟩
    ·rcases List.mem_cons.mp hp with hp|hp
     ·rw[hp];simp
     ·exact h2 p hp
    ·show S (d::l)=S []++S [d]++Str.join (S [d]) (q::r)
     rw[<-h3,e,Aa [] [d]]
     rfl
   ·refine⟨(S [d]++q)::r,by simp,fun p hp=>?_,?_⟩
    ·rcases List.mem_cons.mp hp with hp|hp
     ·rw[hp]
      have:(S [d]++q).cps.toList=d::q.cps.toList:=by simp[Str.cps_append]
      rw[this,List.mem_cons]
      exact fun z=>z.elim (fun z=>hd z.symm) (h2 q List.mem_cons_self)
     ·exact h2 p (List.mem_cons_of_mem _ hp)
    ·rw[e,h3]
     cases r with
     |nil=>rfl
     |cons q2 r=>
      show S [d]++(q++S [c]++Str.join (S [c]) (q2::r))=(S [d]++q)++S [c]++Str.join (S [c]) (q2::r)
      simp only[Str.append_assoc]
theorem Zfq(c:Nat):Sep (S [c]) c 0:=⟨by simp,fun j h=>by
 cases j with
 |zero=>rfl
 |succ j=>simp at h⟩
theorem L8(c:Nat)(p q:Str)(hp:c∉p.cps.toList):Txt.partition (p++S [c]++q) (S [c])=(p,S [c],q):=by
 have SS:=Zfq c
 obtain⟨qs,hq1,hq2,hq3⟩:=Gr c q.cps.toList
 rw[<-Zkl q]at hq3
 have h1:=Zb1 SS (p::qs) (fun z hz=>by
  rcases List.mem_cons.mp hz with e|e
  ·rw[e];exact hp
  ·exact hq2 z e) 1
 obtain⟨q1,r,hqr⟩:∃q1 r,qs=q1::r:=by
  cases qs with
  |nil=>exact absurd rfl hq1
  |cons q1 r=>exact⟨q1,r,rfl⟩
 have ej:Str.join (S [c]) (p::qs)=p++S [c]++q:=by
  rw[hq3,hqr];rfl
 rw[ej]at h1
 have e:(pos (S [c]).length 0 ((p::qs).map fun p=>p.cps.toList)).take 1=[p.length]:=by
  rw[hqr]
  show[0+p.cps.toList.length]=[p.length]
  rw[Yh,Nat.zero_add]
 rw[e]at h1
 have eL:(p++S [c]++q).cps.toList=p.cps.toList++(S [c]).cps.toList++q.cps.toList:=by simp[Str.cps_append]
 have hl:(p++S [c]++q).length=p.length+(S [c]).length+q.length:=by rw[Sb,Sb]
 unfold Txt.partition
 rw[h1]
 have a1:=Ck (p++S [c]++q) p.cps.toList 0 p.length (by rw[List.drop_zero,Nat.sub_zero,eL,List.append_assoc,<-Yh p,List.take_left])
 have a2:=Ck (p++S [c]++q) q.cps.toList (p.length+(S [c]).length) (p++S [c]++q).length (by
  rw[eL,hl,show p.length+(S [c]).length=(p.cps.toList++(S [c]).cps.toList).length by rw[List.length_append,Yh,Yh],List.drop_left]
  exact List.take_of_length_le (by rw[Yh];omega))
 show(strSub (p++S [c]++q) 0 p.length,S [c],strSub (p++S [c]++q) (p.length+(S [c]).length) (p++S [c]++q).length)=(p,S [c],q)
 rw[a1,a2]
end My
namespace My
open DL PySem StrLaws Builtin.Str
theorem L9(s sub:Str)(hi limit:Nat)(hn:1<=sub.length):∀(m a:Nat) (found:Array Nat) (free:Nat) (P:List Nat),gap sub.length free P->(∀i∈P,a<=i/\i<a+m)->(∀i∈P,At s sub hi i)->
  (∀i,a<=i->free<=i->At s sub hi i->(i∈P\/∃p∈P,p<i/\i<p+sub.length))->
  (forIn (List.range' a m) (found,free) (occBody s sub hi limit)).run.fst.toList=found.toList++P.take (limit- found.size)
 |0,a,found,free,P,g,hb,hA,hm=>by
  have:P=[]:=by
   cases P with
   |nil=>rfl
   |cons p r=>have:=hb p List.mem_cons_self;omega
  subst this
  simp
 |m+1,a,found,free,P,g,hb,hA,hm=>by
  rw[List.range'_succ,List.forIn_cons]
  unfold occBody
  by_cases hl:found.size<limit
  ·by_cases ha:a∈P
   ·have h1:=Bv g a ha
    obtain⟨h2,h3⟩:=hA a ha
    rw[if_pos ⟨⟨⟨hl,h1⟩,h2⟩,h3⟩]
    obtain⟨P',rfl⟩:∃P',P=a::P':=by
     cases P with
     |nil=>cases ha
     |cons p r=>
      rcases List.mem_cons.mp ha with e|e
      ·exact⟨r,by rw[e]⟩
      ·have:=Bv g.2 a e
       have:=(hb p List.mem_cons_self).1
       omega
    have ih:=L9 s sub hi limit hn m (a+1) (found.push a) (a+sub.length) P' g.2 (fun i hi'=>by
      have z1:=Bv g.2 i hi'
      have z2:=(hb i (List.mem_cons_of_mem _ hi')).2
      omega) (fun i hi'=>hA i (List.mem_cons_of_mem _ hi')) (fun i hi' hf z=>by
      rcases hm i (by omega) (by omega) z with e|⟨p,hp,e⟩
      ·rcases List.mem_cons.mp e with e|e
       ·omega
       ·exact .inl e
      ·rcases List.mem_cons.mp hp with e1|e1
       ·omega
       ·exact .inr ⟨p,e1,e⟩)
    refine Eq.trans ih ?_
    rw[Array.toList_push,Array.size_push,show limit- found.size=(limit- (found.size+1))+1 by omega,List.take_succ_cons,List.append_assoc]
    rfl
   ·rw[if_neg fun z=>by
     rcases hm a (Nat.le_refl _) z.1.1.2 ⟨z.1.2,z.2⟩with e|⟨p,hp,e⟩
     ·exact ha e
     ·have:=(hb p hp).1;omega]
    refine L9 s sub hi limit hn m (a+1) found free P g (fun i hi'=>?_) hA (fun i hi'=>hm i (by omega))
    have z:=hb i hi'
    have:i≠a:=fun e=>ha (by rw[<-e];exact hi')
    omega
  ·rw[if_neg fun z=>hl z.1.1.1]
   have e0:limit- found.size=0:=by omega
   have ih:∀(l:List Nat) (st:Array Nat×Nat),¬st.fst.size<limit->(forIn l st (occBody s sub hi limit)).run.fst=st.fst:=by
    intro l
    induction l with
    |nil=>intro st _;rfl
    |cons x l ih=>
     intro st hst
     rw[List.forIn_cons]
     unfold occBody
     rw[if_neg fun z=>hst z.1.1.1]
     exact ih _ hst
   have:=ih (List.range' (a+1) m) (found,free) hl
   refine Eq.trans (congrArg Array.toList this) ?_
   rw[e0];simp
noncomputable def Gb(y l:List Nat)(i:Nat):Prop:=i+y.length<=l.length/\(l.drop i).take y.length=y
noncomputable def Et(y:List Nat):List (List Nat)->Prop
 | []=>False
 | [p]=>∀i,¬Gb y p i
 |p::q::r=>(∀i,i<p.length->¬Gb y (p++y++jl y (q::r)) i)/\Et y (q::r)
theorem Ab(x y:Str)(i:Nat):At x y x.length i↔Gb y.cps.toList x.cps.toList i:=by
 unfold At Gb
 rw[subAt_eq,Yh,Yh]
 constructor
 ·rintro⟨h1,h2⟩;exact⟨h1,eq_of_beq h2⟩
 ·rintro⟨h1,h2⟩;exact⟨h1,by rw[h2];exact beq_self_eq_true _⟩
theorem Se{y:List Nat}:∀(ps:List (List Nat)) (a i:Nat),Et y ps->a<=i->Gb y (jl y ps) (i- a)->(i∈pos y.length a ps\/∃p∈pos y.length a ps,p<i/\i<p+y.length)
 | [],_,_,h,_,_=>h.elim
 | [p],a,i,h,_,s=>(h _ s).elim
 |p::q::r,a,i,h,ha,s=>by
  have s:Gb y (p++y++jl y (q::r)) (i- a):=s
  show i∈(a+p.length)::pos y.length (a+p.length+y.length) (q::r)\/_
  by_cases h1:i- a<p.length
  ·exact(h.1 _ h1 s).elim
  by_cases h2:i=a+p.length
  ·exact .inl (by rw[h2];exact List.mem_cons_self)
  by_cases h3:i<a+p.length+y.length
  ·exact .inr ⟨a+p.length,List.mem_cons_self,by omega,h3⟩
  ·have e:i- a=(p++y).length+(i- (a+p.length+y.length)):=by rw[List.length_append];omega
   obtain⟨s1,s2⟩:=s
   rw[e,<-List.drop_drop,List.drop_left]at s2
   rw[List.length_append]at s1
   have:=Se (q::r) (a+p.length+y.length) i h.2 (by omega) ⟨by rw[e,List.length_append]at s1;omega,s2⟩
   rcases this with z|⟨p',hp,z⟩
   ·exact .inl (List.mem_cons_of_mem _ z)
   ·exact .inr ⟨p',List.mem_cons_of_mem _ hp,z⟩
theorem Md(x y:Str)(hn:1<=y.length)(ps:List (List Nat))(h:Et y.cps.toList ps)(e:x.cps.toList=jl y.cps.toList ps)(limit:Nat):
  occurrences x y 0 x.length limit=(pos y.length 0 ps).take limit:=by
 rw[occ_eq]
 have hA:∀i∈pos y.length 0 ps,At x y x.length i:=fun i hi=>by
  rw[Ab,e]
  rw[<-Yh y]at hi
  have:=Es ps 0 i hi
  exact⟨by simpa using this.2.1,by simpa using this.2.2⟩
 have:=L9 x y x.length limit hn (x.length+1- 0) 0 #[] 0 (pos y.length 0 ps) (Er _ _ _) (fun i hi=>by
  have:=(hA i hi).1
  omega) hA (fun i _ _ z=>by
  rw[Ab,e]at z
  have:=Se ps 0 i h (Nat.zero_le _) (by simpa using z)
  rwa [Yh]at this)
 simpa using this
theorem Na(x y:Str)(hn:1<=y.length)(hk:Builtin.Str.strKind y=1)(ps:List (List Nat))(h:Et y.cps.toList ps)(e:x.cps.toList=jl y.cps.toList ps):Txt.split x y=ps.map S:=by
 have hP:occurrences x y 0 x.length (x.length+1)=pos y.length 0 ps:=by
  have h1:=Md x y hn ps h e (x.length+1)
  have h2:=Md x y hn ps h e ((x.length+1)+(pos y.length 0 ps).length)
  rw[List.take_of_length_le (Nat.le_add_left _ _)]at h2
  have h3:=occ_length_le_len x y 0 x.length ((x.length+1)+(pos y.length 0 ps).length)
  rw[h2]at h3
  rw[h1,List.take_of_length_le (by omega)]
 have h0:ps≠[]:=fun z=>by rw[z]at h;exact h
 have one:pos y.length 0 ps=[]->[x]=ps.map S:=fun z=>by
  rcases Zfo z with z|⟨p,z⟩
  ·exact absurd z h0
  ·rw[z]at e⊢
   rw[Zkl x,e];rfl
 unfold Txt.split
 by_cases hs:(decide (x.length<y.length)||decide (Builtin.Str.strKind x<Builtin.Str.strKind y))=true
 ·rw[if_pos hs]
  have hlt:x.length<y.length:=by
   rw[hk]at hs
   have:=Fu x
   rcases Bool.or_eq_true_iff.mp hs with z|z
   ·exact of_decide_eq_true z
   ·have:=of_decide_eq_true z;omega
  refine one ?_
  cases hq:pos y.length 0 ps with
  |nil=>rfl
  |cons i r=>
   have hi:i∈pos y.length 0 ps:=by rw[hq];exact List.mem_cons_self
   rw[<-Yh y]at hi
   have:=(Es ps 0 i hi).2.1
   rw[<-e,Yh,Yh]at this
   omega
 ·rw[if_neg hs,hP]
  by_cases he:(pos y.length 0 ps).isEmpty=true
  ·rw[if_pos he]
   exact one (List.isEmpty_iff.mp he)
  ·rw[if_neg he,partsBetween_eq]
   have z:=Mc (y:=y.cps.toList) x ps 0 h0 (by rw[List.drop_zero];exact e) (Nat.zero_le _)
   rw[Yh]at z
   exact z
theorem Zof(y p:List Nat)(q:List Nat)(r:List (List Nat)):jl y (p::q::r)=p++y++jl y (q::r):=rfl
theorem Xl{y:List Nat}{c:Nat}{y':List Nat}(ey:y=c::y')(p:List Nat)(hp:c∉p)(q:List Nat)(r:List (List Nat))(h:Et y (q::r)):Et y (p::q::r):=by
 refine⟨fun i hi s=>?_,h⟩
 have z:=congrArg List.head? s.2
 rw[ey,List.head?_cons]at z
 rw[<-ey,List.append_assoc,List.head?_take,List.head?_drop,List.getElem?_append_left hi]at z
 rw[if_neg (by rw[ey];simp)]at z
 exact hp (List.mem_of_getElem? z)
theorem Zb3{y:List Nat}{c:Nat}(hc:c∈y)(p:List Nat)(hp:c∉p):Et y [p]:=fun i s=>by
 have:c∈(p.drop i).take y.length:=by rw[s.2];exact hc
 exact hp (List.mem_of_mem_drop (List.mem_of_mem_take this))
theorem Bw{c:Nat}:∀ps:List (List Nat),ps≠[]->(∀p∈ps,c∉p)->Et [c] ps
 | [],h,_=>(h rfl).elim
 | [p],_,h=>Zb3 (c:=c) (by simp) p (h p List.mem_cons_self)
 |p::q::r,_,h=>Xl (c:=c) rfl p (h p List.mem_cons_self) q r (Bw (q::r) (by simp) fun x hx=>h x (List.mem_cons_of_mem _ hx))
end My
noncomputable section
namespace Gen
open PySem PySem.Spec PyProof.Rows L2 DL
noncomputable def top(i:Nat):Stmt:=PySem.Challenge.pw_citeward_k55_works_at_the_desk.main.body.getD i (.Pass ⟨0,0,0,0⟩)
noncomputable abbrev Zkn:Nat:=1000
noncomputable def Y0:FS:=
 Zt (Yp 9 (Zj Ee (Za 6) (W6 Zd3 (Ze (Zj Gz (Za 8) (Za 4)) Zr)))) (Yp 7 (Zj Yk (Za 7) (Zj Bq (Za 2) (Zj Ut (Zj Yk (Zj U9 (Za 0) (Zj Yk (Za 8) (Zd (.int 2)))) (Za 9)) (Zd (.int 22))))))
noncomputable def Qn:FS:=
 Zt (Yp 7 (Zd (.str ""))) (Zt (Ik (Vs (Ze (Za 3) Zr)) (Yq 8) Y0) (D6 5 (Za 7)))
noncomputable def Ou:FS:=
 Zt (Yp 2 (Zd (.str "abcdefghjlmpqrstuvwxyz"))) (Zt (Yp 3 (Zj Yk (Zd (.int 1)) (Zj Ut (Za 0) (Zd (.int 8))))) (Zt (Yp 4 (Zj Ut (Zj U9 (Za 0) (Zd (.int 8))) (Za 3))) (Zt (Yp 5 (Ca (Zm))) (Zt (Ik (Vs (Ze (Za 1) Zr)) (Yq 6) Qn) (Qv (Za 5))))))
noncomputable def W7:List D->Option SV:=Qb Ou 10
noncomputable def Uz:FS:=
 Zt (Gy (Z6 (Zj Gz (Za 0) (Zd (.str "note")))) (Qv (Zj Bq (Ca (C7 [""," ","a\nb","<ab> so","^{x}","It's  so "] (Zm))) (Zj Ut (Za 1) (Zd (.int 6))))) (Wr)) (Zt (Yp 2 (Ca (C7 ["x"," x","x "," ","Lee, Ann & Roe","A = (b)","12-14/5","a  b","So?!","it's 9*.+"] (Zi (Zj Ee (Zd (.str "ab c")) (Zd (.int 20))) (Zm))))) (Qv (Zj Bq (Za 2) (Zj Ut (Za 1) (Zd (.int 11))))))
noncomputable def W3:List D->Option SV:=Qb Uz 3
noncomputable def G2:FS:=
 Gy (Z6 (Zj Gz (Zj Bq (Za 3) (Zd (.int 0))) (Za 2))) (Qv (Zj Bq (Za 3) (Zd (.int 1)))) (Wr)
noncomputable def Jz:FS:=
 Zt (Ik (Zed (V5 "dict" Br (Za 0) (Zi (Za 1) (Zi (Ca (Zm)) (Zm))))) (Yq 3) G2) (Qv (Zd .non))
noncomputable def Wx:List D->Option SV:=Qb Jz 4
noncomputable def J1:FS:=
 Zt (Yp 3 (Zj Bq (Za 0) (Zj Bq (Za 2) (Zd (.int 0))))) (Zt (Yp 4 (Zj Bq (Za 3) (Zd (.int 1)))) (Zt (Gy (Z6 (Zj inZ (Zj Bq (Za 2) (Zd (.int 1))) (Za 4))) (Qv (Zd .non)) (Wr)) (Zt (Yp 5 (Y6 3 Wx (Ze (Za 1) (Ze (Zj Bq (Za 3) (Zd (.int 0))) (Ze (Zj Bq (Za 2) (Zd (.int 1))) (Zr)))))) (Zt (Yp 6 (V5 "dict" Br (Za 4) (Zi (Zd (.str "in")) (Zm)))) (Zt (Gy (orF (Z6 (Zj Vw (Za 5) (Zd .non))) (orF (Z6 (Zj Vw (Za 6) (Zd .non))) (Z6 (Zj Bs (Za 6) (Za 0))))) (Qv (Zd .non)) (Wr)) (Qv (tupF (Zi (Za 6) (Zi (Za 5) (Zm))))))))))
noncomputable def Wy:List D->Option SV:=Qb J1 7
noncomputable def U0:FT:=
 Z6 (Zj N6 (Za 6) (Zd .non))
noncomputable def Cm:FS:=
 Zt (Gy (Z6 (Zj inZ (Za 6) (Za 5))) (Bo) (Wr)) (Zt (Zem 5 (Za 6) (W6 Jx (Ze (Za 4) Zr))) (Zt (D6 4 (Za 6)) (Yp 6 (Y6 3 Wy (Ze (Za 0) (Ze (Za 1) (Ze (Za 6) (Zr))))))))
noncomputable def Zb4:FS:=
 Zt (Yp 4 (Ca (Zm))) (Zt (Yp 5 (Zay)) (Zt (Yp 6 (tupF (Zi (Za 2) (Zi (Za 3) (Zm))))) (Zt (Qh U0 Cm Zkn) (Qv (Za 4)))))
noncomputable def Fw:List D->Option SV:=Qb Zb4 7
noncomputable def Zb5:FS:=
 Zt (Yp 4 (Zj Bq (Y6 4 Fw (Ze (Za 0) (Ze (Za 1) (Ze (Za 2) (Ze (Za 3) (Zr)))))) (G7 Zeb (Zd (.int 1))))) (Qv (V5 "dict" Br (Zj Bq (Zj Bq (Za 0) (Zj Bq (Za 4) (Zd (.int 0)))) (Zd (.int 1))) (Zi (Zj Bq (Za 4) (Zd (.int 1))) (Zm))))
noncomputable def Fx:List D->Option SV:=Qb Zb5 5
noncomputable def J2:FE:=
 Zj inZ (Za 0) (Za 1)
noncomputable def Ov:FS:=
 Qv (W6 Zeg (Ze (N4 [.own,.cap 1,.acc] 2 (Zed (Za 0)) (Yq 0) (N3) J2) Zr))
noncomputable def Qs:List D->Option SV:=Qb Ov 2
noncomputable def U1:FS:=
 Zt (Gy (Vr (Z6 (G7 (Zaf "str") (Za 0)))) (Qv (Zd (.bl false))) (Wr)) (Qv (D3 (Lh leD leD (Zd (.int 1)) (W6 Jx (Ze (Za 0) Zr)) (Za 2)) (Y6 2 Qs (Ze (Za 0) (Ze (Za 1) (Zr))))))
noncomputable def Wp:List D->Option SV:=Qb U1 3
noncomputable def Gc:FS:=
 Qv (Y6 3 Wp (Ze (Za 0) (Ze (Zd (.str "abcdefghijklmnopqrstuvwxyz")) (Ze (Zd (.int 8)) (Zr)))))
noncomputable def Ui:List D->Option SV:=Qb Gc 1
noncomputable def Qd:FS:=
 Zt (Gy (orF (Vr (Z6 (Y6 1 Ui (Ze (Za 0) (Zr))))) (Z6 (Zj inZ (Za 0) (Za 1)))) (Bo) (Wr)) (Qv (Za 0))
noncomputable def Z3:List D->Option SV:=Qb Qd 2
noncomputable def Me : FS :=
  Qv (Y6 3 Wp (Ze (Za 0) (Ze (Zd (.str "ABCDEFGHIJKLMNOPQRSTUVWXYZabcdefghijklmnopqrstuvwxyz0123456789 .,!?'-/()&+*=")) (Ze (Zd (.int 80)) (Zr)))))
noncomputable def W4:List D->Option SV:=Qb Me 1
noncomputable def Ow:FS:=
 Qv (Zj Ut (Zj Ee (Zj Ut (Za 0) (Zd (.int 2147483647))) (Za 1)) (Zd (.int 2147483647)))
noncomputable def Wl:List D->Option SV:=Qb Ow 2
noncomputable def Qo:FS:=
 Zt (Gy (Z6 (Zj ltD (Za 1) (W6 Jx (Ze (Za 0) Zr)))) (Qv (Zj Bq (Za 0) (Za 1))) (Wr)) (Qv (Zd (.int 0)))
noncomputable def Y1:List D->Option SV:=Qb Qo 2
noncomputable def Eu(s:Stmt):List Stmt:=match s with
 | .ClassDef _ _ _ b _ _ _ _ _ _ _=>b
 |_=>[]
noncomputable abbrev Oa:Ba:=[("work",3,"word","put_work"),("field",4,"text","put_field"),("bare",3,"word","take_field"),("drop",2,"word","drop_work"),("lend",4,"word","lend_field"),("step",2,"text","put_step"),("steps",1,"word","clear_steps"),("row",2,"text","put_row"),("order",2,"words","put_order"),("many",2,"word","put_many"),("set",2,"text","told_set"),("has",3,"word","told_had"),("list",2,"text","told_list"),("load",2,"text","load_list")]
noncomputable def U2:FS:=
 Zt (Gy (Vr (Z6 (G7 (Zaf "str") (Za 0)))) (Bo) (Wr)) (Zt (Yp 1 (Zj Bq (bmF "str" Uv (Za 0) (Ze (Zd (.str " ")) Zr)) (Zd (.int 0)))) (Zt (Gy (L4 Oa 1) (Bo) (Wr)) (Zt (Yp 2 (Zfm Oa (Za 1))) (Zt (Yp 3 (ifF (Z6 (Zj Gz (G7 (ixR 1) (Za 2)) (Zd (.str "text")))) (bmF "str" G9 (Za 0) (Ze (Zd (.str " ")) (Ze (Zj Zi1 (G7 (ixR 0) (Za 2)) (Zd (.int 1))) Zr))) (bmF "str" A7 (Za 0) (Ze (Zd (.str " ")) Zr))))
  (Zt (Gy (orF (Z6 (Zj ltD (W6 Jx (Ze (Za 3) Zr)) (G7 (ixR 0) (Za 2)))) (Zdr (Z6 (Zj gtD (W6 Jx (Ze (Za 3) Zr)) (G7 (ixR 0) (Za 2)))) (Z6 (Zj Gz (G7 (ixR 1) (Za 2)) (Zd (.str "word")))))) (Bo) (Wr)) (Qv (Za 3)))))))
noncomputable def Y2:List D->Option SV:=Qb U2 4
noncomputable abbrev Gs:Stmt:=(Eu (top 6)).getD 0 (.Pass ⟨0,0,0,0⟩)
noncomputable def J3:FS:=Zt (Gy (Z6 (Zj Bs (Za 1) (G7 (Xc "Desk" "shelf") (Za 0)))) (L0 "NoWork" "key" (Za 1)) (Wr)) (Qv (Za 1))
noncomputable def Wz:List D->Option XO:=Zez J3 2
noncomputable abbrev Xm:Stmt:=(Eu (top 115)).getD 0 (.Pass ⟨0,0,0,0⟩)
noncomputable abbrev Zko:Stmt:=(Eu (top 115)).getD 2 (.Pass ⟨0,0,0,0⟩)
noncomputable def Cn:FS:=Zt (Ep "Desk" "shelf" Xf) (Zt (Ep "Desk" "table" Zax) (Zt (Ep "Desk" "steps" (Ca Zm)) (Zt (Ep "Desk" "row" (tupF Zm)) (Zt (Ep "Desk" "order" (Ca Zm)) (Ep "Desk" "many" (Zd (.int 2)))))))
noncomputable def Uj:GG:=Jy Cn 1
noncomputable abbrev ckX(e:FE):FX:=Fi (Po 2 Wz (Cg (Ug (Za 0)) (Cg (Ug e) Eg)))
noncomputable abbrev w1(i:Int):FE:=Zj Bq (Za 1) (Zd (.int i))
noncomputable abbrev okG:FS:=G1 (upN (Ug (Zd (.str "ok"))))
noncomputable def Bx:FS:=Zt (Yp 2 (Y6 2 Z3 (Ze (w1 1) (Ze (tupF Zm) Zr)))) (Zt (Yp 3 (Y6 2 Z3 (Ze (w1 2) (Ze (tupF Zm) Zr)))) (Zt (Fk 0 (plF "Desk" "shelf" Oq) 2 (Zbo (Za 3))) okG))
noncomputable def Qi:GG:=Jy Bx 4
noncomputable def Qt:FS:=Zt (Lz 2 (ckX (w1 1))) (Zt (Yp 3 (Y6 2 Z3 (Ze (w1 2) (Ze (tupF (Zi (Zd (.str "kind")) Zm)) Zr)))) (Zt (Gy (Zdr (Z6 (Zj neX (Za 3) (Zd (.str "note")))) (Vr (Z6 (Y6 1 W4 (Ze (w1 3) Zr))))) Bo Wr) (Zt (Fk 0 (plI 1 (plK 2 (plF "Desk" "shelf" Oq))) 3 (w1 3)) okG)))
noncomputable def Yy:GG:=Jy Qt 4
noncomputable def Q0:FS:=Zt (Lz 2 (ckX (w1 1))) (Zt (Yp 3 (Y6 2 Z3 (Ze (w1 2) (Ze (tupF Zm) Zr)))) (Zt (Xd 0 (plI 1 (plK 2 (plF "Desk" "shelf" Oq))) 3) okG))
noncomputable def Yz:GG:=Jy Q0 4
noncomputable def Jt:FS:=Zt (Xe 0 (plF "Desk" "shelf" Oq) (ckX (w1 1))) okG
noncomputable def Y7:GG:=Jy Jt 2
noncomputable def U3:FS:=Zt (Lz 2 (ckX (w1 1))) (Zt (Yp 3 (Y6 2 Z3 (Ze (w1 2) (Ze (tupF Zm) Zr)))) (Zt (Lz 4 (Fi (Ug (Y6 4 Fx (Ze (G7 (Xc "Desk" "shelf") (Za 0)) (Ze (G7 (Xc "Desk" "table") (Za 0)) (Ze (Za 2) (Ze (Za 3) Zr)))))))) (G1 (upN (Ug (ifF (Z6 (Zj Vw (Za 4) (Zd .non))) (Zd (.str "")) (Za 4)))))))
noncomputable def Wm:GG:=Jy U3 5
noncomputable abbrev Mf:List (Str×GG):=[("put_work",Qi),("put_field",Yy),("take_field",Yz),("drop_work",Y7),("told_had",Wm)]
noncomputable def Zb6:FS:=Zt (Yp 2 (Y6 1 Y2 (Ze (Za 1) Zr))) (Zt (Yp 3 (G7 (ixR 2) (Zfm Oa (Zj Bq (Za 2) (Zd (.int 0)))))) (G1 (P6 3 Mf 0 Oq 1 (Zi (Za 2) Zm))))
noncomputable def Bg:GG:=Jy Zb6 4
noncomputable def U4:FS:=Zt (Yp 2 (Zd .non)) (Zt (Ze1 (Zj6 2 (Mb "Desk" "say" 0 Oq 1 Bg (Zi (Za 1) Zm))) [⟨some 3,["NoWork"],[],Zt (Yp 4 (D3 (G7 (Fb ["NoWork"] []) (Za 3)) (D3 (G7 (Fb ["NoWork"] []) (Za 3)) (Zit (G7 (Fb [] ["NoWork"]) (Za 3)))))) (Yp 2 (tupF (Zi (Zd (.str "no work")) (Zi (G7 (Pr ["NoWork"] "key") (Za 3)) (Zi (Za 4) Zm)))))⟩]) (G1 (upN (Ug (Za 2)))))
noncomputable def Zx:GG:=Jy U4 5
noncomputable abbrev Gu(e:FE):FN:=Jc 0 Oq 1 Zx (Zi e Zm)
noncomputable def W5:FS:=
 Zt (Yp 5 (Zj Ut (Za 4) (Zd (.int 8)))) (Zt (Yp 6 (Zj Bq (Zj Yk (Za 3) (Ca (Zi (Zd (.str "note")) (Zm)))) (Zj Ut (Zj U9 (Za 4) (Zd (.int 8))) (Zd (.int 4))))) (Zt (Gy (Z6 (Zj ltD (Za 5) (Zd (.int 2)))) (Zt (Fk 1 Oq 2 Xf) (G1 (M3 Gz (Gu (Zj Yk (Zj Yk (Zj Yk (Zd (.str "work ")) (Za 2)) (Zd (.str " "))) (Zj Bq (Ca (C7 ["book","part"] (Zm))) (Za 5)))) (Zd (.str "ok"))))) (Wr)) (Zt (Yp 7 (Zj Yk (Zd (.str "drop ")) (Za 2))) (Zt (Gy (Z6 (Zj gtD (Za 5) (Zd (.int 2)))) (Yp 7 (Zj Yk (Zj Yk (Zj Yk (Zd (.str "bare ")) (Za 2)) (Zd (.str " "))) (Za 6))) (Wr)) (Zt (Yp 8 (Y6 2 W3 (Ze (Za 6) (Ze (Zj U9 (Za 4) (Zd (.int 32))) (Zr))))) (Zt (Gy (Z6 (Zj gtD (Za 5) (Zd (.int 3)))) (Yp 7 (Zj Yk (Zj Yk (Zj Yk (Zj Yk (Zj Yk (Zd (.str "field ")) (Za 2)) (Zd (.str " "))) (Za 6)) (Zd (.str " "))) (Za 8))) (Wr)) (Zt (Yp 9 (Zd (.str "ok"))) (Zt (Gy (Fj (Z6 (Zj Bs (Za 2) (Za 1)))) (Yp 9 (tupF (Zi (Zd (.str "no work")) (Zi (Za 2) (Zi (Zd (.bl true)) (Zm)))))) (Gy (Z6 (Zj Gz (Za 5) (Zd (.int 2)))) (Xe 1 Oq (Ug (Za 2))) (Gy (Z6 (Zj Gz (Za 5) (Zd (.int 3)))) (Xd 1 (plK 2 Oq) 6) (Fk 1 (plK 2 Oq) 6 (Za 8))))) (G1 (M3 Gz (Gu (Za 7)) (Za 9)))))))))))
noncomputable def Yv:GG:=Jy W5 10
noncomputable def Uk:FS:=
 Zt (Yp 6 (Zj Bq (Za 2) (Zj Ut (Zj Yk (Za 5) (Za 4)) (W6 Jx (Ze (Za 2) Zr))))) (Zt (Yp 7 (Zj Bq (Za 3) (Zj Ut (Zj U9 (Zj Yk (Za 5) (Za 4)) (W6 Jx (Ze (Za 2) Zr))) (W6 Jx (Ze (Za 3) Zr))))) (Zt (Yp 8 (tupF (Zi (Zd (.str "no work")) (Zi (Za 6) (Zi (Zd (.bl true)) (Zm)))))) (Zt (Gy (Fj (Z6 (Zj inZ (Za 6) (Za 1)))) (Lz 8 (Fi (Ug (V5 "dict" Br (Zj Bq (Za 1) (Za 6)) (Zi (Za 7) (Zi (Zd (.str "")) (Zm))))))) (Wr)) (ifN false (M3 neX (Gu (Zj Yk (Zj Yk (Zj Yk (Zd (.str "has ")) (Za 6)) (Zd (.str " "))) (Za 7))) (Za 8)) (G1 (upN (Ug (Zd (.bl false))))) (Wr)))))
noncomputable def Ul:FS:=
 Zt (Ik (Vs (Ze (Zj Ee (W6 Jx (Ze (Za 2) Zr)) (W6 Jx (Ze (Za 3) Zr))) Zr)) (Yq 5) Uk) (G1 (upN (Ug (Zd (.bl true)))))
noncomputable def Qj:GG:=Jy Ul 9
noncomputable def O2:FS:=ifN true (Jd 3 4 (Xx 9 Oq) (Xx 9 Oq) 3 Qj (Zi (Za 1) (Zi (Zj Yk (Za 2) (Ca (Zi (Zd (.str "note")) (Zm)))) (Zi (Zj Ut (Za 7) (Zd (.int 16))) Zm)))) (Qv (Zd (.bl false))) (Wr)
noncomputable def Co:FS:=
 Zt (Yp 7 (Y6 2 Wl (Ze (Zj Yk (Za 6) (Za 5)) (Ze (Zd (.int 48271)) (Zr))))) (Zt (Yp 8 (Zj U9 (Zj Ut (Zj U9 (Za 7) (Zj Vv (Zd (.int 2)) (Zd (.int 10)))) (Zd (.int 3))) (Zd (.int 2)))) (Zt (ifN true (Jd 3 4 (Xx 8 Oq) (Xx 8 Oq) 3 Yv (Zi (Zj Bq (Za 1) (Zj Ut (Zj U9 (Za 7) (Zj Vv (Zd (.int 2)) (Zd (.int 12)))) (Zd (.int 4)))) (Zi (Za 2) (Zi (Za 7) Zm)))) (Qv (Zd (.bl false))) (Wr)) (Ik (Vs (Ze (Zd (.int 2)) Zr)) (Yq 9) O2)))
noncomputable def Fy:FS:=
 Zt (Cb (Yq 1) (Y6 2 W7 (Ze (Y6 2 Wl (Ze (Y6 2 Y1 (Ze (Za 0) (Ze (Zd (.int 0)) (Zr)))) (Ze (Zd (.int 16807)) (Zr)))) (Ze (Zd (.int 4)) (Zr))))) (Zt (Cb (Yq 2) (Y6 2 W7 (Ze (Y6 2 Wl (Ze (Y6 2 Y1 (Ze (Za 0) (Ze (Zd (.int 1)) (Zr)))) (Ze (Zd (.int 16807)) (Zr)))) (Ze (Zd (.int 3)) (Zr))))) (Zt (Yp 3 (Fq (Gq "Desk" Uj) (Gq "Desk" Uj))) (Zt (Yp 4 (Fq Xf Xf)) (Zt (Ik (Zae (Zi (slF slD (Za 0) (N7 (Zd (.int 2))) (N7 (Zd (.int 22)))) Zm)) (Tt 2 (Bm (Yq 5) (Bm (Yq 6) (Ij)))) Co) (Zke (Jd 3 4 (plI 0 Oq) (plI 0 Oq) 3 Qj (Zi (Za 1) (Zi (Za 2) (Zi (Zd (.int 0)) Zm)))))))))
noncomputable def Sf:List D->Option SV:=Qb Fy 10
end Gen
namespace Gen
open PySem PySem.Spec PyProof.Rows L2 DL
noncomputable abbrev At(K:PySem.W.Frag)(x:Str)(i:Nat):Prop:=∃f fd,AtF K x (top i) f fd
structure Env (w : World) (K : PySem.W.Frag) (mg : Str -> Option Value) (cW cC cN cD iW : Addr) : Prop where
  u : Xu K mg
  a0 : At K "_law_names" 119
  a1 : At K "_law_text" 121
  a2 : At K "other_field" 29
  a3 : At K "pair_behind" 28
  a4 : At K "way" 27
  a5 : At K "had" 30
  a6 : At K "is_all_of" 20
  a7 : At K "is_text_of" 21
  a8 : At K "is_name" 22
  a9 : At K "checked_name" 111
  a10 : At K "is_plain" 23
  a11 : At K "_law_mixed" 118
  a12 : At K "_law_cell_at" 117
  z_all : mg "all" = none
  z_int : mg "int" = none
  z_isinstance : mg "isinstance" = none
  z_len : mg "len" = none
  z_range : mg "range" = none
  z_str : mg "str" = none
  c_NAME_LENGTH : ∃ t, PySem.W.nsIn K mainGlobals "NAME_LENGTH" = some (some (.int 8 t))
  c_PLAIN_LENGTH : ∃ t, PySem.W.nsIn K mainGlobals "PLAIN_LENGTH" = some (some (.int 80 t))
  c_PLAIN_SIGNS : ∃ t, PySem.W.nsIn K mainGlobals "PLAIN_SIGNS" = some (some (.str "ABCDEFGHIJKLMNOPQRSTUVWXYZabcdefghijklmnopqrstuvwxyz0123456789 .,!?'-/()&+*=" t))
  c_SMALL_LETTERS : ∃ t, PySem.W.nsIn K mainGlobals "SMALL_LETTERS" = some (some (.str "abcdefghijklmnopqrstuvwxyz" t))
  z_enumerate : mg "enumerate" = none
  z_ValueError : mg "ValueError" = none
  b0 : At K "words_of" 114
  b1 : At K "checked_key" 112
  b2 : At K "put_work" 97
  b3 : At K "put_field" 98
  b4 : At K "take_field" 99
  b5 : At K "drop_work" 100
  b6 : At K "told_had" 108
  b7 : At K "_law_told" 120
  b8 : At K "_law_done" 122
  b9 : At K "_law_all" 123
  b10 : At K "law" 124
  x_NoWork : PySem.W.nsIn K mainGlobals "NoWork" = some (some (.ref cW))
  x_CiteError : PySem.W.nsIn K mainGlobals "CiteError" = some (some (.ref cC))
  x_NoName : PySem.W.nsIn K mainGlobals "NoName" = some (some (.ref cN))
  x_Desk : PySem.W.nsIn K mainGlobals "Desk" = some (some (.ref cD))
  iF : PySem.W.findIn K (.ref cW) "__init__" = some (some (.ref iW)) /\ ∃ fd, Fun K "__init__" "NoWork.__init__" Gs iW fd
  iN : PySem.W.isFn K (.ref iW) = true
  oi : Ld K cW iW = true
  e1 : PySem.W.isClsIn K cW = true
  e2 : PySem.W.findIn K (.ref cW) "__getattribute__" = some (some (.builtin "BaseException.__getattribute__"))
  e3 : PySem.W.findIn K (.ref cW) "__getattr__" = some none
  e4 : PySem.W.findIn K (.ref cW) "__class__" = some (some (.builtin "object.__class__"))
  e5 : PySem.W.specialIn K (.builtin "object.__class__") "__get__" = some (some (.builtin "getset_descriptor.__get__"))
  e6 : PySem.W.takesIn K (.builtin "object.__class__") = some true
  e7 : PySem.W.mroIn K cW (.type "object") = some true
  e8 : PySem.W.mroIn K cW (.type "BaseException") = some true
  e9 : PySem.W.findIn K (.ref cW) "__setattr__" = some (some (.builtin "object.__setattr__"))
  e10 : PySem.W.findIn K (.ref cW) "key" = some none
  e11 : ((PySem.W.clsIn K cW).any fun cd => A0 cd.mro && cd.hasDict) = true
  e12 : ((PySem.W.clsIn K cW).any fun cd => cd.hasDict) = true
  e13 : PySem.W.typeIn K (.ref cW) = some (.type "type")
  e14 : PySem.W.mroIn K cW (.ref cW) = some true
  q0 : PySem.W.kitOne K (.ref cW) (.ref cC) = some true
  q1 : PySem.W.kitOne K (.ref cW) (.type "ValueError") = some true
  q2 : PySem.W.kitOne K (.ref cW) (.ref cN) = some false
  d1 : PySem.W.makesIn K cD = true
  d2 : PySem.W.keepIn K (.ref cD) = true
  d3 : PySem.W.plainGet K cD Str.empty = true
  d4 : PySem.W.hasDictIn K cD = true
  d5 : PySem.W.plainOver K cD = true
  d6 : PySem.W.findIn K (.ref cD) "__setattr__" = some (some (.builtin "object.__setattr__"))
  n_shelf : PySem.W.findIn K (.ref cD) "shelf" = some none
  n_table : PySem.W.findIn K (.ref cD) "table" = some none
  n_steps : PySem.W.findIn K (.ref cD) "steps" = some none
  n_row : PySem.W.findIn K (.ref cD) "row" = some none
  n_order : PySem.W.findIn K (.ref cD) "order" = some none
  n_many : PySem.W.findIn K (.ref cD) "many" = some none
  iD : ∃ f fd, PySem.W.findIn K (.ref cD) "__init__" = some (some (.ref f)) /\ PySem.W.isFn K (.ref f) = true /\ Fun K "__init__" "Desk.__init__" Xm f fd
  sD : ∃ f fd, PySem.W.findIn K (.ref cD) "say" = some (some (.ref f)) /\ PySem.W.isFn K (.ref f) = true /\ Fun K "say" "Desk.say" Zko f fd
  rows : RowsIn w K "ROWS" Oa
section
variable{P:Program}{w:World}{K:PySem.W.Frag}{mg:Str->Option Value}{base:Heap}{cW cC cN cD iW:Addr}(E:Env w K mg cW cC cN cD iW)(kb:K.In base)
include E
theorem k0:Sv P w K mg base Cw 1 "_law_names" ["_law_number","_law_many"] (Qy K 2 W7):=Pt E.u E.a0 0 2 ["_law_number","_law_many","_law_letters","_law_size","_law_at","_law_names_here","_law_turn","_law_name","_law_k","_law_step"] W7 Ou fun nd _ hr hu hv=>(Zf (Z7 2 nd Yl) (Zf (Z7 3 nd (Wf Zs (Jp (Zc 0) Zs))) (Zf (Z7 4 nd (Jp (Ol (Zc 0) Zs) (Zc 3))) (Zf (Z7 5 nd (Bd Yo)) (Zf (Tw PassesOwn.never rfl (Pd E.z_range (Zc 1)) (On 6 nd) (Zf (Z7 7 nd Yl) (Zf (Tw PassesOwn.never rfl (Pd E.z_range (Zc 3)) (On 8 nd) (Zf (Z7 9 nd (Ef (Zc 6) (Zjc E.z_int (Znf hv (Zc 8) (Zc 4))))) (Zn (Z7 7 nd (Wf (Zc 7) (Yj hu (Zc 2) (Jp (Wf (Ol (Zc 0) (Wf (Zc 8) Zs)) (Zc 9)) Zs))))))) (Zn (Zg2 5 (Zc 7)))))) (Zn (Wh (Zc 5))))))))
theorem k1:Sv P w K mg base Cw 1 "_law_text" ["_law_field","_law_number"] (Qy K 2 W3):=Pt E.u E.a1 0 2 ["_law_field","_law_number","_law_some"] W3 Uz fun nd _ hr hu hv=>(@Zf _ _ _ _ _ _ (@Uf _ _ _ _ _ _ _ _ _ (@Tx _ _ _ _ _ _ _ hv (Zc 0) Yl) (@Zn _ _ _ _ (@Wh _ _ _ _ _ (@Yj _ _ _ _ _ _ _ hu (@Bd _ _ _ _ _ (@Ei _ _ _ _ [("",_,_),(" ",_,_),("a\nb",_,_),("<ab> so",_,_),("^{x}",_,_),("It's  so ",_,_)] Yo)) (@Jp _ _ _ _ _ _ _ (Zc 1) Zs) (by intro _ _;rfl)))) Y5) (@Zf _ _ _ _ _ _ (@Z7 _ _ _ _ _ 2 _ _ nd (@Bd _ _ _ _ _ (@Ei _ _ _ _ [("x",_,_),(" x",_,_),("x ",_,_),(" ",_,_),("Lee, Ann & Roe",_,_),("A = (b)",_,_),("12-14/5",_,_),("a  b",_,_),("So?!",_,_),("it's 9*.+",_,_)] (@Zz _ _ _ _ _ _ (@Ef _ _ _ _ _ _ _ Yl Zs) Yo (by rfl)))) (by rfl) (by first|exact Or.inl rfl|exact Or.inr rfl) (by rfl) (by first|exact .inl rfl|exact .inr rfl)) (@Zn _ _ _ _ (@Wh _ _ _ _ _ (@Yj _ _ _ _ _ _ _ hu (Zc 2) (@Jp _ _ _ _ _ _ _ (Zc 1) Zs) (by intro _ _;rfl))))))
theorem k2:Sv P w K mg base Cw 1 "other_field" ["table","kind","field"] (Qy K 3 Wx):=Pt E.u E.a2 0 3 ["table","kind","field","pair"] Wx Jz fun nd _ hr hu hv=>(Zf (Tw PassesOwn.never rfl (Zg6 (Ea hu (Zc 0) (Zz (Zc 1) (Zz (Bd Yo) Yo)))) (On 3 nd) (Zn (Uf (Tx hv (Yj hu (Zc 3) Zs) (Zc 2)) (Zn (Wh (Yj hu (Zc 3) Zs))) Y5))) (Zn (Wh Gn)))
theorem k3:Sv P w K mg base Cw 2 "pair_behind" ["shelf","table","pair"] (Qy K 3 Wy):=Pt E.u E.a3 1 3 ["shelf","table","pair","work","fields","other","key"] Wy J1 fun nd _ hr hu hv=>(Zf (Z7 3 nd (Yj hu (Zc 0) (Yj hu (Zc 2) Zs))) (Zf (Z7 4 nd (Yj hu (Zc 3) Zs)) (Zf (Uf (Pn hu (Yj hu (Zc 2) Zs) (Zc 4)) (Zn (Wh Gn)) Y5) (Zf (Z7 5 nd (Yu (k2 E) hr (Zp (Zc 1) (Zp (Yj hu (Zc 3) Zs) (Zp (Yj hu (Zc 2) Zs) Yx))))) (Zf (Z7 6 nd (Ea hu (Zc 4) (Zz Yl Yo))) (Zf (Uf (PW.pt (Zd6 (Zag (Zc 5) Gn) (Zd6 (Zag (Zc 6) Gn) (Zai (R4 hu (Zc 6) (Zc 0)))))) (Zn (Wh Gn)) Y5) (Zn (Wh (Om (Zz (Zc 6) (Zz (Zc 5) Yo)))))))))))
theorem k4:Sv P w K mg base Cw 3 "way" ["shelf","table","key","field"] (Qy K 4 Fw):=Pt E.u E.a4 2 4 ["shelf","table","key","field","pairs","places","pair"] Fw Zb4 fun nd _ hr hu hv=>(Zf (Z7 4 nd (Bd Yo)) (Zf (Z7 5 nd Zeq) (Zf (Z7 6 nd (Om (Zz (Zc 2) (Zz (Zc 3) Yo)))) (Zf (Zd9 Zkn PassesOwn.never (Zja (Zc 6) Gn) (Zf (Uf (Pn hu (Zc 6) (Zc 5)) (Zn Oz) Y5) (Zf (Znr 5 hu (Zc 6) (Be E.z_len (Zc 4))) (Zf (Zg2 4 (Zc 6)) (Zn (Z7 6 nd (Yu (k3 E) hr (Zp (Zc 0) (Zp (Zc 1) (Zp (Zc 6) Yx)))))))))) (Zn (Wh (Zc 4)))))))
theorem k5:Sv P w K mg base Cw 4 "had" ["shelf","table","key","field"] (Qy K 4 Fx):=Pt E.u E.a5 3 4 ["shelf","table","key","field","last"] Fx Zb5 fun nd _ hr hu hv=>(Zf (Z7 4 nd (Yj hu (Yu (k4 E) hr (Zp (Zc 0) (Zp (Zc 1) (Zp (Zc 2) (Zp (Zc 3) Yx))))) (Zne Zs))) (Zn (Wh (Ea hu (Yj hu (Yj hu (Zc 0) (Yj hu (Zc 4) Zs)) Zs) (Zz (Yj hu (Zc 4) Zs) Yo)))))
theorem k6:Sv P w K mg base Cw 1 "is_all_of" ["text","signs"] (Qy K 2 Qs):=Pt E.u E.a6 0 2 ["text","signs"] Qs Ov fun nd _ hr hu hv=>(Zn (Wh (Znk E.z_all (Zjv ["sign","signs",".acc"] (Zg6 (Zc 0)) (fun nd=>(On 0 nd)) (xt0) ((Znv hu (Zc 0) (Zc 1)))))))
theorem k7:Sv P w K mg base Cw 2 "is_text_of" ["value","signs","most"] (Qy K 3 Wp):=Pt E.u E.a7 1 3 ["value","signs","most"] Wp U1 fun nd _ hr hu hv=>(Zf (Uf (N9 (Pa (Zg1 E.z_isinstance E.z_str boot_str (Pe _) (Zc 0)))) (Zn (Wh Lk)) Y5) (Zn (Wh (Zaj (Zd8 Zge Zm0 Zge Zm0 Zs (Be E.z_len (Zc 0)) (Zc 2)) (Zg0 (Yu (k6 E) hr (Zp (Zc 0) (Zp (Zc 1) Yx))))))))
theorem k8:Sv P w K mg base Cw 3 "is_name" ["value"] (Qy K 1 Ui):=Pt E.u E.a8 2 1 ["value"] Ui Gc fun nd _ hr hu hv=>(Zn (Wh (Yu (k7 E) hr (Zp (Zc 0) (Zp (Pu E.u E.c_SMALL_LETTERS) (Zp (Pv E.u E.c_NAME_LENGTH) Yx))))))
theorem k9:Sv P w K mg base Cw 4 "checked_name" ["word","barred"] (Qy K 2 Z3):=Pt E.u E.a9 3 2 ["word","barred"] Z3 Qd fun nd _ hr hu hv=>(Zf (Uf (PW.pt (Zd6 (N9 (Pa (Yu (k8 E) hr (Zp (Zc 0) Yx)))) (Zai (Pn hu (Zc 0) (Zc 1))))) (Zn Oz) Y5) (Zn (Wh (Zc 0))))
theorem k10:Sv P w K mg base Cw 3 "is_plain" ["value"] (Qy K 1 W4):=Pt E.u E.a10 2 1 ["value"] W4 Me fun nd _ hr hu hv=>(Zn (Wh (Yu (k7 E) hr (Zp (Zc 0) (Zp (Pu E.u E.c_PLAIN_SIGNS) (Zp (Pv E.u E.c_PLAIN_LENGTH) Yx))))))
theorem k11:Sv P w K mg base Cw 1 "_law_mixed" ["_law_cell","_law_by"] (Qy K 2 Wl):=Pt E.u E.a11 0 2 ["_law_cell","_law_by"] Wl Ow fun nd _ hr hu hv=>(Zn (Wh (Jp (Ef (Jp (Zc 0) Zs) (Zc 1)) Zs)))
theorem k12:Sv P w K mg base Cw 1 "_law_cell_at" ["_law_script","_law_k"] (Qy K 2 Y1):=Pt E.u E.a12 0 2 ["_law_script","_law_k"] Y1 Qo fun nd _ hr hu hv=>(Zf (Uf (Zi8 (Zc 1) (Be E.z_len (Zc 0))) (Zn (Wh (Yj hu (Zc 0) (Zc 1)))) Y5) (Zn (Wh Zs)))
theorem Xn{x:Str}(h:PySem.W.findIn K (.ref cD) x=some none):∀C,Yf K "Desk" C->Cls K C/\W9 K C x:=fun C cl=>by
 have h1:PySem.W.nsIn K mainGlobals "Desk"=some (some (.ref C)):=cl
 have h2:PySem.W.nsIn K mainGlobals "Desk"=some (some (.ref cD)):=E.x_Desk
 rw[h1]at h2;cases h2
 exact⟨⟨E.d3,E.d4,E.d5,E.d6⟩,h⟩
theorem kw:Sv P w K mg base Cw 1 "words_of" ["row"] (Qy K 1 Y2):=Pt E.u E.b0 0 1 ["row","first","form","words"] Y2 U2 fun nd _ hr hu hv=>(Zf (Uf (N9 (Pa (Zg1 E.z_isinstance E.z_str boot_str (Pe _) (Zc 0)))) (Zn Oz) Y5) (Zf (Z7 1 nd (Yj hu (Fa (Zc 0) Yl) Zs)) (Zf (Uf (Zby 1 E.u E.rows) (Zn Oz) Y5) (Zf (Z7 2 nd (Zbz E.u E.rows (Zc 1))) (Zf (Z7 3 nd (Zna (Tx hv (T8 1 (Zc 2)) Yl) (Zbg (Zc 0) Yl (Zm8 (T8 0 (Zc 2)) Zs)) (Zeh (Zc 0) Yl))) (Zf (Uf (PW.pt (Zd6 (Zi8 (Be E.z_len (Zc 3)) (T8 0 (Zc 2))) (Zai (PW.pt (Zgz (Zi9 (Be E.z_len (Zc 3)) (T8 0 (Zc 2))) (Zah (Tx hv (T8 1 (Zc 2)) Yl))))))) (Zn Oz) Y5) (Zn (Wh (Zc 3)))))))))
end
end Gen
namespace Gen
open PySem PySem.Spec PyProof.Rows L2 DL
theorem Fz:FnScope ["self","key"] ["self","key"] (Zv Gs):=⟨rfl,rfl,rfl,by decide+kernel,rfl,by decide+kernel,by decide+kernel⟩
section
variable{P:Program}{w:World}{K:PySem.W.Frag}{mg:Str->Option Value}{base:Heap}{cW cC cN cD iW:Addr}(E:Env w K mg cW cC cN cD iW)(kb:K.In base)
include E kb
theorem kck:Sv P w K mg base (Oc P w) 3 "checked_key" ["desk","word"] (spX K 2 Wz):=by
 obtain⟨_,fd,F⟩:=E.iF
 have FI:FnOk P w K mg base Cw 1 iW fd ["self","key"] (Ch cW "key"):=F.ok Fz V9 fun cdv A outer s H vs Q E' hr h=>⟨A3 K (Jg 0) (Jg 1) "key",Ni (Ze6 (pv 0) (pv 1)),Zbe ⟨E.e9,E.e7,E.e10,E.e11⟩ h⟩
 have BI:Qf K fd ["self","key"] []:=F.binds fun _ _ _ _ _ _ us hl=>of2 (fun _ _=>rfl) us hl
 exact Zqo E.u E.b1 2 2 ["desk","word"] Wz J3 fun nd _ hr hu hv=>(Zf (Uf (R4 hu (Zc 1) (L5 (Xn E E.n_shelf) (Zc 0))) (Zn (Zbd Tj rfl (E.u E.x_NoWork) (Zdp kb E.oi) E.iN FI hr BI E.x_NoWork (Zc 1))) Y5) (Zn (Wh (Zc 1))))
theorem kiD:SvO P w K mg base cD "__init__" 1 ["self"] (Gp K 1 0 Uj):=Zod E.iD 0 1 0 ["self"] Uj Cn fun nd _ hr hu hv=>(Zf (Ga (Xn E E.n_shelf) En) (Zf (Ga (Xn E E.n_table) Zep) (Zf (Ga (Xn E E.n_steps) (Bd Yo)) (Zf (Ga (Xn E E.n_row) (Om Yo)) (Zf (Ga (Xn E E.n_order) (Bd Yo)) (Zn (Ga (Xn E E.n_many) Zs)))))))
theorem kpw:Sv P w K mg base (Oc P w) 5 "put_work" ["desk","words"] (Gp K 1 1 Qi):=Fp E.u E.b2 4 1 1 ["desk","words","key","kind"] Qi Bx fun nd _ hr hu hv=>(Zf (Z7 2 nd (Yu (k9 E) hr (Zp (Yj hu (Zc 1) Zs) (Zp (Om Yo) Yx)))) (Zf (Z7 3 nd (Yu (k9 E) hr (Zp (Yj hu (Zc 1) Zs) (Zp (Om Yo) Yx)))) (Zf (Eo 2 hu (Ek (Xn E E.n_shelf) (Wa 0)) (Zfg (Zc 3))) (Zn (Je (Fo (Y8 Yl)))))))
theorem kpf:Sv P w K mg base (Oc P w) 5 "put_field" ["desk","words"] (Gp K 1 1 Yy):=Fp E.u E.b3 4 1 1 ["desk","words","key","name"] Yy Qt fun nd _ hr hu hv=>(Zf (R5 2 nd (C8 (Ra (kck E kb) hr Qr (Jq (Y8 (Zc 0)) (Jq (Y8 (Yj hu (Zc 1) Zs)) Eh))))) (Zf (Z7 3 nd (Yu (k9 E) hr (Zp (Yj hu (Zc 1) Zs) (Zp (Om (Zz Yl Yo)) Yx)))) (Zf (Uf (PW.pt (Zgz (Zng hv (Zc 3) Yl) (Zah (N9 (Pa (Yu (k10 E) hr (Zp (Yj hu (Zc 1) Zs) Yx))))))) (Zn Oz) Y5) (Zf (Eo 3 hu (P3 1 (El 2 hu (Ek (Xn E E.n_shelf) (Wa 0)))) (Yj hu (Zc 1) Zs)) (Zn (Je (Fo (Y8 Yl))))))))
theorem ktf:Sv P w K mg base (Oc P w) 5 "take_field" ["desk","words"] (Gp K 1 1 Yz):=Fp E.u E.b4 4 1 1 ["desk","words","key","name"] Yz Q0 fun nd _ hr hu hv=>(Zf (R5 2 nd (C8 (Ra (kck E kb) hr Qr (Jq (Y8 (Zc 0)) (Jq (Y8 (Yj hu (Zc 1) Zs)) Eh))))) (Zf (Z7 3 nd (Yu (k9 E) hr (Zp (Yj hu (Zc 1) Zs) (Zp (Om Yo) Yx)))) (Zf (Zbu 3 (P3 1 (El 2 hu (Ek (Xn E E.n_shelf) (Wa 0))))) (Zn (Je (Fo (Y8 Yl)))))))
theorem kdw:Sv P w K mg base (Oc P w) 5 "drop_work" ["desk","words"] (Gp K 1 1 Y7):=Fp E.u E.b5 4 1 1 ["desk","words"] Y7 Jt fun nd _ hr hu hv=>(Zf (Zbv (Ek (Xn E E.n_shelf) (Wa 0)) (C8 (Ra (kck E kb) hr Qr (Jq (Y8 (Zc 0)) (Jq (Y8 (Yj hu (Zc 1) Zs)) Eh))))) (Zn (Je (Fo (Y8 Yl)))))
theorem kth:Sv P w K mg base (Oc P w) 5 "told_had" ["desk","words"] (Gp K 1 1 Wm):=Fp E.u E.b6 4 1 1 ["desk","words","key","name","text"] Wm U3 fun nd _ hr hu hv=>(Zf (R5 2 nd (C8 (Ra (kck E kb) hr Qr (Jq (Y8 (Zc 0)) (Jq (Y8 (Yj hu (Zc 1) Zs)) Eh))))) (Zf (Z7 3 nd (Yu (k9 E) hr (Zp (Yj hu (Zc 1) Zs) (Zp (Om Yo) Yx)))) (Zf (R5 4 nd (C8 (Y8 (Yu (k5 E) hr (Zp (L5 (Xn E E.n_shelf) (Zc 0)) (Zp (L5 (Xn E E.n_table) (Zc 0)) (Zp (Zc 2) (Zp (Zc 3) Yx)))))))) (Zn (Je (Fo (Y8 (Zna (Zag (Zc 4) Gn) Yl (Zc 4)))))))))
theorem sL:∀q∈Mf,Sv P w K mg base (Oc P w) 5 q.1 ["desk","words"] (Gp K 1 1 q.2):=fun q hq=>by
 simp only[Mf,List.mem_cons,List.not_mem_nil,or_false]at hq
 rcases hq with rfl|rfl|rfl|rfl|rfl
 ·exact kpw E kb
 ·exact kpf E kb
 ·exact ktf E kb
 ·exact kdw E kb
 ·exact kth E kb
theorem Zqr:SvO P w K mg base cD "say" 6 ["self","row"] (Gp K 1 1 Bg):=Zod E.sD 5 1 1 ["self","row","words","answer"] Bg Zb6 fun nd _ hr hu hv=>(Zf (Z7 2 nd (Yu (kw E) hr (Zp (Zc 1) Yx))) (Zf (Z7 3 nd (T8 2 (Zbz E.u E.rows (Yj hu (Zc 2) Zs)))) (Zn (Je (Zfh E.u (sL E kb) hr Qr (pv 3) (Wa 0) (Zz (Zc 2) Yo))))))
theorem Zb7:Sv P w K mg base (Oc P w) 7 "_law_told" ["_law_desk","_law_row"] (Gp K 1 1 Zx):=Fp E.u E.b7 6 1 1 ["_law_desk","_law_row","_law_found","e","_law_kind"] Zx U4 fun nd _ hr hu hv=>(Zf (Z7 2 nd Gn) (Zf (Ze5 (fun _ _ _ tq=>(Zn (Zj8 2 nd (Zki E.x_Desk ⟨E.d3,E.d4,E.d5,E.d6⟩ (Zqr E kb) hr (tq.pass rfl) (Wa 0) (Zz (Zc 1) Yo))))) (E.u E.x_NoWork) ⟨E.e13,E.e1,E.e8⟩ nd
 (fun _=>(Zf (Z7 4 nd (Zaj (Zhb E.z_isinstance (E.u E.x_CiteError) ⟨Oo E.x_NoWork ⟨⟨E.e1,E.e2,E.e3,E.e4,E.e5,E.e6,E.e7,E.e8⟩,E.q0⟩ Qz,Qz⟩ (Zc 3)) (Zaj (Zjq E.z_isinstance E.z_ValueError Ze3 ⟨Oo E.x_NoWork ⟨⟨E.e1,E.e2,E.e3,E.e4,E.e5,E.e6,E.e7,E.e8⟩,E.q1⟩ Qz,Qz⟩ (Zc 3)) (Zg0 (Zm9 (Zhb E.z_isinstance (E.u E.x_NoName) ⟨Qz,Oo E.x_NoWork ⟨⟨E.e1,E.e2,E.e3,E.e4,E.e5,E.e6,E.e7,E.e8⟩,E.q2⟩ Qz⟩ (Zc 3))))))) (Zn (Z7 2 nd (Om (Zz Yl (Zz (Zjt (Oo E.x_NoWork ⟨⟨E.e1,E.e2,E.e3,E.e4,E.e5,E.e6,E.e7,E.e8⟩,E.e10,E.e12⟩ Qz) (Zc 3)) (Zz (Zc 4) Yo)))))))) (Oo E.x_NoWork E.e14 Qz) Qz) (Zn (Je (Fo (Y8 (Zc 2)))))))
theorem Zog:Sv P w K mg base (Oc P w) 8 "_law_done" ["_law_desk","_law_kept","_law_key","_law_fields","_law_number"] (Gp K 2 3 Yv):=Fp E.u E.b8 7 2 3 ["_law_desk","_law_kept","_law_key","_law_fields","_law_number","_law_how","_law_field","_law_row","_law_text_here","_law_due"] Yv W5 fun nd _ hr hu hv=>(Zf (Z7 5 nd (Jp (Zc 4) Zs)) (Zf (Z7 6 nd (Yj hu (Wf (Zc 3) (Bd (Zz Yl Yo))) (Jp (Ol (Zc 4) Zs) Zs))) (Zf (Uf (Zi8 (Zc 5) Zs) (Zf (Eo 2 hu (Wa 1) En) (Zn (Je (Zcx hv (R9 (Zb7 E kb) hr Qr (Wa 0) (Zz (Wf (Wf (Wf Yl (Zc 2)) Yl) (Yj hu (Bd (Ei [("book",_,_),("part",_,_)] Yo)) (Zc 5))) Yo)) Yl)))) Y5) (Zf (Z7 7 nd (Wf Yl (Zc 2))) (Zf (Uf (Zi9 (Zc 5) Zs) (Zn (Z7 7 nd (Wf (Wf (Wf Yl (Zc 2)) Yl) (Zc 6)))) Y5)
 (Zf (Z7 8 nd (Yu (k1 E) hr (Zp (Zc 6) (Zp (Ol (Zc 4) Zs) Yx)))) (Zf (Uf (Zi9 (Zc 5) Zs) (Zn (Z7 7 nd (Wf (Wf (Wf (Wf (Wf Yl (Zc 2)) Yl) (Zc 6)) Yl) (Zc 8)))) Y5) (Zf (Z7 9 nd Yl) (Zf (Uf (Py (R4 hu (Zc 2) (Zc 1))) (Zn (Z7 9 nd (Om (Zz Yl (Zz (Zc 2) (Zz Lk Yo)))))) (Zn (Uf (Tx hv (Zc 5) Zs) (Zn (Zbv (Wa 1) (Y8 (Zc 2)))) (Zn (Uf (Tx hv (Zc 5) Zs) (Zn (Zbu 6 (El 2 hu (Wa 1)))) (Zn (Eo 6 hu (El 2 hu (Wa 1)) (Zc 8)))))))) (Zn (Je (Zcx hv (R9 (Zb7 E kb) hr Qr (Wa 0) (Zz (Zc 7) Yo)) (Zc 9)))))))))))))
theorem Zoh:Sv P w K mg base (Oc P w) 8 "_law_all" ["_law_desk","_law_kept","_law_keys","_law_fields","_law_start"] (Gp K 2 3 Qj):=Fp E.u E.b9 7 2 3 ["_law_desk","_law_kept","_law_keys","_law_fields","_law_start","_law_k","_law_key","_law_field","_law_due"] Qj Ul fun nd _ hr hu hv=>(Zf (Tw PassesOwn.leaving rfl (Pd E.z_range (Ef (Be E.z_len (Zc 2)) (Be E.z_len (Zc 3)))) (On 5 nd) (Zf (Z7 6 nd (Yj hu (Zc 2) (Jp (Wf (Zc 5) (Zc 4)) (Be E.z_len (Zc 2))))) (Zf (Z7 7 nd (Yj hu (Zc 3) (Jp (Ol (Wf (Zc 5) (Zc 4)) (Be E.z_len (Zc 2))) (Be E.z_len (Zc 3))))) (Zf (Z7 8 nd (Om (Zz Yl (Zz (Zc 6) (Zz Lk Yo))))) (Zf (Uf (Py (Pn hu (Zc 6) (Zc 1))) (Zn (R5 8 nd (C8 (Y8 (Ea hu (Yj hu (Zc 1) (Zc 6)) (Zz (Zc 7) (Zz Yl Yo))))))) Y5) (Zn (Zj9 hv (R9 (Zb7 E kb) hr Qr (Wa 0) (Zz (Wf (Wf (Wf Yl (Zc 6)) Yl) (Zc 7)) Yo)) (Zc 8) (Zn (Je (Fo (Y8 Lk)))) Y5))))))) (Zn (Je (Fo (Y8 Lk)))))
end
theorem Zkp{l:PySem.W.OpenLaw}{w:World}{K:PySem.W.Frag}{mg:Str->Option Value}{fa cW cC cN cD iW:Addr}(E:Env w K mg cW cC cN cD iW)(hfa:mg "law"=some (.ref fa)):Zn1 l "_law_script" 9 Sf K w mg fa:=by
 obtain⟨_,_,a⟩:=E.b10
 cases hfa.symm.trans (E.u a.1)
 refine⟨_,Ze7 a.2 fun _ _ _ _ _ _ _=>rfl,fun base kb nb=>?_⟩
 exact ok0 a 8 1 ["_law_script","_law_keys","_law_fields","_law_desks","_law_kept","_law_k","_law_cell","_law_number","_law_which","_law_one"] Sf Fy fun nd _ hr hu hv=>(Zf (Zb0 1 nd (Yu (k0 E) hr (Zp (Yu (k11 E) hr (Zp (Yu (k12 E) hr (Zp (Zc 0) (Zp Zs Yx))) (Zp Zs Yx))) (Zp Zs Yx)))) (Zf (Zb0 2 nd (Yu (k0 E) hr (Zp (Yu (k11 E) hr (Zp (Yu (k12 E) hr (Zp (Zc 0) (Zp Zs Yx))) (Zp Zs Yx))) (Zp Zs Yx)))) (Zf (Z7 3 nd (P9 (Sa E.u E.x_Desk (kiD E kb) ⟨E.d1,E.d2⟩ hr) (Sa E.u E.x_Desk (kiD E kb) ⟨E.d1,E.d2⟩ hr))) (Zf (Z7 4 nd (P9 En En))
  (Zf (Tw PassesOwn.never rfl (Zje E.z_enumerate (Zqg (Zc 0) (Zak Zs) (Zak Zs))) (Znb rfl (Pc (On 5 nd) (Pc (On 6 nd) Zjd))) (Zf (Z7 7 nd (Yu (k11 E) hr (Zp (Wf (Zc 6) (Zc 5)) (Zp Zs Yx)))) (Zf (Z7 8 nd (Ol (Jp (Ol (Zc 7) (Zgx Zs Zs)) Zs) Zs)) (Zf (P5 (Ma (Zog E kb) hr R8 (Em 8 (Wa 3)) (Em 8 (Wa 4)) (Zz (Yj hu (Zc 1) (Jp (Ol (Zc 7) (Zgx Zs Zs)) Zs)) (Zz (Zc 2) (Zz (Zc 7) Yo)))) (Zn (Wh Lk)) Y5) (Zn (Tw PassesOwn.never rfl (Pd E.z_range Zs) (On 9 nd) (Zn (P5 (Ma (Zoh E kb) hr R8 (Em 9 (Wa 3)) (Em 9 (Wa 4)) (Zz (Zc 1) (Zz (Wf (Zc 2) (Bd (Zz Yl Yo))) (Zz (Jp (Zc 7) Zs) Yo)))) (Zn (Wh Lk)) Y5))))))))
  (Zn (Zkh (Ma (Zoh E kb) hr R8 (P3 0 (Wa 3)) (P3 0 (Wa 4)) (Zz (Zc 1) (Zz (Zc 2) (Zz Zs Yo)))))))))))
end Gen
namespace My
open DL PySem
noncomputable abbrev ABC:Str:="abcdefghijklmnopqrstuvwxyz"
noncomputable def abc(c:Nat):Bool:=Nat.ble 97 c&&Nat.ble c 122
theorem Zkq:∀c<128,inS ⟨#[c]⟩ ABC=abc c:=by decide+kernel
theorem Sg:∀c,abc c=true->97<=c/\c<=122:=fun c h=>by
 unfold abc at h
 rw[Bool.and_eq_true]at h
 exact⟨Nat.le_of_ble_eq_true h.1,Nat.le_of_ble_eq_true h.2⟩
noncomputable def Asc(l:List Nat):Prop:=∀c∈l,c<128
theorem Ac(f:Nat->Bool):∀l:List Nat,bools? (l.map fun c=>D.bl (f c))=some (l.map f)
 | []=>rfl
 |x::r=>by simp[Ac f r]
noncomputable def sgf(sg:Str)(d:D):D:=match d with
 | .str x=>.bl (inS x sg)
 |d=>d
theorem Zoi(sg:Str)(f:Nat->Bool)(l:List Nat)(hin:∀c<128,inS ⟨#[c]⟩ sg=f c)(ha:Asc l)(hl:l.length<=2000000):Gen.Qs [.str (S l),.str sg]=some (.fz (.bl (l.all f))):=by
 have c:=Ft (te:=Gen.J2) (f:=sgf sg) (c:=some (.fz (.str sg))) (j:=1) (signs (S l)) [] (fun x hx zs=>by
  unfold signs at hx
  obtain⟨k,hk,rfl⟩:=List.mem_map.mp hx
  unfold Gen.J2 sgf
  simp[-inS]) (by unfold signs;rw[List.length_map,Yh,Js];simp;omega)
 rw[List.nil_append]at c
 have e:(signs (S l)).map (sgf sg)=l.map fun c=>D.bl (f c):=by
  unfold signs
  rw[List.map_map,Os]
  refine List.map_congr_left fun k hk=>?_
  show D.bl (inS ⟨#[k]⟩ sg)=_
  rw[hin k (ha k hk)]
 rw[e]at c
 have s:=Ac f l
 have sa:(l.map f).all id=l.all f:=by simp
 unfold Gen.Qs Gen.Ov
 simp[c,s]
theorem Zkr(sg:Str)(f:Nat->Bool)(l:List Nat)(m:Nat)(hin:∀c<128,inS ⟨#[c]⟩ sg=f c)(ha:Asc l)(hl:l.length<=100000):Gen.Wp [.str (S l),.str sg,.int (m:Int)]=some (.fz (.bl (decide (1<=l.length/\l.length<=m)&&l.all f))):=by
 have a:=Zoi sg f l hin ha (by omega)
 have z:(S l).length<=PySem.sizeLine:=Qm (by rw[Js];omega)
 rw[Js]at z
 generalize l.all f=b at*
 unfold Gen.Wp Gen.U1
 by_cases h1:1<=l.length
 ·by_cases h2:l.length<=m
  ·have a1:(1:Int)<=(l.length:Int):=by omega
   have a2:(l.length:Int)<=(m:Int):=by omega
   simp[Js,z,a1,a2,h1,h2,a]
  ·have a1:(1:Int)<=(l.length:Int):=by omega
   have a2:¬(l.length:Int)<=(m:Int):=by omega
   simp[Js,z,a1,a2,h1,h2,a]
 ·have a1:¬(1:Int)<=(l.length:Int):=by omega
  simp[Js,z,a1,h1,a]
noncomputable def Nam(l:List Nat):Prop:=1<=l.length/\l.length<=8/\l.all abc=true/\l≠[110,111,116,101]
noncomputable def Nm(l:List Nat):Prop:=1<=l.length/\l.length<=8/\l.all abc=true
theorem Nm.asc{l:List Nat}(h:Nm l):Asc l:=fun c hc=>by
 have:=Sg c (List.all_eq_true.mp h.2.2 c hc);omega
theorem Nm.no{l:List Nat}(h:Nm l)(c:Nat)(hc:c<97\/122<c):c∉l:=fun hm=>by
 have:=Sg c (List.all_eq_true.mp h.2.2 c hm);omega
theorem Zoj{l:List Nat}(h:Nm l):Gen.Ui [.str (S l)]=some (.fz (.bl true)):=by
 have a:=Zkr ABC abc l 8 Zkq h.asc (by have:=h.2.1;omega)
 have i8:((8:Nat):Int)=8:=rfl
 have e:(decide (1<=l.length/\l.length<=8)&&l.all abc)=true:=by rw[h.2.2,decide_eq_true ⟨h.1,h.2.1⟩];rfl
 rw[i8,e]at a
 unfold Gen.Ui Gen.Gc
 simp[a]
noncomputable abbrev Um:Str:="abcdefghjlmpqrstuvwxyz"
theorem Zb8:Um.cps.toList.length=22:=by decide+kernel
theorem Ad:Um.length<=PySem.sizeLine:=by decide+kernel
noncomputable def LC(j:Nat):Nat:=Um.cps.toList.getD j 0
theorem Zks:∀i<22,∀j<22,LC i=LC j->i=j:=by decide+kernel
theorem Zb9:∀i<22,LC i≠105/\LC i≠110/\LC i≠111:=by decide+kernel
theorem Zok(i:Int):L2.atI Um.cps.toList (i % 22)=some (LC (i % 22).toNat):=by
 have h0:0<=i % 22:=Int.emod_nonneg _ (by decide)
 have h1:i % 22<22:=Int.emod_lt_of_pos _ (by decide)
 obtain⟨j,hj⟩:=Int.eq_ofNat_of_zero_le h0
 rw[hj]
 have hjl:j<Um.cps.toList.length:=by rw[Zb8];omega
 refine Ot _ _ _ ?_
 unfold LC
 rw[List.getD_eq_getElem?_getD,show((j:Int)).toNat=j by omega,List.getElem?_eq_getElem hjl]
 rfl
noncomputable def sgn(x:Int)(at':Int)(t:Nat)(k:Nat):Nat:=LC ((x / ((k:Int)+2)+(t:Int)*(if(k:Int)=at' then 1 else 0)) % 22).toNat
noncomputable def Ae(x at':Int)(size t:Nat):List Nat:=(List.range size).map (sgn x at' t)
theorem Xo(a1 a3 a5:Option SV)(x at':Int)(t k:Nat)(hk:k<=100)(w:List Nat)(hw:w.length<=1000)(x9:Option SV):
  ∃y9,Gen.Y0 [some (.fz (.int x)),a1,some (.fz (.str Um)),a3,some (.fz (.int at')),a5,some (.fz (.int (t:Int))),some (.fz (.str (S w))),some (.fz (.int (k:Int))),x9]=some (.nx [some (.fz (.int x)),a1,some (.fz (.str Um)),a3,some (.fz (.int at')),a5,some (.fz (.int (t:Int))),some (.fz (.str (S (w++[sgn x at' t k])))),some (.fz (.int (k:Int))),y9]):=by
 have go:∀ki ti:Int,0<=ki->ki<=100->∀b:Int,(b=0\/b=1)->(if ki=at' then(1:Int)else 0)=b->∀ch,L2.atI Um.cps.toList ((x / (ki+2)+ti*b) % 22)=some ch->
   Gen.Y0 [some (.fz (.int x)),a1,some (.fz (.str Um)),a3,some (.fz (.int at')),a5,some (.fz (.int ti)),some (.fz (.str (S w))),some (.fz (.int ki)),x9]=some (.nx [some (.fz (.int x)),a1,some (.fz (.str Um)),a3,some (.fz (.int at')),a5,some (.fz (.int ti)),some (.fz (.str (S (w++[ch])))),some (.fz (.int ki)),some (.fz (.int (ti*b)))]):=by
  intro ki ti h0 h1 b hb hif ch hch
  have hm:=Za7 (i:=ti) (j:=b) (by omega)
  have d1:0<ki+2:=by omega
  have d2:ki+2<1073741824:=by omega
  have z:(S w).length+(⟨#[ch]⟩:Str).length<=PySem.sizeLine:=Qm (by rw[Js w];show w.length+1<=_;omega)
  have ea:S w++(⟨#[ch]⟩:Str)=S (w++[ch]):=Aa w [ch]
  by_cases hk:ki=at'
  ·rw[if_pos hk]at hif
   subst hif
   unfold Gen.Y0
   simp[hk]at hm hch d1 d2⊢
   simp[hm,hch,d1,d2,Ad,z,ea]
  ·rw[if_neg hk]at hif
   subst hif
   unfold Gen.Y0
   simp[hk]at hm hch⊢
   simp[hm,hch,d1,d2,Ad,z,ea]
 refine⟨_,go (k:Int) (t:Int) (by omega) (by omega) (if(k:Int)=at' then 1 else 0) (by split<;> simp) rfl (sgn x at' t k) (Zok _)⟩
theorem Xp(a1 a3 a5:Option SV)(x at':Int)(t size:Nat)(hs:size<=100)(x8 x9:Option SV):
  ∃y8 y9,Ue (Yq 8) Gen.Y0 (Zb2 0 size) [some (.fz (.int x)),a1,some (.fz (.str Um)),a3,some (.fz (.int at')),a5,some (.fz (.int (t:Int))),some (.fz (.str (S []))),x8,x9]=some (.nx [some (.fz (.int x)),a1,some (.fz (.str Um)),a3,some (.fz (.int at')),a5,some (.fz (.int (t:Int))),some (.fz (.str (S (Ae x at' size t)))),y8,y9]):=by
 obtain⟨δ',e,y8,y9,hy⟩:=O1 (tg:=Yq 8) (body:=Gen.Y0) (P:=fun i δ=>∃y8 y9,δ=[some (.fz (.int x)),a1,some (.fz (.str Um)),a3,some (.fz (.int at')),a5,some (.fz (.int (t:Int))),some (.fz (.str (S (Ae x at' i t)))),y8,y9]) size 0 [some (.fz (.int x)),a1,some (.fz (.str Um)),a3,some (.fz (.int at')),a5,some (.fz (.int (t:Int))),some (.fz (.str (S []))),x8,x9] ⟨x8,x9,rfl⟩ (fun i _ hi δ ⟨y8,y9,hy⟩=>by
  subst hy
  obtain⟨z9,e⟩:=Xo a1 a3 a5 x at' t i (by omega) (Ae x at' i t) (by unfold Ae;simp;omega) y9
  refine⟨[some (.fz (.int x)),a1,some (.fz (.str Um)),a3,some (.fz (.int at')),a5,some (.fz (.int (t:Int))),some (.fz (.str (S (Ae x at' i t)))),some (.fz (.int (i:Int))),y9],_,by simp,e,some (.fz (.int (i:Int))),z9,?_⟩
  have:Ae x at' (i+1) t=Ae x at' i t++[sgn x at' t i]:=by unfold Ae;rw[List.range_succ,List.map_append];rfl
  rw[this])
 subst hy
 rw[Nat.zero_add]at e
 exact⟨y8,y9,e⟩
noncomputable def Wt(x at':Int)(size m:Nat):List Str:=(List.range m).map fun t=>S (Ae x at' size t)
theorem Ka(a1:Option SV)(x at':Int)(size:Nat)(hs:size<=8)(m:Nat)(hm:m<=100):
  ∃δ,Ue (Yq 6) Gen.Qn (Zb2 0 m) [some (.fz (.int x)),a1,some (.fz (.str Um)),some (.fz (.int (size:Int))),some (.fz (.int at')),some (.ol []),none,none,none,none]=some (.nx δ)/\δ[5]? =some (some (.ol ((Wt x at' size m).map D.str))):=by
 obtain⟨δ',e,y6,y7,y8,y9,hy⟩:=O1 (tg:=Yq 6) (body:=Gen.Qn) (P:=fun i δ=>∃y6 y7 y8 y9,δ=[some (.fz (.int x)),a1,some (.fz (.str Um)),some (.fz (.int (size:Int))),some (.fz (.int at')),some (.ol ((Wt x at' size i).map D.str)),y6,y7,y8,y9]) m 0 [some (.fz (.int x)),a1,some (.fz (.str Um)),some (.fz (.int (size:Int))),some (.fz (.int at')),some (.ol []),none,none,none,none] ⟨none,none,none,none,rfl⟩ (fun i _ hi δ ⟨y6,y7,y8,y9,hy⟩=>by
  subst hy
  obtain⟨z8,z9,e⟩:=Xp a1 (some (.fz (.int (size:Int)))) (some (.ol ((Wt x at' size i).map D.str))) x at' i size (by omega) y8 y9
  have g1:Im (size:Int):=Cc (by omega)
  have et:((size:Int)).toNat=size:=by omega
  have z:(Wt x at' size i).length<PySem.sizeLine:=O0 (by unfold Wt;simp;omega)
  have he:Str.ofString ""=S []:=rfl
  have hr:Wt x at' size (i+1)=Wt x at' size i++[S (Ae x at' size i)]:=by unfold Wt;rw[List.range_succ,List.map_append];rfl
  refine⟨[some (.fz (.int x)),a1,some (.fz (.str Um)),some (.fz (.int (size:Int))),some (.fz (.int at')),some (.ol ((Wt x at' size i).map D.str)),some (.fz (.int (i:Int))),y7,y8,y9],[some (.fz (.int x)),a1,some (.fz (.str Um)),some (.fz (.int (size:Int))),some (.fz (.int at')),some (.ol ((Wt x at' size (i+1)).map D.str)),some (.fz (.int (i:Int))),some (.fz (.str (S (Ae x at' size i)))),z8,z9],by simp,?_,_,_,_,_,rfl⟩
  rw[hr]
  generalize Wt x at' size i=NL at*
  unfold Gen.Qn
  simp[-Ue,he,g1,et,Uh,e,z])
 subst hy
 rw[Nat.zero_add]at e
 exact⟨_,e,rfl⟩
theorem Zku:∀i<22,abc (LC i)=true:=by decide+kernel
noncomputable def NmW(w:Str):Prop:=∃l,w=S l/\Nam l/\∀c∈l,c≠105/\c≠110
theorem Kb(x:Int)(h0:0<=x)(m:Nat)(hm:m<=20):∃ws:List Str,Gen.W7 [.int x,.int (m:Int)]=some (.ol (ws.map D.str))/\ws.length=m/\ws.Nodup/\∀w∈ws,NmW w:=by
 have s0:0<=x % 8:=Int.emod_nonneg _ (by decide)
 have s1:x % 8<8:=Int.emod_lt_of_pos _ (by decide)
 obtain⟨size,hs⟩:∃n:Nat,(n:Int)=1+x % 8:=⟨(1+x % 8).toNat,by omega⟩
 have hs1:1<=size:=by omega
 have hs8:size<=8:=by omega
 have p0:(0:Int)<(size:Int):=by omega
 have a0:0<=x / 8 % (size:Int):=Int.emod_nonneg _ (by omega)
 have a1:x / 8 % (size:Int)<(size:Int):=Int.emod_lt_of_pos _ p0
 generalize hat:x / 8 % (size:Int)=at' at a0 a1
 obtain⟨δ,e,hδ⟩:=Ka (some (.fz (.int (m:Int)))) x at' size hs8 m (by omega)
 have g1:Im (m:Int):=Cc (by omega)
 have et:((m:Int)).toNat=m:=by omega
 refine⟨Wt x at' size m,?_,by unfold Wt;simp,?_,fun w hw=>?_⟩
 ·generalize Wt x at' size m=NL at hδ
  unfold Gen.W7 Gen.Ou
  have hs0:0<size:=by omega
  simp[-Ue,<-hs,p0,hs0,hat,g1,et,Uh,e,hδ]
 ·unfold Wt
  refine List.Pairwise.map _ (R:=fun a b=>a≠b/\a<m/\b<m) (fun a b h=>?_) ?_
  ·intro z
   obtain⟨hne,ha,hb⟩:=h
   have hl:=Zhe z
   obtain⟨k,hk⟩:=Int.eq_ofNat_of_zero_le a0
   have hks:k<size:=by omega
   have e1:(Ae x at' size a)[k]? =some (sgn x at' a k):=by unfold Ae;rw[List.getElem?_map,List.getElem?_range hks];rfl
   have e2:(Ae x at' size b)[k]? =some (sgn x at' b k):=by unfold Ae;rw[List.getElem?_map,List.getElem?_range hks];rfl
   rw[hl,e2]at e1
   have e3:=Option.some.inj e1
   unfold sgn at e3
   rw[if_pos hk.symm]at e3
   have q:=fun y:Int=>(Int.emod_nonneg y (show(22:Int)≠0 by decide))
   have q':=fun y:Int=>(Int.emod_lt_of_pos y (show(0:Int)<22 by decide))
   have r1:=q (x / ((k:Int)+2)+(a:Int)*1)
   have r2:=q' (x / ((k:Int)+2)+(a:Int)*1)
   have r3:=q (x / ((k:Int)+2)+(b:Int)*1)
   have r4:=q' (x / ((k:Int)+2)+(b:Int)*1)
   have e4:=Zks _ (by omega) _ (by omega) e3
   generalize x / ((k:Int)+2)=y at*
   omega
  ·have nd:(List.range m).Pairwise (fun a b=>a<b):=List.pairwise_lt_range
   refine(List.Pairwise.and_mem.mp nd).imp fun{a b} h=>?_
   exact⟨Nat.ne_of_lt h.2.2,List.mem_range.mp h.1,List.mem_range.mp h.2.1⟩
 ·unfold Wt at hw
  obtain⟨t,_,rfl⟩:=List.mem_map.mp hw
  have hl:(Ae x at' size t).length=size:=by unfold Ae;simp
  have all:∀c∈Ae x at' size t,∃i<22,c=LC i:=fun c hc=>by
   unfold Ae at hc
   obtain⟨k,_,rfl⟩:=List.mem_map.mp hc
   have r1:=Int.emod_nonneg (x / ((k:Int)+2)+(t:Int)*(if(k:Int)=at' then 1 else 0)) (show(22:Int)≠0 by decide)
   have r2:=Int.emod_lt_of_pos (x / ((k:Int)+2)+(t:Int)*(if(k:Int)=at' then 1 else 0)) (show(0:Int)<22 by decide)
   exact⟨_,by omega,rfl⟩
  have no:∀c∈Ae x at' size t,c≠105/\c≠110:=fun c hc=>by
   obtain⟨i,hi,rfl⟩:=all c hc
   exact⟨(Zb9 i hi).1,(Zb9 i hi).2.1⟩
  refine⟨_,rfl,⟨by omega,by omega,List.all_eq_true.mpr fun c hc=>?_,fun z=>?_⟩,no⟩
  ·obtain⟨i,hi,rfl⟩:=all c hc
   exact Zku i hi
  ·exact(no 110 (by rw[z];simp)).2 rfl
theorem Zca(c b:Int):Gen.Wl [.int c,.int b]=some (.fz (.int (c % 2147483647*b % 2147483647))):=by
 have h1:0<=c % 2147483647:=Int.emod_nonneg _ (by decide)
 have h2:c % 2147483647<2147483647:=Int.emod_lt_of_pos _ (by decide)
 have hm:=Zjl (i:=c % 2147483647) (j:=b) (by omega)
 unfold Gen.Wl Gen.Ow
 simp[hm]
theorem Sh(ns:List Int)(k:Nat):∃c:Int,Gen.Y1 [.lst (ns.map D.int),.int (k:Int)]=some (.fz (.int c)):=by
 by_cases h:k<ns.length
 ·have a:L2.atI (ns.map D.int) (k:Int)=some (.int ns[k]):=Ot _ _ _ (by rw[List.getElem?_map,List.getElem?_eq_getElem h];rfl)
  refine⟨ns[k],?_⟩
  have h':(k:Int)<(ns.length:Int):=by omega
  unfold Gen.Y1 Gen.Qo
  simp[h',h,a]
 ·refine⟨0,?_⟩
  have h':¬(k:Int)<(ns.length:Int):=by omega
  unfold Gen.Y1 Gen.Qo
  simp[h',h]
theorem Si(c b:Int):0<=c % 2147483647*b % 2147483647:=Int.emod_nonneg _ (by decide)
end My
namespace My
open DL PySem
noncomputable def Mg(c:Nat):List Nat->List (List Nat)
 | []=>[[]]
 |a::l=>if a=c then[]::Mg c l else match Mg c l with
  |p::r=>(a::p)::r
  | []=>[[a]]
theorem Rc(c:Nat)(l:List Nat):∀p:List Nat,c∉p->Mg c (p++c::l)=p::Mg c l
 | [],_=>by
  show Mg c (c::l)=_
  rw[Mg,if_pos rfl]
 |a::p,h=>by
  have e:=Rc c l p fun z=>h (List.mem_cons_of_mem _ z)
  have n:¬a=c:=fun z=>h (by rw[z];exact List.mem_cons_self)
  show Mg c (a::(p++c::l))=_
  rw[Mg,if_neg n,e]
theorem Mh(c:Nat):∀l:List Nat,Mg c l≠[]/\(∀p∈Mg c l,c∉p)/\jl [c] (Mg c l)=l
 | []=>⟨by simp[Mg],by simp[Mg],rfl⟩
 |a::l=>by
  obtain⟨h0,h1,h2⟩:=Mh c l
  unfold Mg
  by_cases e:a=c
  ·rw[if_pos e]
   refine⟨by simp,fun p hp=>?_,?_⟩
   ·rcases List.mem_cons.mp hp with z|z
    ·rw[z];exact fun h=>nomatch h
    ·exact h1 p z
   ·cases hs:Mg c l with
    |nil=>exact absurd hs h0
    |cons q r=>
     show[]++[c]++jl [c] (q::r)=a::l
     rw[<-hs,h2,e];rfl
  ·rw[if_neg e]
   cases hs:Mg c l with
   |nil=>exact absurd hs h0
   |cons q r=>
    rw[hs]at h1 h2
    refine⟨by simp,fun p hp=>?_,?_⟩
    ·rcases List.mem_cons.mp hp with z|z
     ·rw[z]
      intro h
      rcases List.mem_cons.mp h with y|y
      ·exact e y.symm
      ·exact h1 q List.mem_cons_self y
     ·exact h1 p (List.mem_cons_of_mem _ z)
    ·cases r with
     |nil=>show a::q=a::l;rw[show q=l from h2]
     |cons q' r=>
      have h2:q++[c]++jl [c] (q'::r)=l:=h2
      show(a::q)++[c]++jl [c] (q'::r)=a::l
      rw[<-h2];rfl
open PySem.StrLaws in
theorem Zkv{a b c d:List Nat}(ha:32∉a)(hb:32∉b)(hc:32∉c):Txt.splitMax (S (a++32::(b++32::(c++32::d)))) (S [32]) 3=[S a,S b,S c,S d]:=by
 generalize ht:a++32::(b++32::(c++32::d))=t
 have es:Mg 32 t=a::b::c::Mg 32 d:=by rw[<-ht,Rc 32 _ a ha,Rc 32 _ b hb,Rc 32 _ c hc]
 obtain⟨h0,h1,h2⟩:=Mh 32 t
 obtain⟨d0,d1,d2⟩:=Mh 32 d
 have hk:Builtin.Str.strKind (S [32])=1:=by decide+kernel
 have l1:(S [32]).length=1:=Js _
 have c1:(S [32]).cps.toList=[32]:=Os _
 have fits:Et (S [32]).cps.toList (Mg 32 t):=by rw[c1];exact Bw _ h0 h1
 have ex:(S t).cps.toList=jl (S [32]).cps.toList (Mg 32 t):=by rw[c1,h2,Os]
 have oc:=Md (S t) (S [32]) (by rw[l1];exact Nat.le_refl _) (Mg 32 t) fits ex 3
 have hp:(pos 1 0 (Mg 32 t)).take 3=pos 1 0 [a,b,c,d]:=by
  rw[es]
  cases hs:Mg 32 d with
  |nil=>exact absurd hs d0
  |cons p r=>cases r<;> rfl
 rw[l1]at oc
 have lim:PySem.limitOf (S t) 3=3:=rfl
 have e3:(S t).cps.toList=jl [32] [a,b,c,d]:=by
  rw[Os,<-ht]
  show _=a++[32]++(b++[32]++(c++[32]++d))
  simp
 have oc:Builtin.Str.occurrences (S t) (S [32]) 0 (S t).length 3=pos 1 0 [a,b,c,d]:=by rw[<-hp];exact oc
 unfold Txt.splitMax
 rw[lim,oc]
 have hlen:1<=t.length:=by rw[<-ht];simp;omega
 have kp:=Fu (S t)
 rw[if_neg (fun hs=>by
  rw[hk,Js,l1]at hs
  rcases Bool.or_eq_true_iff.mp hs with z|z
  ·have:=of_decide_eq_true z;omega
  ·have:=of_decide_eq_true z;omega),if_neg (by simp[pos]),partsBetween_eq]
 have z:=Mc (y:=[32]) (S t) [a,b,c,d] 0 (by simp) (by rw[List.drop_zero];exact e3) (Nat.zero_le _)
 rw[l1]
 exact z
theorem Kc(ps:List (List Nat))(h0:ps≠[])(h:∀p∈ps,32∉p):Txt.split (S (jl [32] ps)) (S [32])=ps.map S:=
 Na _ _ (by rw[Js];exact Nat.le_refl _) (by decide+kernel) ps (by rw[Os];exact Bw ps h0 h) (by rw[Os,Os])
theorem Sj{a b:List Nat}(ha:32∉a):Txt.partition (S (a++32::b)) (S [32])=(S a,S [32],S b):=by
 have:=L8 32 (S a) (S b) (by rw[Os];exact ha)
 rw[Aa,Aa]at this
 rw[show a++32::b=a++[32]++b by simp]
 exact this
end My
namespace My
open DL PySem
theorem M4(a:D)(r:List D):L2.atI (a::r) 0=some a:=Ot (a::r) 0 a rfl
theorem Ev(a b:D)(r:List D):L2.atI (a::b::r) 1=some b:=Ot (a::b::r) 1 b rfl
theorem at2(a b c:D)(r:List D):L2.atI (a::b::c::r) 2=some c:=Ot (a::b::c::r) 2 c rfl
theorem at3(a b c d:D)(r:List D):L2.atI (a::b::c::d::r) 3=some d:=Ot (a::b::c::d::r) 3 d rfl
theorem Kd:Str.ofString " "=S [32]:=by decide+kernel
theorem Sk:¬(S [32]).length=0:=by decide+kernel
theorem Sl{w p:List Nat}{ps:List (List Nat)}{n:Nat}{f:Str}(hr:Ww Gen.Oa (S w)=some (.row (n:Int) "word" f))(hn:(w::p::ps).length=n)(h:∀q∈w::p::ps,32∉q)(hl:(jl [32] (w::p::ps)).length<=1000)(hn3:n<=100):
  Gen.Y2 [.str (S (jl [32] (w::p::ps)))]=some (.ol ((w::p::ps).map fun q=>D.str (S q))):=by
 have e1:Txt.partition (S (jl [32] (w::p::ps))) (S [32])=(S w,S [32],S (jl [32] (p::ps))):=by
  have:=Sj (b:=jl [32] (p::ps)) (h w List.mem_cons_self)
  rw[show jl [32] (w::p::ps)=w++32::jl [32] (p::ps) by show w++[32]++_=_;simp]
  exact this
 have e2:=Kc (w::p::ps) (by simp) h
 have z1:(S (jl [32] (w::p::ps))).length<=PySem.sizeLine:=Qm (by rw[Js];omega)
 have z2:((w::p::ps).map S).length<=PySem.sizeLine:=Qm (by rw[List.length_map,hn];omega)
 have z3:((w::p::ps).map S).length=n:=by rw[List.length_map];exact hn
 generalize hR:(w::p::ps).map S=R at e2 z2 z3
 have hm:((w::p::ps).map fun q=>D.str (S q))=R.map D.str:=by rw[<-hR,List.map_map];rfl
 rw[hm]
 generalize S (jl [32] (w::p::ps))=row at*
 generalize S w=first at*
 have t1:¬(Str.ofString "word"=Str.ofString "text"):=by decide+kernel
 have i1:¬((n:Int)<(n:Int)):=by omega
 have zn:n<=PySem.sizeLine:=Qm (by omega)
 unfold Gen.Y2 Gen.U2
 simp[-Ww,Kd,Sk,M4,e1,e2,hr,z1,z2,z3,zn,t1,i1]
noncomputable abbrev Kl:List Nat:=[102,105,101,108,100]
theorem Gd:Ww Gen.Oa (S Kl)=some (.row 4 "text" "put_field"):=by kernel_rfl
theorem Sm{k f t:List Nat}(hk:32∉k)(hf:32∉f)(hl:k.length+f.length+t.length<=500):
  Gen.Y2 [.str (S (Kl++32::(k++32::(f++32::t))))]=some (.ol [.str (S Kl),.str (S k),.str (S f),.str (S t)]):=by
 have e1:Txt.partition (S (Kl++32::(k++32::(f++32::t)))) (S [32])=(S Kl,S [32],S (k++32::(f++32::t))):=Sj (by decide)
 have e2:=Zkv (a:=Kl) (d:=t) (by decide) hk hf
 have z1:(S (Kl++32::(k++32::(f++32::t)))).length<=PySem.sizeLine:=Qm (by rw[Js];simp;omega)
 have hr:=Gd
 generalize S (Kl++32::(k++32::(f++32::t)))=row at*
 generalize S Kl=first at*
 have z2:(4:Nat)<=PySem.sizeLine:=by decide
 have t1:¬(Str.ofString "text"=Str.ofString "word"):=by decide+kernel
 unfold Gen.Y2 Gen.U2
 simp[-Ww,Kd,Sk,M4,e1,e2,hr,z1,z2,t1]
end My
namespace My
open DL PySem
section
variable{α:Type}
noncomputable def Z8(k:Str):List (Str×α)->Option α
  | []=>none
  | (k0,v)::r=>if k0=k then some v else Z8 k r
noncomputable def Z1(k:Str)(v:α):List (Str×α)->List (Str×α)
  | []=>[(k,v)]
  | (k0,v0)::r=>if k0=k then(k0,v)::r else(k0,v0)::Z1 k v r
noncomputable def Yw(k:Str):List (Str×α)->List (Str×α)
  | []=>[]
  | (k0,v0)::r=>if k0=k then r else(k0,v0)::Yw k r
noncomputable abbrev Ye(l:List (Str×α)):List L2.Key:=l.map fun q=>Sum.inr q.1
noncomputable abbrev Wb(T:α->Tr)(l:List (Str×α)):List Tr:=l.map fun q=>T q.2
theorem O3{a b:Str}:((Sum.inr a:L2.Key)=Sum.inr b)↔a=b:=⟨fun h=>Sum.inr.inj h,fun h=>by rw[h]⟩
theorem Mi(T:α->Tr)(k:Str):∀l:List (Str×α),Qx (Ye l) (Wb T l) (Sum.inr k)=(Z8 k l).map T
  | []=>rfl
  | (k0,v)::r=>by
    show(if(Sum.inr k0:L2.Key)=Sum.inr k then some (T v)else Qx (Ye r) (Wb T r) (Sum.inr k))=(if k0=k then some v else Z8 k r).map T
    by_cases e:k0=k
    · rw[if_pos (by rw[e]),if_pos e];rfl
    · rw[if_neg (fun z=>e (O3.mp z)),if_neg e,Mi T k r]
theorem Ke(k:Str):∀l:List (Str×α),((Sum.inr k:L2.Key)∈Ye l)↔(Z8 k l).isSome=true
  | []=>by simp[Z8,Ye]
  | (k0,v)::r=>by
    show(Sum.inr k:L2.Key)∈Sum.inr k0::Ye r↔(if k0=k then some v else Z8 k r).isSome=true
    by_cases e:k0=k
    · simp[e]
    · rw[if_neg e,List.mem_cons,Ke k r]
      exact⟨fun h=>h.resolve_left fun z=>e (O3.mp z).symm,.inr⟩
theorem Sn(T:α->Tr)(k:Str)(v:α):∀l:List (Str×α),(Z8 k l).isSome=true->Ci (Ye l) (Wb T l) (Sum.inr k) (T v)=Wb T (Z1 k v l)/\Ye (Z1 k v l)=Ye l
  | [],h=>by cases h
  | (k0,v0)::r,h=>by
    have h:(if k0=k then some v0 else Z8 k r).isSome=true:=h
    show(if(Sum.inr k0:L2.Key)=Sum.inr k then T v::Wb T r else T v0::Ci (Ye r) (Wb T r) (Sum.inr k) (T v))=Wb T (if k0=k then(k0,v)::r else(k0,v0)::Z1 k v r)/\Ye (if k0=k then(k0,v)::r else(k0,v0)::Z1 k v r)=Sum.inr k0::Ye r
    by_cases e:k0=k
    · rw[if_pos (by rw[e]),if_pos e];exact⟨rfl,rfl⟩
    · rw[if_neg e]at h
      rw[if_neg (fun z=>e (O3.mp z)),if_neg e]
      obtain⟨a,b⟩:=Sn T k v r h
      rw[a]
      exact⟨rfl,by rw[<-b];rfl⟩
theorem Sq(k:Str)(v:α):∀l:List (Str×α),Z8 k l=none->Z1 k v l=l++[(k,v)]
  | [],_=>rfl
  | (k0,v0)::r,h=>by
    have h:(if k0=k then some v0 else Z8 k r)=none:=h
    by_cases e:k0=k
    · rw[if_pos e]at h;cases h
    · rw[if_neg e]at h
      show(if k0=k then(k0,v)::r else(k0,v0)::Z1 k v r)=_
      rw[if_neg e,Sq k v r h];rfl
theorem Ew(T:α->Tr)(k:Str)(v:α)(l:List (Str×α)):Ux (Ye l) (Wb T l) (Sum.inr k) (T v)=(Ye (Z1 k v l),Wb T (Z1 k v l)):=by
 unfold Ux
 by_cases h:(Sum.inr k:L2.Key)∈Ye l
 ·rw[if_pos h]
  obtain⟨a,b⟩:=Sn T k v l ((Ke k l).mp h)
  rw[a,b]
 ·rw[if_neg h]
  have hn:Z8 k l=none:=by
   cases e:Z8 k l with
   |none=>rfl
   |some x=>exact absurd ((Ke k l).mpr (by rw[e];rfl)) h
  rw[Sq k v l hn]
  simp[Ye,Wb]
theorem Zhg(T:α->Tr)(k:Str):∀l:List (Str×α),Fe (Ye l) (Wb T l) (Sum.inr k)=Wb T (Yw k l)/\Bf (Ye l) (Sum.inr k)=Ye (Yw k l)
  | []=>⟨rfl,rfl⟩
  | (k0,v0)::r=>by
    show(if(Sum.inr k0:L2.Key)=Sum.inr k then Wb T r else T v0::Fe (Ye r) (Wb T r) (Sum.inr k))=Wb T (if k0=k then r else(k0,v0)::Yw k r)/\(if(Sum.inr k0:L2.Key)=Sum.inr k then Ye r else Sum.inr k0::Bf (Ye r) (Sum.inr k))=Ye (if k0=k then r else(k0,v0)::Yw k r)
    by_cases e:k0=k
    · rw[if_pos (by rw[e]),if_pos e,if_pos (by rw[e])];exact⟨rfl,rfl⟩
    · rw[if_neg (fun z=>e (O3.mp z)),if_neg e,if_neg (fun z=>e (O3.mp z))]
      obtain⟨a,b⟩:=Zhg T k r
      rw[a,b];exact⟨rfl,rfl⟩
theorem Re(T:α->Tr)(k:Str)(l:List (Str×α)):Wj (Ye l) (Wb T l) (Sum.inr k)=if(Z8 k l).isSome=true then some (Ye (Yw k l),Wb T (Yw k l))else none:=by
 unfold Wj
 obtain⟨a,b⟩:=Zhg T k l
 rw[a,b]
 by_cases h:(Sum.inr k:L2.Key)∈Ye l
 ·rw[if_pos h,if_pos ((Ke k l).mp h)]
 ·rw[if_neg h,if_neg fun z=>h ((Ke k l).mpr z)]
theorem Mj(k:Str):∀l:List (Str×α),Z8 k l=none->Yw k l=l
  | [],_=>rfl
  | (k0,v0)::r,h=>by
    have h:(if k0=k then some v0 else Z8 k r)=none:=h
    by_cases e:k0=k
    · rw[if_pos e]at h;cases h
    · rw[if_neg e]at h
      show(if k0=k then r else(k0,v0)::Yw k r)=_
      rw[if_neg e,Mj k r h]
theorem Ml(k:Str)(v:α):∀l:List (Str×α),(Z1 k v l).length<=l.length+1
  | []=>by show 1<=1;omega
  | (k0,v0)::r=>by
    show(if k0=k then(k0,v)::r else(k0,v0)::Z1 k v r).length<=_
    have:=Ml k v r
    split<;> simp<;> omega
theorem Mm(k:Str):∀l:List (Str×α),(Yw k l).length<=l.length
  | []=>Nat.le_refl _
  | (k0,v0)::r=>by
    show(if k0=k then r else(k0,v0)::Yw k r).length<=_
    have:=Mm k r
    split<;> simp<;> omega
theorem Sr{P:α->Prop}(k:Str){v:α}(hv:P v):∀l:List (Str×α),(∀q∈l,P q.2)->∀q∈Z1 k v l,P q.2
  | [],_,q,hq=>by obtain rfl:=List.mem_singleton.mp hq;exact hv
  | (k0,v0)::r,h,q,hq=>by
    have hq:q∈(if k0=k then(k0,v)::r else(k0,v0)::Z1 k v r):=hq
    by_cases e:k0=k
    · rw[if_pos e]at hq
      rcases List.mem_cons.mp hq with z|z
      · rw[z];exact hv
      · exact h q (List.mem_cons_of_mem _ z)
    · rw[if_neg e]at hq
      rcases List.mem_cons.mp hq with z|z
      · rw[z];exact h _ List.mem_cons_self
      · exact Sr k hv r (fun q hq=>h q (List.mem_cons_of_mem _ hq)) q z
theorem Ss{P:α->Prop}(k:Str):∀l:List (Str×α),(∀q∈l,P q.2)->∀q∈Yw k l,P q.2
  | [],_,q,hq=>nomatch hq
  | (k0,v0)::r,h,q,hq=>by
    have hq:q∈(if k0=k then r else(k0,v0)::Yw k r):=hq
    by_cases e:k0=k
    · rw[if_pos e]at hq
      exact h q (List.mem_cons_of_mem _ hq)
    · rw[if_neg e]at hq
      rcases List.mem_cons.mp hq with z|z
      · rw[z];exact h _ List.mem_cons_self
      · exact Ss k r (fun q hq=>h q (List.mem_cons_of_mem _ hq)) q z
theorem Su{P:α->Prop}{k:Str}{v:α}:∀l:List (Str×α),(∀q∈l,P q.2)->Z8 k l=some v->P v
  | [],_,h=>nomatch h
  | (k0,v0)::r,hl,h=>by
    have h:(if k0=k then some v0 else Z8 k r)=some v:=h
    by_cases e:k0=k
    · rw[if_pos e]at h;cases h;exact hl _ List.mem_cons_self
    · rw[if_neg e]at h;exact Su r (fun q hq=>hl q (List.mem_cons_of_mem _ hq)) h
theorem Mn(f:α->D)(k:Str):∀l:List (Str×α),look (Ye l) (l.map fun q=>f q.2) (Sum.inr k)=(Z8 k l).map f
  | []=>rfl
  | (k0,v)::r=>by
    show(if(Sum.inr k0:L2.Key)=Sum.inr k then some (f v)else look (Ye r) (r.map fun q=>f q.2) (Sum.inr k))=(if k0=k then some v else Z8 k r).map f
    by_cases e:k0=k
    · rw[if_pos (by rw[e]),if_pos e];rfl
    · rw[if_neg (fun z=>e (O3.mp z)),if_neg e,Mn f k r]
theorem Cp(T:α->Tr):∀l:List (Str×α),Tr.toDs (Wb T l)=l.map fun q=>(T q.2).toD
 | []=>rfl
 |q::r=>by show(T q.2).toD::Tr.toDs (Wb T r)=_;rw[Cp T r];rfl
end
noncomputable abbrev PS:=List (Str×Str)
noncomputable abbrev ST:=List (Str×(Str×PS))
noncomputable def Qu(t:Str):Tr:=.lf (.str t)
noncomputable def Wq(ps:PS):Tr:=.dc (Ye ps) (Wb Qu ps)
noncomputable def Qk(q:Str×PS):Tr:=.tp [.lf (.str q.1),Wq q.2]
noncomputable def Nb(st:ST):Tr:=.dc (Ye st) (Wb Qk st)
noncomputable def Yd(st:ST):Tr:=.dc (Ye st) (Wb (fun q:Str×PS=>Wq q.2) st)
noncomputable abbrev FS6:List Str:=["shelf","table","steps","row","order","many"]
noncomputable def Zk(st:ST):Tr:=.ob "Desk" FS6 [Nb st,.lf (.dK [] []),.lf (.lst []),.lf (.tup []),.lf (.lst []),.lf (.int 2)]
noncomputable abbrev pSh:List Stp:=[.f "Desk" "shelf"]
noncomputable abbrev pFl(k:Str):List Stp:=[.f "Desk" "shelf",.k (Sum.inr k),.i 1]
theorem Zol(st:ST):(Zk st).at' pSh=some (Nb st):=rfl
theorem Zom(st st':ST):(Zk st).up pSh (Nb st')=Zk st':=rfl
theorem Af{st:ST}{k kd:Str}{ps:PS}(h:Z8 k st=some (kd,ps)):(Zk st).at' (pFl k)=some (Wq ps):=by
 have f:Qx (Ye st) (Wb Qk st) (Sum.inr k)=some (Qk (kd,ps)):=by rw[Mi,h];rfl
 show((Nb st).sub (.k (Sum.inr k))).bind _=_
 show(Qx (Ye st) (Wb Qk st) (Sum.inr k)).bind _=_
 rw[f];rfl
theorem O4{st:ST}{k kd:Str}{ps:PS}(ps':PS)(h:Z8 k st=some (kd,ps)):(Zk st).up (pFl k) (Wq ps')=Zk (Z1 k (kd,ps') st):=by
 have f:Qx (Ye st) (Wb Qk st) (Sum.inr k)=some (Qk (kd,ps)):=by rw[Mi,h];rfl
 obtain⟨s1,s2⟩:=Sn Qk k (kd,ps') st (by rw[h];rfl)
 show Tr.ob "Desk" FS6 [match Qx (Ye st) (Wb Qk st) (Sum.inr k)with|some c=>Tr.dc (Ye st) (Ci (Ye st) (Wb Qk st) (Sum.inr k) (c.up [.i 1] (Wq ps')))|none=>_,_,_,_,_,_]=_
 rw[f]
 show Tr.ob "Desk" FS6 [Tr.dc (Ye st) (Ci (Ye st) (Wb Qk st) (Sum.inr k) (Qk (kd,ps'))),_,_,_,_,_]=_
 rw[s1,<-s2]
 rfl
theorem Sw{st:ST}{k kd:Str}{ps:PS}(h:Z8 k st=some (kd,ps)):(Yd st).at' [.k (Sum.inr k)]=some (Wq ps):=by
 have f:Qx (Ye st) (Wb (fun q:Str×PS=>Wq q.2) st) (Sum.inr k)=some (Wq ps):=by rw[Mi,h];rfl
 show(Qx (Ye st) (Wb (fun q:Str×PS=>Wq q.2) st) (Sum.inr k)).bind _=_
 rw[f];rfl
theorem Sx{st:ST}{k kd:Str}{ps:PS}(ps':PS)(h:Z8 k st=some (kd,ps)):(Yd st).up [.k (Sum.inr k)] (Wq ps')=Yd (Z1 k (kd,ps') st):=by
 have f:Qx (Ye st) (Wb (fun q:Str×PS=>Wq q.2) st) (Sum.inr k)=some (Wq ps):=by rw[Mi,h];rfl
 obtain⟨s1,s2⟩:=Sn (fun q:Str×PS=>Wq q.2) k (kd,ps') st (by rw[h];rfl)
 show(match Qx (Ye st) (Wb (fun q:Str×PS=>Wq q.2) st) (Sum.inr k)with|some c=>Tr.dc (Ye st) (Ci (Ye st) (Wb (fun q:Str×PS=>Wq q.2) st) (Sum.inr k) (Wq ps'))|none=>_)=_
 rw[f]
 show Tr.dc (Ye st) (Ci (Ye st) (Wb (fun q:Str×PS=>Wq q.2) st) (Sum.inr k) (Wq ps'))=_
 rw[s1,<-s2]
 rfl
noncomputable def Qg(ps:PS):D:=.dK (Ye ps) (ps.map fun q=>.str q.2)
noncomputable def G3(q:Str×PS):D:=.tup [.str q.1,Qg q.2]
noncomputable def Ge(st:ST):D:=.dK (Ye st) (st.map fun q=>G3 q.2)
noncomputable def Zfr(st:ST):D:=.dK (Ye st) (st.map fun q=>Qg q.2.2)
noncomputable def Zfs(st:ST):D:=.ob "Desk" FS6 [Ge st,.dK [] [],.lst [],.tup [],.lst [],.int 2]
theorem Sy(ps:PS):(Wq ps).toD=Qg ps:=by
 show D.dK (Ye ps) (Tr.toDs (Wb Qu ps))=_
 rw[Cp];rfl
theorem Zft(q:Str×PS):(Qk q).toD=G3 q:=by
 show D.tup [.str q.1,(Wq q.2).toD]=_
 rw[Sy];rfl
theorem Zfu(st:ST):(Nb st).toD=Ge st:=by
 show D.dK (Ye st) (Tr.toDs (Wb Qk st))=_
 rw[Cp]
 unfold Ge
 simp only[Zft]
theorem Sz(st:ST):(Yd st).toD=Zfr st:=by
 show D.dK (Ye st) (Tr.toDs (Wb (fun q:Str×PS=>Wq q.2) st))=_
 rw[Cp]
 unfold Zfr
 simp only[Sy]
theorem Ju(st:ST):(Zk st).toD=Zfs st:=by
 show D.ob "Desk" FS6 [(Nb st).toD,_,_,_,_,_]=_
 rw[Zfu];rfl
end My
namespace My
open DL PySem
theorem Rf{l:List Nat}(h:Nm l):Gen.Z3 [.str (S l),.tup []]=some (.fz (.str (S l))):=by
 have a:=Zoj h
 have z:Lw (.str (S l)) []=false:=rfl
 unfold Gen.Z3 Gen.Qd
 simp[a,z]
theorem Zfv{l:List Nat}(h:Nm l)(hk:¬S l=Str.ofString "kind"):Gen.Z3 [.str (S l),.tup [.str "kind"]]=some (.fz (.str (S l))):=by
 have a:=Zoj h
 have hk2:¬Str.ofString "kind"=S l:=fun z=>hk z.symm
 have z:Lw (.str (S l)) [.str (Str.ofString "kind")]=false:=by simp[Lw,hk2]
 unfold Gen.Z3 Gen.Qd
 simp[a,z]
theorem Nc(kd f:Str):Gen.Wx [.dK [] [],.str kd,.str f]=some (.fz .non):=by
 unfold Gen.Wx Gen.Jz
 simp
theorem Kf{st:ST}{k kd:Str}{ps:PS}(h:Z8 k st=some (kd,ps)):look (Ye st) (st.map fun q=>G3 q.2) (Sum.inr k)=some (G3 (kd,ps)):=by rw[Mn,h];rfl
theorem Cq(ps:PS)(f:Str):look (Ye ps) (ps.map fun q=>D.str q.2) (Sum.inr f)=(Z8 f ps).map D.str:=Mn D.str f ps
theorem behind{st:ST}{k kd:Str}{ps:PS}(f:Str)(h:Z8 k st=some (kd,ps)):Gen.Wy [Ge st,.dK [] [],.tup [.str k,.str f]]=some (.fz .non):=by
 have e1:=Kf h
 have e2:=Nc kd f
 have e3:=Cq ps f
 have e4:=Cq ps "in"
 unfold Gen.Wy Gen.J1 Ge
 generalize st.map (fun q=>G3 q.2)=WS at e1
 generalize Ye st=KS at e1
 unfold G3 Qg at e1
 generalize ps.map (fun q=>D.str q.2)=VS at*
 generalize Ye ps=FK at*
 cases hf:Z8 f ps with
 |some t=>
  rw[hf]at e3
  simp[-look,M4,Ev,e1,e3]
 |none=>
  rw[hf]at e3
  cases hi:Z8 (Str.ofString "in") ps with
  |none=>
   rw[hi]at e4
   simp[-look,M4,Ev,e1,e2,e3,e4]
  |some t=>
   rw[hi]at e4
   simp[-look,M4,Ev,e1,e2,e3,e4]
end My
namespace My
open DL PySem
noncomputable abbrev prD(k f:Str):D:=.tup [.str k,.str f]
theorem Zfw{st:ST}{k kd:Str}{ps:PS}(f:Str)(h:Z8 k st=some (kd,ps)):Gen.Fw [Ge st,.dK [] [],.str k,.str f]=some (.ol [prD k f]):=by
 have pb:=behind f h
 have z0:0<PySem.sizeLine:=by decide
 have z2:2<=PySem.sizeLine:=by decide
 generalize hS:Ge st=SD at pb
 have hSD:SD.scal=SD.scal:=rfl
 have b1:Gen.Cm [some (.fz SD),some (.fz (.dK [] [])),some (.fz (.str k)),some (.fz (.str f)),some (.ol []),some (.oT [] []),some (.fz (prD k f))]=some (.nx [some (.fz SD),some (.fz (.dK [] [])),some (.fz (.str k)),some (.fz (.str f)),some (.ol [prD k f]),some (.oT [[Sum.inr k,Sum.inr f]] [.int 0]),some (.fz .non)]):=by
  unfold Gen.Cm
  simp[z0,pb]
 have t1:Gen.U0 [some (.fz SD),some (.fz (.dK [] [])),some (.fz (.str k)),some (.fz (.str f)),some (.ol []),some (.oT [] []),some (.fz (prD k f))]=some (true,[some (.fz SD),some (.fz (.dK [] [])),some (.fz (.str k)),some (.fz (.str f)),some (.ol []),some (.oT [] []),some (.fz (prD k f))]):=by
  unfold Gen.U0
  simp
 have t2:Gen.U0 [some (.fz SD),some (.fz (.dK [] [])),some (.fz (.str k)),some (.fz (.str f)),some (.ol [prD k f]),some (.oT [[Sum.inr k,Sum.inr f]] [.int 0]),some (.fz .non)]=some (false,[some (.fz SD),some (.fz (.dK [] [])),some (.fz (.str k)),some (.fz (.str f)),some (.ol [prD k f]),some (.oT [[Sum.inr k,Sum.inr f]] [.int 0]),some (.fz .non)]):=by
  unfold Gen.U0
  simp
 have w:Qh Gen.U0 Gen.Cm Gen.Zkn [some (.fz SD),some (.fz (.dK [] [])),some (.fz (.str k)),some (.fz (.str f)),some (.ol []),some (.oT [] []),some (.fz (prD k f))]=some (.nx [some (.fz SD),some (.fz (.dK [] [])),some (.fz (.str k)),some (.fz (.str f)),some (.ol [prD k f]),some (.oT [[Sum.inr k,Sum.inr f]] [.int 0]),some (.fz .non)]):=by
  show Qh Gen.U0 Gen.Cm (998+1+1) _=_
  rw[Xk t1 b1,L7 t2]
 unfold Gen.Fw Gen.Zb4
 simp[-Qh,w,z2]
theorem U5(a:D)(ds:List D):look FS6 (a::ds) (Str.ofString "shelf")=some a:=by
 show(if Str.ofString "shelf"=Str.ofString "shelf"then some a else _)=_
 rw[if_pos rfl]
theorem Mo(a b:D)(ds:List D):look FS6 (a::b::ds) (Str.ofString "table")=some b:=by
 show(if Str.ofString "shelf"=Str.ofString "table"then some a else if Str.ofString "table"=Str.ofString "table"then some b else _)=_
 rw[if_neg (by decide+kernel),if_pos rfl]
theorem Zky{st:ST}{k kd:Str}{ps:PS}(f:Str)(h:Z8 k st=some (kd,ps)):Gen.Fx [Ge st,.dK [] [],.str k,.str f]=some (.fz (match Z8 f ps with|some t=>.str t|none=>.non)):=by
 have w:=Zfw f h
 have e1:=Kf h
 have e3:=Cq ps f
 have m1:L2.atI [prD k f] (-1)=some (prD k f):=rfl
 unfold Gen.Fx Gen.Zb5
 generalize hS:Ge st=SD at w
 unfold Ge at hS
 generalize st.map (fun q=>G3 q.2)=WS at e1 hS
 generalize Ye st=KS at e1 hS
 unfold G3 Qg at e1
 generalize ps.map (fun q=>D.str q.2)=VS at*
 generalize Ye ps=FK at*
 subst hS
 cases hf:Z8 f ps with
 |some t=>rw[hf]at e3;simp[-look,M4,Ev,m1,w,e1,e3]
 |none=>rw[hf]at e3;simp[-look,M4,Ev,m1,w,e1,e3]
theorem Zkz(st:ST)(k:Str):look (Ye st) (st.map fun q=>G3 q.2) (Sum.inr k)=(Z8 k st).map G3:=Mn G3 k st
theorem Kg(st:ST)(k:Str):Gen.Wz [Zfs st,.str k]=some (if(Z8 k st).isSome=true then .v (.fz (.str k))else .x ⟨"NoWork",["key"],[.str k]⟩):=by
 have e:=Zkz st k
 unfold Gen.Wz Gen.J3 Zfs Ge
 generalize st.map (fun q=>G3 q.2)=WS at e
 generalize Ye st=KS at e
 cases h:Z8 k st with
 |some q=>rw[h]at e;simp[-look,U5,e]
 |none=>rw[h]at e;simp[-look,U5,e]
end My
namespace My
open DL PySem
theorem Rg{α:Type}(l:List (Str×α)):(Ye l).length=l.length:=List.length_map ..
theorem Zqu{k kd:List Nat}{st:ST}(a:Addr)(w0:D)(hk:Nm k)(hkd:Nm kd)(hl:st.length<1000):Gen.Qi [a] [Zk st] [.lst [w0,.str (S k),.str (S kd)]]=some (.v (.str "ok") [Zk (Z1 (S k) (S kd,[]) st)]):=by
 have n1:=Rf hk
 have n2:=Rf hkd
 have a1:(Zk st).at' pSh=some (.dc (Ye st) (Wb Qk st)):=rfl
 have z:(Ye st).length<PySem.sizeLine:=O0 (by rw[Rg];omega)
 have p1:Ux (Ye st) (Wb Qk st) (Sum.inr (S k)) (.tp [.lf (.str (S kd)),.dc [] []])=(Ye (Z1 (S k) (S kd,[]) st),Wb Qk (Z1 (S k) (S kd,[]) st)):=Ew Qk (S k) (S kd,[]) st
 generalize hst:Z1 (S k) (S kd,[]) st=st' at p1
 have u1:(Zk st).up pSh (.dc (Ye st') (Wb Qk st'))=Zk st':=rfl
 generalize Zk st=T at*
 generalize Zk st'=T' at*
 generalize Ye st=KS at*
 generalize Wb Qk st=TS at*
 generalize Ye st'=KS' at*
 generalize Wb Qk st'=TS' at*
 unfold Gen.Qi Gen.Bx
 simp[-Tr.at',-Tr.up,-Ux,M4,Ev,at2,n1,n2,a1,z,p1,u1]
theorem U6{α:Type}{k:Str}{v:α}:∀{l:List (Str×α)},Z8 k l=some v->Z1 k v l=l
  | [],h=>nomatch h
  | (k0,v0)::r,h=>by
    have h:(if k0=k then some v0 else Z8 k r)=some v:=h
    show(if k0=k then(k0,v)::r else(k0,v0)::Z1 k v r)=_
    by_cases e:k0=k
    · rw[if_pos e]at h⊢;cases h;rfl
    · rw[if_neg e]at h⊢;rw[U6 h]
theorem Zqv{k f t:List Nat}{st:ST}{kd:Str}{ps:PS}(a:Addr)(w0:D)(hg:Z8 (S k) st=some (kd,ps))(hf:Nm f)(hk:¬S f=Str.ofString "kind")(hp:S f=Str.ofString "note"\/Gen.W4 [.str (S t)]=some (.fz (.bl true)))(hl:ps.length<1000):
  Gen.Yy [a] [Zk st] [.lst [w0,.str (S k),.str (S f),.str (S t)]]=some (.v (.str "ok") [Zk (Z1 (S k) (kd,Z1 (S f) (S t) ps) st)]):=by
 have c1:=Kg st (S k)
 rw[hg]at c1
 have n2:=Zfv hf hk
 have hd:=Ju st
 have a1:(Zk st).at' (pFl (S k))=some (.dc (Ye ps) (Wb Qu ps)):=Af hg
 have z:(Ye ps).length<PySem.sizeLine:=O0 (by rw[Rg];omega)
 have p1:Ux (Ye ps) (Wb Qu ps) (Sum.inr (S f)) (.lf (.str (S t)))=(Ye (Z1 (S f) (S t) ps),Wb Qu (Z1 (S f) (S t) ps)):=Ew Qu (S f) (S t) ps
 have u1:(Zk st).up (pFl (S k)) (.dc (Ye (Z1 (S f) (S t) ps)) (Wb Qu (Z1 (S f) (S t) ps)))=Zk (Z1 (S k) (kd,Z1 (S f) (S t) ps) st):=O4 _ hg
 generalize Zk (Z1 (S k) (kd,Z1 (S f) (S t) ps) st)=T' at*
 generalize Zk st=T at*
 generalize Ye (Z1 (S f) (S t) ps)=KS' at*
 generalize Wb Qu (Z1 (S f) (S t) ps)=TS' at*
 generalize Ye ps=KS at*
 generalize Wb Qu ps=TS at*
 have z1:1<=PySem.sizeLine:=by decide
 clear hf
 generalize S f=F at*
 by_cases hn:F=Str.ofString "note"
 ·subst hn
  unfold Gen.Yy Gen.Qt
  simp[-Tr.at',-Tr.up,-Ux,M4,Ev,at2,at3,hd,c1,n2,a1,z,z1,p1,u1]
 ·have hp:=hp.resolve_left hn
  unfold Gen.Yy Gen.Qt
  simp[-Tr.at',-Tr.up,-Ux,M4,Ev,at2,at3,hd,c1,n2,a1,z,z1,p1,u1,hn,hp]
noncomputable abbrev NW(k:Str):Exn:=⟨"NoWork",["key"],[.str k]⟩
theorem Zon{k:Str}{st:ST}(a:Addr)(w0 w2 w3:D)(hg:Z8 k st=none):Gen.Yy [a] [Zk st] [.lst [w0,.str k,w2,w3]]=some (.x (NW k) [Zk st]):=by
 have c1:=Kg st k
 rw[hg]at c1
 have hd:=Ju st
 generalize Zk st=T at*
 unfold Gen.Yy Gen.Qt
 simp[-Tr.at',-Tr.up,-Ux,M4,Ev,hd,c1]
theorem Zqw{k f:List Nat}{st:ST}{kd:Str}{ps:PS}(a:Addr)(w0:D)(hg:Z8 (S k) st=some (kd,ps))(hf:Nm f):
  Gen.Yz [a] [Zk st] [.lst [w0,.str (S k),.str (S f)]]=some (.v (.str "ok") [Zk (Z1 (S k) (kd,Yw (S f) ps) st)]):=by
 have c1:=Kg st (S k)
 rw[hg]at c1
 have n2:=Rf hf
 have hd:=Ju st
 have a1:(Zk st).at' (pFl (S k))=some (.dc (Ye ps) (Wb Qu ps)):=Af hg
 have p1:=Re Qu (S f) ps
 have u1:(Zk st).up (pFl (S k)) (.dc (Ye (Yw (S f) ps)) (Wb Qu (Yw (S f) ps)))=Zk (Z1 (S k) (kd,Yw (S f) ps) st):=O4 _ hg
 have same:Z8 (S f) ps=none->Zk (Z1 (S k) (kd,Yw (S f) ps) st)=Zk st:=fun e=>by
  rw[Mj _ _ e,<-O4 (ps:=ps) ps hg]
  have:(Zk st).up (pFl (S k)) (Wq ps)=Zk (Z1 (S k) (kd,ps) st):=O4 ps hg
  rw[this,U6 hg]
 generalize Zk (Z1 (S k) (kd,Yw (S f) ps) st)=T' at*
 generalize Zk st=T at*
 generalize Ye (Yw (S f) ps)=KS' at*
 generalize Wb Qu (Yw (S f) ps)=TS' at*
 generalize Ye ps=KS at*
 generalize Wb Qu ps=TS at*
 clear hf
 generalize S f=F at*
 unfold Gen.Yz Gen.Q0
 cases hF:Z8 F ps with
 |some t=>
  rw[hF]at p1
  simp[-Tr.at',-Tr.up,-Wj]at p1
  simp[-Tr.at',-Tr.up,-Wj,M4,Ev,at2,hd,c1,n2,a1,p1,u1]
 |none=>
  rw[hF]at p1
  have st':=same hF
  simp[-Tr.at',-Tr.up,-Wj]at p1
  simp[-Tr.at',-Tr.up,-Wj,M4,Ev,at2,hd,c1,n2,a1,p1,st']
theorem Zoo{k:Str}{st:ST}(a:Addr)(w0 w2:D)(hg:Z8 k st=none):Gen.Yz [a] [Zk st] [.lst [w0,.str k,w2]]=some (.x (NW k) [Zk st]):=by
 have c1:=Kg st k
 rw[hg]at c1
 have hd:=Ju st
 generalize Zk st=T at*
 unfold Gen.Yz Gen.Q0
 simp[-Tr.at',-Tr.up,-Ux,M4,Ev,hd,c1]
theorem Zqx{k:Str}{st:ST}{q:Str×PS}(a:Addr)(w0:D)(hg:Z8 k st=some q):Gen.Y7 [a] [Zk st] [.lst [w0,.str k]]=some (.v (.str "ok") [Zk (Yw k st)]):=by
 have c1:=Kg st k
 have p1:=Re Qk k st
 rw[hg]at c1 p1
 have hd:=Ju st
 have a1:(Zk st).at' pSh=some (.dc (Ye st) (Wb Qk st)):=rfl
 have u1:(Zk st).up pSh (.dc (Ye (Yw k st)) (Wb Qk (Yw k st)))=Zk (Yw k st):=rfl
 generalize Zk (Yw k st)=T' at*
 generalize Zk st=T at*
 generalize Ye (Yw k st)=KS' at*
 generalize Wb Qk (Yw k st)=TS' at*
 generalize Ye st=KS at*
 generalize Wb Qk st=TS at*
 simp[-Tr.at',-Tr.up,-Wj]at p1
 unfold Gen.Y7 Gen.Jt
 simp[-Tr.at',-Tr.up,-Wj,M4,Ev,hd,c1,a1,p1,u1]
theorem Zop{k:Str}{st:ST}(a:Addr)(w0:D)(hg:Z8 k st=none):Gen.Y7 [a] [Zk st] [.lst [w0,.str k]]=some (.x (NW k) [Zk st]):=by
 have c1:=Kg st k
 rw[hg]at c1
 have hd:=Ju st
 have a1:(Zk st).at' pSh=some (.dc (Ye st) (Wb Qk st)):=rfl
 generalize Zk st=T at*
 generalize Ye st=KS at*
 generalize Wb Qk st=TS at*
 unfold Gen.Y7 Gen.Jt
 simp[-Tr.at',-Tr.up,-Wj,M4,Ev,hd,c1,a1]
theorem Zqy{k f:List Nat}{st:ST}{kd:Str}{ps:PS}(a:Addr)(w0:D)(hg:Z8 (S k) st=some (kd,ps))(hf:Nm f):
  Gen.Wm [a] [Zk st] [.lst [w0,.str (S k),.str (S f)]]=some (.v (.str ((Z8 (S f) ps).getD "")) [Zk st]):=by
 have c1:=Kg st (S k)
 rw[hg]at c1
 have n2:=Rf hf
 have hd:=Ju st
 have hh:=Zky (S f) hg
 have hD:Zfs st= .ob "Desk" FS6 [Ge st,.dK [] [],.lst [],.tup [],.lst [],.int 2]:=rfl
 rw[hD]at hd c1
 generalize Ge st=SD at*
 generalize Zk st=T at*
 clear hf
 generalize S f=F at*
 unfold Gen.Wm Gen.U3
 cases hF:Z8 F ps with
 |some t=>
  rw[hF]at hh
  simp[-look,U5,Mo,M4,Ev,at2,hd,c1,n2,hh]
 |none=>
  rw[hF]at hh
  simp[-look,U5,Mo,M4,Ev,at2,hd,c1,n2,hh]
theorem Zoq{k:Str}{st:ST}(a:Addr)(w0 w2:D)(hg:Z8 k st=none):Gen.Wm [a] [Zk st] [.lst [w0,.str k,w2]]=some (.x (NW k) [Zk st]):=by
 have c1:=Kg st k
 rw[hg]at c1
 have hd:=Ju st
 generalize Zk st=T at*
 unfold Gen.Wm Gen.U3
 simp[M4,Ev,hd,c1]
end My
namespace My
open DL PySem
theorem U7{row w f how:Str}{n:Int}{ws:List D}{g:GG}{st:ST}{o:GO}{t':Tr}(hw:Gen.Y2 [.str row]=some (.ol (.str w::ws)))(hr:Ww Gen.Oa w=some (.row n how f))(hL:Gen.Mf.lookup f=some g)(hg:∀a,g [a] [Zk st] [.lst (.str w::ws)]=some o)(ho:o.ts=[t'])(a:Addr):
  Gen.Bg [a] [Zk st] [.str row]=some o:=by
 have hr1:(Zk st).isRef=true:=rfl
 generalize Zk st=T at*
 have hc:∀x1 x3:Option SV,P6 3 Gen.Mf 0 Oq 1 (Zi (Za 2) Zm) [some (.oG (some a) T),x1,some (.ol (.str w::ws)),some (.fz (.fn f))]=Zff [some (.oG (some a) T),x1,some (.fz (.lst (.str w::ws))),some (.fz (.fn f))] 0 [] T o:=fun x1 x3=>by
  show(Gen.Mf.lookup f).bind _=_
  rw[hL]
  exact C9 (i:=0) (n:=1) (fp:=Oq) (fd:=Zi (Za 2) Zm) (g:=g) (δ:=[some (.oG (some a) T),x1,some (.ol (.str w::ws)),some (.fz (.fn f))]) (δ1:=[some (.oG (some a) T),x1,some (.fz (.lst (.str w::ws))),some (.fz (.fn f))]) (p:=[]) (t0:=T) (u0:=T) (t:=T) (u:=T) (ds:=[.lst (.str w::ws)]) rfl rfl rfl rfl rfl rfl rfl hr1 hg
 have hc:=hc (some (.fz (.str row))) none
 unfold Gen.Bg Gen.Zb6
 cases o with
 |v d ts=>
  have ho:ts=[t']:=ho
  subst ho
  simp[-Ww,M4,hw,hr,hc]
 |x e ts=>
  have ho:ts=[t']:=ho
  subst ho
  simp[-Ww,M4,hw,hr,hc]
theorem Zfx:¬(Str.ofString "say")∈FS6:=by decide+kernel
theorem Zcc{c m:Str}{i n:Nat}{fp:FP}{g:GG}{fd:FD}{δ:Ya}{fs:List Str}{ts:List Tr}(h:((fp δ).bind fun p=>(Z0 δ i).bind fun t=>t.at' p)=some (.ob c fs ts))(hm:¬m∈fs):Mb c m i fp n g fd δ=Jc i fp n g fd δ:=by
 unfold Mb
 rw[h]
 dsimp only
 rw[if_pos ⟨rfl,hm⟩]
theorem S0{row:Str}{st:ST}{o:GO}(h:∀a,Gen.Bg [a] [Zk st] [.str row]=some o)(a:Addr)(x2 x3 x4:Option SV):Mb "Desk" "say" 0 Oq 1 Gen.Bg (Zi (Za 1) Zm) [some (.oG (some a) (Zk st)),some (.fz (.str row)),x2,x3,x4]=Zff [some (.oG (some a) (Zk st)),some (.fz (.str row)),x2,x3,x4] 0 [] (Zk st) o:=by
 have hc:=C9 (δ:=[some (.oG (some a) (Zk st)),some (.fz (.str row)),x2,x3,x4]) (δ1:=[some (.oG (some a) (Zk st)),some (.fz (.str row)),x2,x3,x4]) (i:=0) (n:=1) (fp:=Oq) (fd:=Zi (Za 1) Zm) (g:=Gen.Bg) (p:=[]) (t0:=Zk st) (u0:=Zk st) (t:=Zk st) (u:=Zk st) (ds:=[.str row]) rfl rfl rfl rfl rfl rfl rfl rfl h
 rw[<-hc]
 exact Zcc (fs:=FS6) (ts:=[Nb st,.lf (.dK [] []),.lf (.lst []),.lf (.tup []),.lf (.lst []),.lf (.int 2)]) rfl Zfx
theorem Mp{row:Str}{st:ST}{d:D}{t':Tr}(h:∀a,Gen.Bg [a] [Zk st] [.str row]=some (.v d [t']))(a:Addr):Gen.Zx [a] [Zk st] [.str row]=some (.v d [t']):=by
 have hm:=S0 h a (some (.fz .non)) none none
 generalize Zk st=T at*
 unfold Gen.Zx Gen.U4
 simp[hm]
theorem Ex{row k:Str}{st:ST}{t':Tr}(h:∀a,Gen.Bg [a] [Zk st] [.str row]=some (.x (NW k) [t']))(a:Addr):Gen.Zx [a] [Zk st] [.str row]=some (.v (.tup [.str "no work",.str k,.bl true]) [t']):=by
 have hm:=S0 h a (some (.fz .non)) none none
 have z:3<=PySem.sizeLine:=by decide
 generalize Zk st=T at*
 unfold Gen.Zx Gen.U4
 simp[hm,z]
end My
namespace My
open DL PySem
noncomputable abbrev WRK:List Nat:=[119,111,114,107]
noncomputable abbrev DRP:List Nat:=[100,114,111,112]
noncomputable abbrev BAR:List Nat:=[98,97,114,101]
noncomputable abbrev HAS:List Nat:=[104,97,115]
theorem Kh:Ww Gen.Oa (S WRK)=some (.row 3 "word" "put_work"):=by kernel_rfl
theorem Mq:Ww Gen.Oa (S DRP)=some (.row 2 "word" "drop_work"):=by kernel_rfl
theorem Cr:Ww Gen.Oa (S BAR)=some (.row 3 "word" "take_field"):=by kernel_rfl
theorem Rh:Ww Gen.Oa (S HAS)=some (.row 3 "word" "told_had"):=by kernel_rfl
theorem Nm.bl{l:List Nat}(h:Nm l):32∉l:=h.no 32 (by omega)
theorem Zqz{w k f:List Nat}(hw:32∉w)(hk:Nm k)(hf:Nm f):∀q∈[w,k,f],32∉q:=fun q hq=>by
 rcases List.mem_cons.mp hq with rfl|hq
 ·exact hw
 ·rcases List.mem_cons.mp hq with rfl|hq
  ·exact hk.bl
  ·obtain rfl:=List.mem_singleton.mp hq;exact hf.bl
theorem Zq0{w k f:List Nat}(hw:w.length<=8)(hk:Nm k)(hf:Nm f):(jl [32] [w,k,f]).length<=1000:=by
 show(w++[32]++(k++[32]++f)).length<=1000
 have:=hk.2.1;have:=hf.2.1
 simp;omega
theorem Mr{w k f:List Nat}{fn:Str}(hr:Ww Gen.Oa (S w)=some (.row 3 "word" fn))(hw:32∉w)(hl:w.length<=8)(hk:Nm k)(hf:Nm f):Gen.Y2 [.str (S (jl [32] [w,k,f]))]=some (.ol [.str (S w),.str (S k),.str (S f)]):=
 Sl (n:=3) hr rfl (Zqz hw hk hf) (Zq0 hl hk hf) (by decide)
theorem lk1:Gen.Mf.lookup (Str.ofString "put_work")=some Gen.Qi:=by rfl
theorem lk2:Gen.Mf.lookup (Str.ofString "put_field")=some Gen.Yy:=by rfl
theorem lk3:Gen.Mf.lookup (Str.ofString "take_field")=some Gen.Yz:=by rfl
theorem lk4:Gen.Mf.lookup (Str.ofString "drop_work")=some Gen.Y7:=by rfl
theorem lk5:Gen.Mf.lookup (Str.ofString "told_had")=some Gen.Wm:=by rfl
section
variable{k f t kd:List Nat}{st:ST}{kn:Str}{ps:PS}
theorem Zk1(hk:Nm k)(hkd:Nm kd)(hl:st.length<1000)(a:Addr):Gen.Zx [a] [Zk st] [.str (S (jl [32] [WRK,k,kd]))]=some (.v (.str "ok") [Zk (Z1 (S k) (S kd,[]) st)]):=
 Mp (U7 (Mr Kh (by decide) (by decide) hk hkd) Kh lk1 (fun a=>Zqu a _ hk hkd hl) rfl) a
theorem Zos(hk:Nm k)(hf:Nm f)(hg:Z8 (S k) st=some (kn,ps))(a:Addr):Gen.Zx [a] [Zk st] [.str (S (jl [32] [HAS,k,f]))]=some (.v (.str ((Z8 (S f) ps).getD "")) [Zk st]):=
 Mp (U7 (Mr Rh (by decide) (by decide) hk hf) Rh lk5 (fun a=>Zqy a _ hg hf) rfl) a
theorem Zk2(hk:Nm k)(hf:Nm f)(hg:Z8 (S k) st=none)(a:Addr):Gen.Zx [a] [Zk st] [.str (S (jl [32] [HAS,k,f]))]=some (.v (.tup [.str "no work",.str (S k),.bl true]) [Zk st]):=
 Ex (U7 (Mr Rh (by decide) (by decide) hk hf) Rh lk5 (fun a=>Zoq a _ _ hg) rfl) a
theorem Zk3(hk:Nm k)(hf:Nm f)(hg:Z8 (S k) st=some (kn,ps))(a:Addr):Gen.Zx [a] [Zk st] [.str (S (jl [32] [BAR,k,f]))]=some (.v (.str "ok") [Zk (Z1 (S k) (kn,Yw (S f) ps) st)]):=
 Mp (U7 (Mr Cr (by decide) (by decide) hk hf) Cr lk3 (fun a=>Zqw a _ hg hf) rfl) a
theorem Zfy(hk:Nm k)(hf:Nm f)(hg:Z8 (S k) st=none)(a:Addr):Gen.Zx [a] [Zk st] [.str (S (jl [32] [BAR,k,f]))]=some (.v (.tup [.str "no work",.str (S k),.bl true]) [Zk st]):=
 Ex (U7 (Mr Cr (by decide) (by decide) hk hf) Cr lk3 (fun a=>Zoo a _ _ hg) rfl) a
theorem Zce(hk:Nm k):Gen.Y2 [.str (S (jl [32] [DRP,k]))]=some (.ol [.str (S DRP),.str (S k)]):=
 Sl (n:=2) Mq rfl (fun q hq=>by
  rcases List.mem_cons.mp hq with rfl|hq
  ·decide
  ·obtain rfl:=List.mem_singleton.mp hq;exact hk.bl) (by
  show(DRP++[32]++k).length<=1000
  have:=hk.2.1
  simp;omega) (by decide)
theorem Zk4{q:Str×PS}(hk:Nm k)(hg:Z8 (S k) st=some q)(a:Addr):Gen.Zx [a] [Zk st] [.str (S (jl [32] [DRP,k]))]=some (.v (.str "ok") [Zk (Yw (S k) st)]):=
 Mp (U7 (Zce hk) Mq lk4 (fun a=>Zqx a _ hg) rfl) a
theorem Zfz(hk:Nm k)(hg:Z8 (S k) st=none)(a:Addr):Gen.Zx [a] [Zk st] [.str (S (jl [32] [DRP,k]))]=some (.v (.tup [.str "no work",.str (S k),.bl true]) [Zk st]):=
 Ex (U7 (Zce hk) Mq lk4 (fun a=>Zop a _ hg) rfl) a
theorem Zf0(hk:Nm k)(hf:Nm f)(hkd:¬S f=Str.ofString "kind")(ht:t.length<=100)(hp:S f=Str.ofString "note"\/Gen.W4 [.str (S t)]=some (.fz (.bl true)))(hg:Z8 (S k) st=some (kn,ps))(hl:ps.length<1000)(a:Addr):
  Gen.Zx [a] [Zk st] [.str (S (Kl++32::(k++32::(f++32::t))))]=some (.v (.str "ok") [Zk (Z1 (S k) (kn,Z1 (S f) (S t) ps) st)]):=
 Mp (U7 (Sm hk.bl hf.bl (by have:=hk.2.1;have:=hf.2.1;omega)) Gd lk2 (fun a=>Zqv a _ hg hf hkd hp hl) rfl) a
theorem Zcf(hk:Nm k)(hf:Nm f)(ht:t.length<=100)(hg:Z8 (S k) st=none)(a:Addr):
  Gen.Zx [a] [Zk st] [.str (S (Kl++32::(k++32::(f++32::t))))]=some (.v (.tup [.str "no work",.str (S k),.bl true]) [Zk st]):=
 Ex (U7 (Sm hk.bl hf.bl (by have:=hk.2.1;have:=hf.2.1;omega)) Gd lk2 (fun a=>Zon a _ _ _ hg) rfl) a
end
end My
namespace My
open DL PySem
noncomputable abbrev NT6:List Str:=[""," ","a\nb","<ab> so","^{x}","It's  so "]
noncomputable abbrev ABX:Str:=Txt.mul "ab c" 20
noncomputable abbrev Zf1:List Str:=["x"," x","x "," ","Lee, Ann & Roe","A = (b)","12-14/5","a  b","So?!","it's 9*.+",ABX]
theorem Zhi(L:List Str)(m:Int)(n:Nat)(hn:L.length=n)(h0:0<n):∃T∈L,L2.atI (L.map D.str) (m % (n:Int))=some (.str T):=by
 have a0:0<=m % (n:Int):=Int.emod_nonneg _ (by omega)
 have a1:m % (n:Int)<(n:Int):=Int.emod_lt_of_pos _ (by omega)
 obtain⟨j,hj⟩:=Int.eq_ofNat_of_zero_le a0
 rw[hj]
 have hl:j<L.length:=by omega
 exact⟨L[j],List.getElem_mem hl,Ot _ _ _ (by rw[List.getElem?_map,List.getElem?_eq_getElem hl];rfl)⟩
theorem Zk5:∀T∈NT6,T.cps.toList.length<=100:=by decide+kernel
theorem Zk6:∀T∈Zf1,T.cps.toList.length<=100:=by decide+kernel
theorem Zcg:∀T∈Zf1,Gen.W4 [.str T]=some (.fz (.bl true)):=by
 intro T hT
 simp only[Zf1,List.mem_cons,List.not_mem_nil,or_false]at hT
 rcases hT with rfl|rfl|rfl|rfl|rfl|rfl|rfl|rfl|rfl|rfl|rfl<;> kernel_rfl
theorem Zf2(F:Str)(m:Int):∃T:Str,Gen.W3 [.str F,.int m]=some (.fz (.str T))/\T.cps.toList.length<=100/\(F=Str.ofString "note"\/Gen.W4 [.str T]=some (.fz (.bl true))):=by
 by_cases hn:F=Str.ofString "note"
 ·subst hn
  obtain⟨T,hT,e⟩:=Zhi NT6 m 6 rfl (by decide)
  refine⟨T,?_,Zk5 T hT,.inl rfl⟩
  have z:6<=PySem.sizeLine:=by decide
  have e:L2.atI [D.str "",D.str " ",D.str "a\nb",D.str "<ab> so",D.str "^{x}",D.str "It's  so "] (m % 6)=some (.str T):=e
  unfold Gen.W3 Gen.Uz
  simp[z,e]
 ·obtain⟨T,hT,e⟩:=Zhi Zf1 m 11 rfl (by decide)
  refine⟨T,?_,Zk6 T hT,.inr (Zcg T hT)⟩
  have z:11<=PySem.sizeLine:=by decide
  have hm:Lx (Str.ofString "ab c") 20=some (.fz (.str ABX)):=Zeu (by unfold MulOk;decide+kernel)
  have e:L2.atI [D.str "x",D.str " x",D.str "x ",D.str " ",D.str "Lee, Ann & Roe",D.str "A = (b)",D.str "12-14/5",D.str "a  b",D.str "So?!",D.str "it's 9*.+",D.str ABX] (m % 11)=some (.str T):=e
  generalize ABX=AX at hm e
  unfold Gen.W3 Gen.Uz
  simp[z,e,hm,hn]
end My
namespace My
open DL PySem
theorem By{a b:List Nat}(h:a.length+b.length<=1000):Yk (.str (S a)) (.str (S b))=some (.fz (.str (S (a++b)))):=by
 have z:(S a).length+(S b).length<=PySem.sizeLine:=Qm (by rw[Js,Js];omega)
 simp[z,Aa]
theorem Ri{T T':Tr}{d:D}{e:FE}{δ:Ya}{a:Addr}{row:Str}(h0:δ[0]? =some (some (.oG (some a) T)))(hr:T.isRef=true)(he:Zi e Zm δ=some ([.str row],δ))(ht:∀a,Gen.Zx [a] [T] [.str row]=some (.v d [T'])):
  Gen.Gu e δ=some (.v d (δ.set 0 (some (.oG (some a) T')))):=by
 have t0:Z0 δ 0=some T:=by unfold Z0;rw[h0]
 have p0:Wv δ 0=some a:=by unfold Wv;rw[h0]
 have:=C9 (i:=0) (n:=1) (fp:=Oq) (g:=Gen.Zx) (fd:=Zi e Zm) (δ:=δ) (δ1:=δ) (p:=[]) (t0:=T) (u0:=T) (t:=T) (u:=T) (ds:=[.str row]) (o:=.v d [T']) rfl t0 rfl he rfl t0 rfl hr ht
 rw[show Gen.Gu e δ=Jc 0 Oq 1 Gen.Zx (Zi e Zm) δ from rfl,this]
 unfold Zff
 rw[p0]
 rfl
theorem Zot:Gz (.str "ok") (.str "ok")=some (.fz (.bl true)):=by kernel_rfl
theorem Zhj(k:Str):Gz (.tup [.str "no work",.str k,.bl true]) (.tup [.str "no work",.str k,.bl true])=some (.fz (.bl true)):=by simp
noncomputable abbrev OKD:D:=.str "ok"
noncomputable abbrev NWD(k:Str):D:=.tup [.str "no work",.str k,.bl true]
theorem Zch{T T' K1:Tr}{row:Str}{d:D}(a b:Addr)(hT:T.isRef=true)(ht:∀a,Gen.Zx [a] [T] [.str row]=some (.v d [T']))(he:Gz d d=some (.fz (.bl true)))(hf:d=OKD\/∃k,d=NWD k)(x2 x3 x4 x5 x6 x8:Option SV):
  G1 (M3 Gz (Gen.Gu (Za 7)) (Za 9)) [some (.oG (some a) T),some (.oG (some b) K1),x2,x3,x4,x5,x6,some (.fz (.str row)),x8,some (.fz d)]=some (.rg (.bl true) [some (.oG (some a) T'),some (.oG (some b) K1),x2,x3,x4,x5,x6,some (.fz (.str row)),x8,some (.fz d)]):=by
 have hc:=Ri (e:=Za 7) (δ:=[some (.oG (some a) T),some (.oG (some b) K1),x2,x3,x4,x5,x6,some (.fz (.str row)),x8,some (.fz d)]) rfl hT rfl ht
 show(M3 Gz (Gen.Gu (Za 7)) (Za 9) _).bind _=_
 unfold M3
 rw[hc]
 simp[-Gz,he]
theorem Zq1:Str.ofString "work "=S [119,111,114,107,32]:=by decide+kernel
theorem Zk7:Str.ofString "drop "=S [100,114,111,112,32]:=by decide+kernel
theorem Zou:Str.ofString "bare "=S [98,97,114,101,32]:=by decide+kernel
theorem Zov:Str.ofString "field "=S [102,105,101,108,100,32]:=by decide+kernel
theorem Zow:Str.ofString "has "=S [104,97,115,32]:=by decide+kernel
theorem Zq2:Str.ofString "book"=S [98,111,111,107]:=by decide+kernel
theorem Zq3:Str.ofString "part"=S [112,97,114,116]:=by decide+kernel
theorem Zox:Nm [98,111,111,107]:=by unfold Nm;decide
theorem Zoy:Nm [112,97,114,116]:=by unfold Nm;decide
theorem Ki(st:ST)(k:Str):look (Ye st) (st.map fun q=>Qg q.2.2) (Sum.inr k)=(Z8 k st).map fun q=>Qg q.2:=Mn (fun q:Str×PS=>Qg q.2) k st
theorem Zf4(k:Str)(q:Str)(st:ST):Ux (Ye st) (Wb (fun q:Str×PS=>Wq q.2) st) (Sum.inr k) (.dc [] [])=(Ye (Z1 k (q,[]) st),Wb (fun q:Str×PS=>Wq q.2) (Z1 k (q,[]) st)):=Ew (fun q:Str×PS=>Wq q.2) k (q,[]) st
theorem Xq{k:List Nat}{st:ST}(hk:Nm k)(hl:st.length<900)(FD:List D)(F:Str)(num H:Int)(hH:num % 8=H)(h2:H=0\/H=1)(hF:L2.atI (FD++[.str "note"]) (num / 8 % 4)=some (.str F))(hFl:FD.length<=100):
  ∃kd,∀a b:Addr,Gen.Yv [a,b] [Zk st,Yd st] [.str (S k),.lst FD,.int num]=some (.v (.bl true) [Zk (Z1 (S k) (kd,[]) st),Yd (Z1 (S k) (kd,[]) st)]):=by
 have go:∀kd:List Nat,Nm kd->L2.atI [D.str (S [98,111,111,107]),D.str (S [112,97,114,116])] H=some (.str (S kd))->∀a b:Addr,Gen.Yv [a,b] [Zk st,Yd st] [.str (S k),.lst FD,.int num]=some (.v (.bl true) [Zk (Z1 (S k) (S kd,[]) st),Yd (Z1 (S k) (S kd,[]) st)]):=fun kd hkd hi a b=>by
  have z1:FD.length+1<=PySem.sizeLine:=Qm (by omega)
  have z2:2<=PySem.sizeLine:=by decide
  have z3:1<=PySem.sizeLine:=by decide
  have kl:=hk.2.1
  have kl2:=hkd.2.1
  have s1:=By (a:=[119,111,114,107,32]) (b:=k) (by simp;omega)
  have s2:=By (a:=[119,111,114,107,32]++k) (b:=[32]) (by simp;omega)
  have s3:=By (a:=[119,111,114,107,32]++k++[32]) (b:=kd) (by simp;omega)
  have er:[119,111,114,107,32]++k++[32]++kd=jl [32] [WRK,k,kd]:=by show _=WRK++[32]++(k++[32]++kd);simp
  rw[er]at s3
  generalize S ([119,111,114,107,32]++k++[32])=R2 at s2 s3
  generalize S ([119,111,114,107,32]++k)=R1 at s1 s2
  have ht:=fun a=>Zk1 (st:=st) hk hkd (by omega) a
  have a1:(Yd st).at' []=some (.dc (Ye st) (Wb (fun q:Str×PS=>Wq q.2) st)):=rfl
  have z:(Ye st).length<PySem.sizeLine:=O0 (by rw[Rg];omega)
  have p1:=Zf4 (S k) (S kd) st
  have u1:(Yd st).up [] (.dc (Ye (Z1 (S k) (S kd,[]) st)) (Wb (fun q:Str×PS=>Wq q.2) (Z1 (S k) (S kd,[]) st)))=Yd (Z1 (S k) (S kd,[]) st):=rfl
  have hT:(Zk st).isRef=true:=rfl
  have h1:H<2:=by omega
  have h0:Yk (.lst FD) (.lst [.str "note"])=some (.ol (FD++[.str "note"])):=by simp[z1]
  generalize Zk (Z1 (S k) (S kd,[]) st)=T' at*
  generalize Yd (Z1 (S k) (S kd,[]) st)=K' at*
  generalize Ye (Z1 (S k) (S kd,[]) st)=KS' at*
  generalize Wb (fun q:Str×PS=>Wq q.2) (Z1 (S k) (S kd,[]) st)=TS' at*
  generalize Zk st=T at*
  generalize Yd st=K0 at*
  generalize Ye st=KS at*
  generalize Wb (fun q:Str×PS=>Wq q.2) st=TS at*
  generalize S (jl [32] [WRK,k,kd])=row at*
  have hc:=Ri (a:=a) (e:=Zj Yk (Zj Yk (Zj Yk (Zd (.str "work ")) (Za 2)) (Zd (.str " "))) (Zj Bq (Ca (C7 ["book","part"] (Zm))) (Za 5))) (δ:=[some (.oG (some a) T),some (.oG (some b) K'),some (.fz (.str (S k))),some (.fz (.lst FD)),some (.fz (.int num)),some (.fz (.int H)),some (.fz (.str F)),none,none,none]) rfl hT (by simp[-Yk,Zq1,Kd,Zq2,Zq3,s1,s2,z2,hi,s3]) ht
  generalize FD++[D.str "note"]=FL at*
  unfold Gen.Yv Gen.W5
  simp[-Yk,-Tr.at',-Tr.up,-Ux,z3,h0,hH,hF,h1,a1,z,p1,u1]
  simp at hc
  simp[hc]
 rcases h2 with rfl|rfl
 ·exact⟨_,go _ Zox rfl⟩
 ·exact⟨_,go _ Zoy rfl⟩
end My
set_option maxHeartbeats 8000000
namespace My
open DL PySem
structure Few(n:Nat)(st:ST):Prop where
 w:st.length<=n
 f:∀q∈st,(q.2.2).length<=n
theorem Few.up{n:Nat}{st:ST}(h:Few n st):Few (n+1) st:=⟨by have:=h.w;omega,fun q hq=>by have:=h.f q hq;omega⟩
theorem Few.put{n:Nat}{st:ST}(h:Few n st)(k kd:Str){ps:PS}(hp:ps.length<=n+1):Few (n+1) (Z1 k (kd,ps) st):=
 ⟨Nat.le_trans (Ml k (kd,ps) st) (by have:=h.w;omega),Sr (P:=fun q:Str×PS=>q.2.length<=n+1) k hp st fun q hq=>by have:=h.f q hq;omega⟩
theorem Few.del{n:Nat}{st:ST}(h:Few n st)(k:Str):Few (n+1) (Yw k st):=
 ⟨Nat.le_trans (Mm k st) (by have:=h.w;omega),Ss (P:=fun q:Str×PS=>q.2.length<=n+1) k st fun q hq=>by have:=h.f q hq;omega⟩
theorem Few.at{n:Nat}{st:ST}(h:Few n st){k kd:Str}{ps:PS}(e:Z8 k st=some (kd,ps)):ps.length<=n:=Su (P:=fun q:Str×PS=>q.2.length<=n) st (fun q hq=>h.f q hq) e
noncomputable abbrev Xy(a b:Addr)(T K:Tr)(k f:Str)(FD:List D)(num H:Int)(row text:Str)(due:D):Ya:=[some (.oG (some a) T),some (.oG (some b) K),some (.fz (.str k)),some (.fz (.lst FD)),some (.fz (.int num)),some (.fz (.int H)),some (.fz (.str f)),some (.fz (.str row)),some (.fz (.str text)),some (.fz due)]
noncomputable abbrev G4:FS:=Gy (Fj (Z6 (Zj Bs (Za 2) (Za 1)))) (Yp 9 (tupF (Zi (Zd (.str "no work")) (Zi (Za 2) (Zi (Zd (.bl true)) (Zm)))))) (Gy (Z6 (Zj Gz (Za 5) (Zd (.int 2)))) (Xe 1 Oq (Ug (Za 2))) (Gy (Z6 (Zj Gz (Za 5) (Zd (.int 3)))) (Xd 1 (plK 2 Oq) 6) (Fk 1 (plK 2 Oq) 6 (Za 8))))
noncomputable abbrev Zci:FS:=G1 (M3 Gz (Gen.Gu (Za 7)) (Za 9))
noncomputable def Ms(H:Int)(k f t:List Nat):List Nat:=if 3<H then Kl++32::(k++32::(f++32::t))else if 2<H then jl [32] [BAR,k,f]else jl [32] [DRP,k]
theorem Xr{T K:Tr}{k f t:List Nat}(a b:Addr)(hk:Nm k)(hf:Nm f)(ht:t.length<=100)(FD:List D)(num H:Int)(hH:num % 8=H)(h2:2<=H)(hF:L2.atI (FD++[.str "note"]) (num / 8 % 4)=some (.str (S f)))(hFl:FD.length<=100)(hT:Gen.W3 [.str (S f),.int (num / 32)]=some (.fz (.str (S t)))):
  Gen.W5 [some (.oG (some a) T),some (.oG (some b) K),some (.fz (.str (S k))),some (.fz (.lst FD)),some (.fz (.int num)),none,none,none,none,none]=Zt G4 Zci (Xy a b T K (S k) (S f) FD num H (S (Ms H k f t)) (S t) OKD):=by
 have kl:=hk.2.1
 have fl:=hf.2.1
 have z1:FD.length+1<=PySem.sizeLine:=Qm (by omega)
 have z3:1<=PySem.sizeLine:=by decide
 have h0:Yk (.lst FD) (.lst [.str "note"])=some (.ol (FD++[.str "note"])):=by simp[z1]
 have d1:=By (a:=[100,114,111,112,32]) (b:=k) (by simp;omega)
 have b1:=By (a:=[98,97,114,101,32]) (b:=k) (by simp;omega)
 have b2:=By (a:=[98,97,114,101,32]++k) (b:=[32]) (by simp;omega)
 have b3:=By (a:=[98,97,114,101,32]++k++[32]) (b:=f) (by simp;omega)
 have f1:=By (a:=[102,105,101,108,100,32]) (b:=k) (by simp;omega)
 have f2:=By (a:=[102,105,101,108,100,32]++k) (b:=[32]) (by simp;omega)
 have f3:=By (a:=[102,105,101,108,100,32]++k++[32]) (b:=f) (by simp;omega)
 have f4:=By (a:=[102,105,101,108,100,32]++k++[32]++f) (b:=[32]) (by simp;omega)
 have f5:=By (a:=[102,105,101,108,100,32]++k++[32]++f++[32]) (b:=t) (by simp;omega)
 rw[show[100,114,111,112,32]++k=jl [32] [DRP,k] by show _=DRP++[32]++k;simp]at d1
 rw[show[98,97,114,101,32]++k++[32]++f=jl [32] [BAR,k,f] by show _=BAR++[32]++(k++[32]++f);simp]at b3
 rw[show[102,105,101,108,100,32]++k++[32]++f++[32]++t=Kl++32::(k++32::(f++32::t)) by simp[Kl]]at f5
 generalize S ([102,105,101,108,100,32]++k++[32]++f++[32])=F4 at f4 f5
 generalize S ([102,105,101,108,100,32]++k++[32]++f)=F3 at f3 f4
 generalize S ([102,105,101,108,100,32]++k++[32])=F2 at f2 f3
 generalize S ([102,105,101,108,100,32]++k)=F1 at f1 f2
 generalize S ([98,97,114,101,32]++k++[32])=B2 at b2 b3
 generalize S ([98,97,114,101,32]++k)=B1 at b1 b2
 have n2:¬H<2:=by omega
 have hm:G4=G4:=rfl
 have hrow:S (Ms H k f t)=if 3<H then S (Kl++32::(k++32::(f++32::t)))else if 2<H then S (jl [32] [BAR,k,f])else S (jl [32] [DRP,k]):=by
  unfold Ms
  split
  ·rfl
  ·split<;> rfl
 rw[hrow]
 unfold Gen.W5
 generalize hM:G4=M
 generalize hE:Zci=E
 show Zt _ (Zt _ (Zt _ (Zt _ (Zt _ (Zt _ (Zt _ (Zt _ (Zt G4 Zci)))))))) _=_
 rw[hM,hE]
 generalize S (Kl++32::(k++32::(f++32::t)))=RF at*
 generalize S (jl [32] [BAR,k,f])=RB at*
 generalize S (jl [32] [DRP,k])=RD at*
 generalize FD++[D.str "note"]=FL at*
 by_cases c3:3<H
 ·have c2:2<H:=by omega
  simp[-Yk,Kd,Zk7,Zou,Zov,z3,h0,hH,hF,n2,d1,b1,b2,b3,f1,f2,f3,f4,f5,hT,c2,c3,Xy]
 ·by_cases c2:2<H
  ·simp[-Yk,Kd,Zk7,Zou,Zov,z3,h0,hH,hF,n2,d1,b1,b2,b3,hT,c2,c3,Xy]
  ·simp[-Yk,Kd,Zk7,z3,h0,hH,hF,n2,d1,hT,c2,c3,Xy]
theorem Cs{T T' K K':Tr}{k f row text:Str}{FD:List D}{num H:Int}{due:D}(a b:Addr)(hh:Gen.W5 [some (.oG (some a) T),some (.oG (some b) K),some (.fz (.str k)),some (.fz (.lst FD)),some (.fz (.int num)),none,none,none,none,none]=Zt G4 Zci (Xy a b T K k f FD num H row text OKD))
  (hm:G4 (Xy a b T K k f FD num H row text OKD)=some (.nx (Xy a b T K' k f FD num H row text due))) (hr:T.isRef=true) (ht:∀a,Gen.Zx [a] [T] [.str row]=some (.v due [T'])) (hd:due=OKD\/∃k,due=NWD k):
  Gen.Yv [a,b] [T,K] [.str k,.lst FD,.int num]=some (.v (.bl true) [T',K']):=by
 have he:Gz due due=some (.fz (.bl true)):=by
  rcases hd with rfl|⟨k,rfl⟩
  ·exact Zot
  ·exact Zhj k
 have hend:=Zch (K1:=K') a b hr ht he hd (some (.fz (.str k))) (some (.fz (.lst FD))) (some (.fz (.int num))) (some (.fz (.int H))) (some (.fz (.str f))) (some (.fz (.str text)))
 have hs:Zt G4 Zci (Xy a b T K k f FD num H row text OKD)=some (.rg (.bl true) [some (.oG (some a) T'),some (.oG (some b) K'),some (.fz (.str k)),some (.fz (.lst FD)),some (.fz (.int num)),some (.fz (.int H)),some (.fz (.str f)),some (.fz (.str row)),some (.fz (.str text)),some (.fz due)]):=by
  unfold Zt
  rw[hm]
  exact hend
 rw[hs]at hh
 show Jy Gen.W5 10 [a,b] [T,K] [.str k,.lst FD,.int num]=_
 unfold Jy
 rw[show Uy 10 [a,b] [T,K] [.str k,.lst FD,.int num]=[some (.oG (some a) T),some (.oG (some b) K),some (.fz (.str k)),some (.fz (.lst FD)),some (.fz (.int num)),none,none,none,none,none]from rfl,hh]
 simp
theorem Xs{n:Nat}{k f:List Nat}{st:ST}(hk:Nm k)(hf:Nm f)(hkd:¬S f=Str.ofString "kind")(fw:Few n st)(hn:n<=100)(FD:List D)(num H:Int)(hH:num % 8=H)(h2:2<=H)(hF:L2.atI (FD++[.str "note"]) (num / 8 % 4)=some (.str (S f)))(hFl:FD.length<=100):
  ∃st',(∀a b:Addr,Gen.Yv [a,b] [Zk st,Yd st] [.str (S k),.lst FD,.int num]=some (.v (.bl true) [Zk st',Yd st']))/\Few (n+1) st':=by
 obtain⟨X,hX,xl,xp⟩:=Zf2 (S f) (num / 32)
 rw[Zkl X]at hX xp
 generalize X.cps.toList=t at*
 have hh:=fun a b T K=>Xr (T:=T) (K:=K) a b hk hf xl FD num H hH h2 hF hFl hX
 have kl:=Ki st (S k)
 have kd0:=Sz st
 have hK:Zfr st= .dK (Ye st) (st.map fun q=>Qg q.2.2):=rfl
 rw[hK]at kd0
 have hR:(Zk st).isRef=true:=rfl
 have z3:3<=PySem.sizeLine:=by decide
 cases hg:Z8 (S k) st with
 |none=>
  rw[hg]at kl
  refine⟨st,fun a b=>Cs a b (hh a b _ _) (due:=NWD (S k)) ?_ hR (fun a=>?_) (.inr ⟨_,rfl⟩),fw.up⟩
  ·generalize Zk st=T at*
   generalize Yd st=K0 at*
   generalize st.map (fun q=>Qg q.2.2)=VS at*
   generalize Ye st=KS at*
   unfold G4 Xy
   simp[-look,kd0,kl,z3]
  ·unfold Ms
   split
   ·exact Zcf hk hf xl hg a
   ·split
    ·exact Zfy hk hf hg a
    ·exact Zfz hk hg a
 |some q=>
  obtain⟨kd,ps⟩:=q
  rw[hg]at kl
  have pl:=fw.at hg
  by_cases c3:3<H
  ·refine⟨_,fun a b=>Cs a b (hh a b _ _) (due:=OKD) (K':=Yd (Z1 (S k) (kd,Z1 (S f) (S t) ps) st)) ?_ hR (fun a=>?_) (.inl rfl),fw.put (S k) kd (Nat.le_trans (Ml _ _ ps) (by omega))⟩
   ·have a1:(Yd st).at' [.k (Sum.inr (S k))]=some (.dc (Ye ps) (Wb Qu ps)):=Sw hg
    have z:(Ye ps).length<PySem.sizeLine:=O0 (by rw[Rg];omega)
    have p1:Ux (Ye ps) (Wb Qu ps) (Sum.inr (S f)) (.lf (.str (S t)))=(Ye (Z1 (S f) (S t) ps),Wb Qu (Z1 (S f) (S t) ps)):=Ew Qu (S f) (S t) ps
    have u1:(Yd st).up [.k (Sum.inr (S k))] (.dc (Ye (Z1 (S f) (S t) ps)) (Wb Qu (Z1 (S f) (S t) ps)))=Yd (Z1 (S k) (kd,Z1 (S f) (S t) ps) st):=Sx _ hg
    generalize Yd (Z1 (S k) (kd,Z1 (S f) (S t) ps) st)=K' at*
    generalize Zk st=T at*
    generalize Yd st=K0 at*
    generalize st.map (fun q=>Qg q.2.2)=VS at*
    generalize Ye st=KS at*
    generalize Ye (Z1 (S f) (S t) ps)=KS' at*
    generalize Wb Qu (Z1 (S f) (S t) ps)=TS' at*
    generalize Ye ps=KP at*
    generalize Wb Qu ps=TP at*
    have n2:¬H=2:=by omega
    have n3:¬H=3:=by omega
    unfold G4 Xy
    simp[-look,-Tr.at',-Tr.up,-Ux,kd0,kl,n2,n3,a1,z,p1,u1]
   ·unfold Ms
    rw[if_pos c3]
    exact Zf0 hk hf hkd xl xp hg (by omega) a
  ·by_cases c2:2<H
   ·have e3:H=3:=by omega
    subst e3
    refine⟨_,fun a b=>Cs a b (hh a b _ _) (due:=OKD) (K':=Yd (Z1 (S k) (kd,Yw (S f) ps) st)) ?_ hR (fun a=>?_) (.inl rfl),fw.put (S k) kd (Nat.le_trans (Mm _ ps) (by omega))⟩
    ·have a1:(Yd st).at' [.k (Sum.inr (S k))]=some (.dc (Ye ps) (Wb Qu ps)):=Sw hg
     have p1:=Re Qu (S f) ps
     have u1:(Yd st).up [.k (Sum.inr (S k))] (.dc (Ye (Yw (S f) ps)) (Wb Qu (Yw (S f) ps)))=Yd (Z1 (S k) (kd,Yw (S f) ps) st):=Sx _ hg
     have same:Z8 (S f) ps=none->Yd (Z1 (S k) (kd,Yw (S f) ps) st)=Yd st:=fun e=>by
      rw[Mj _ _ e,U6 hg]
     generalize Yd (Z1 (S k) (kd,Yw (S f) ps) st)=K' at*
     generalize Zk st=T at*
     generalize Yd st=K0 at*
     generalize st.map (fun q=>Qg q.2.2)=VS at*
     generalize Ye st=KS at*
     generalize Ye (Yw (S f) ps)=KS' at*
     generalize Wb Qu (Yw (S f) ps)=TS' at*
     generalize Ye ps=KP at*
     generalize Wb Qu ps=TP at*
     unfold G4 Xy
     cases hF2:Z8 (S f) ps with
     |some x=>
      rw[hF2]at p1
      simp[-Wj]at p1
      simp[-look,-Tr.at',-Tr.up,-Wj,kd0,kl,a1,p1,u1]
     |none=>
      rw[hF2]at p1
      have st':=same hF2
      simp[-Wj]at p1
      simp[-look,-Tr.at',-Tr.up,-Wj,kd0,kl,a1,p1,st']
    ·unfold Ms
     rw[if_neg c3,if_pos c2]
     exact Zk3 hk hf hg a
   ·have e2:H=2:=by omega
    subst e2
    refine⟨_,fun a b=>Cs a b (hh a b _ _) (due:=OKD) (K':=Yd (Yw (S k) st)) ?_ hR (fun a=>?_) (.inl rfl),fw.del (S k)⟩
    ·have a1:(Yd st).at' []=some (.dc (Ye st) (Wb (fun q:Str×PS=>Wq q.2) st)):=rfl
     have p1:=Re (fun q:Str×PS=>Wq q.2) (S k) st
     have u1:(Yd st).up [] (.dc (Ye (Yw (S k) st)) (Wb (fun q:Str×PS=>Wq q.2) (Yw (S k) st)))=Yd (Yw (S k) st):=rfl
     rw[hg]at p1
     generalize Yd (Yw (S k) st)=K' at*
     generalize Zk st=T at*
     generalize Yd st=K0 at*
     generalize st.map (fun q=>Qg q.2.2)=VS at*
     generalize Ye (Yw (S k) st)=KS' at*
     generalize Wb (fun q:Str×PS=>Wq q.2) (Yw (S k) st)=TS' at*
     generalize Ye st=KS at*
     generalize Wb (fun q:Str×PS=>Wq q.2) st=TS at*
     simp[-Wj]at p1
     unfold G4 Xy
     simp[-look,-Tr.at',-Tr.up,-Wj,kd0,kl,a1,p1,u1]
    ·unfold Ms
     rw[if_neg c3,if_neg c2]
     exact Zk4 hk hg a
end My
set_option maxHeartbeats 8000000
namespace My
open DL PySem
noncomputable abbrev S1(a b:Addr)(T K:Tr)(KD FD:List D)(start:Int)(x5 x6 x7 x8:Option SV):Ya:=[some (.oG (some a) T),some (.oG (some b) K),some (.fz (.lst KD)),some (.fz (.lst FD)),some (.fz (.int start)),x5,x6,x7,x8]
theorem Zf5{d:D}(h:Gz d d=some (.fz (.bl true)))(hd:(∃s,d= .str s)\/∃k,d=NWD k):neX d d=some (.fz (.bl false)):=by
 rcases hd with⟨s,rfl⟩|⟨k,rfl⟩<;> simp
theorem Zcj{st:ST}{k f:List Nat}(a b:Addr)(hk:Nm k)(hf:Nm f)(KD FD:List D)(nk nf:Nat)(hkl:KD.length=nk)(hfl:FD.length=nf)(hk0:0<nk)(hk1:nk<=100)(hf0:0<nf)(hf1:nf<=100)(start i:Int)(h1:L2.atI KD ((i+start) % (nk:Int))=some (.str (S k)))(h2:L2.atI FD ((i+start) / (nk:Int) % (nf:Int))=some (.str (S f)))(x6 x7 x8:Option SV):
  ∃y6 y7 y8,Gen.Uk (S1 a b (Zk st) (Yd st) KD FD start (some (.fz (.int i))) x6 x7 x8)=some (.nx (S1 a b (Zk st) (Yd st) KD FD start (some (.fz (.int i))) y6 y7 y8)):=by
 have lK:Jx [.lst KD]=some (.fz (.int (nk:Int))):=by show some (SV.fz (D.int (KD.length:Int)))=_;rw[hkl]
 have lF:Jx [.lst FD]=some (.fz (.int (nf:Int))):=by show some (SV.fz (D.int (FD.length:Int)))=_;rw[hfl]
 have p1:(0:Int)<(nk:Int):=by omega
 have p2:(nk:Int)<1073741824:=by omega
 have p3:(0:Int)<(nf:Int):=by omega
 have ai:Yk (.int i) (.int start)=some (.fz (.int (i+start))):=rfl
 generalize (nk:Int)=NK at*
 generalize (nf:Int)=NF at*
 have kl:=Ki st (S k)
 have kd0:=Sz st
 have hK:Zfr st= .dK (Ye st) (st.map fun q=>Qg q.2.2):=rfl
 rw[hK]at kd0
 have hR:(Zk st).isRef=true:=rfl
 have z3:3<=PySem.sizeLine:=by decide
 have s1:=By (a:=[104,97,115,32]) (b:=k) (by have:=hk.2.1;simp;omega)
 have s2:=By (a:=[104,97,115,32]++k) (b:=[32]) (by have:=hk.2.1;simp;omega)
 have s3:=By (a:=[104,97,115,32]++k++[32]) (b:=f) (by have:=hk.2.1;have:=hf.2.1;simp;omega)
 rw[show[104,97,115,32]++k++[32]++f=jl [32] [HAS,k,f] by show _=HAS++[32]++(k++[32]++f);simp]at s3
 generalize S ([104,97,115,32]++k++[32])=R2 at s2 s3
 generalize S ([104,97,115,32]++k)=R1 at s1 s2
 cases hg:Z8 (S k) st with
 |none=>
  have ht:=fun a=>Zk2 (st:=st) hk hf hg a
  rw[hg]at kl
  refine⟨some (.fz (.str (S k))),some (.fz (.str (S f))),some (.fz (NWD (S k))),?_⟩
  generalize Zk st=T at*
  generalize Yd st=K0 at*
  generalize st.map (fun q=>Qg q.2.2)=VS at*
  generalize Ye st=KS at*
  generalize S (jl [32] [HAS,k,f])=row at*
  have hc:=Ri (a:=a) (e:=Zj Yk (Zj Yk (Zj Yk (Zd (.str "has ")) (Za 6)) (Zd (.str " "))) (Za 7)) (δ:=S1 a b T K0 KD FD start (some (.fz (.int i))) (some (.fz (.str (S k)))) (some (.fz (.str (S f)))) (some (.fz (NWD (S k))))) rfl hR (by simp[-Yk,Zow,Kd,s1,s2,s3]) ht
  have hne:=Zf5 (Zhj (S k)) (.inr ⟨_,rfl⟩)
  unfold Gen.Uk S1
  simp[-Yk,-look,-Jx,ai,lK,lF,p1,p2,p3,h1,h2,z3,kd0,kl]
  simp[S1]at hc
  simp[hc]
 |some q=>
  obtain⟨kn,ps⟩:=q
  have ht:=fun a=>Zos (st:=st) hk hf hg a
  rw[hg]at kl
  have fl:=Cq ps (S f)
  refine⟨some (.fz (.str (S k))),some (.fz (.str (S f))),some (.fz (.str ((Z8 (S f) ps).getD ""))),?_⟩
  have hf0:Qg ps= .dK (Ye ps) (ps.map fun q=>.str q.2):=rfl
  have kl:look (Ye st) (st.map fun q=>Qg q.2.2) (Sum.inr (S k))=some (.dK (Ye ps) (ps.map fun q=>.str q.2)):=kl
  have fl2:(look (Ye ps) (ps.map fun q=>D.str q.2) (Sum.inr (S f))).getD (.str "")= .str ((Z8 (S f) ps).getD ""):=by
   rw[fl];cases Z8 (S f) ps<;> rfl
  generalize (Z8 (S f) ps).getD ""=tx at*
  generalize Zk st=T at*
  generalize Yd st=K0 at*
  generalize st.map (fun q=>Qg q.2.2)=VS at*
  generalize Ye st=KS at*
  clear fl hf0
  generalize Ye ps=KP at*
  generalize (ps.map fun q=>D.str q.2)=VP at*
  generalize S (jl [32] [HAS,k,f])=row at*
  have hc:=Ri (a:=a) (e:=Zj Yk (Zj Yk (Zj Yk (Zd (.str "has ")) (Za 6)) (Zd (.str " "))) (Za 7)) (δ:=S1 a b T K0 KD FD start (some (.fz (.int i))) (some (.fz (.str (S k)))) (some (.fz (.str (S f)))) (some (.fz (.str tx)))) rfl hR (by simp[-Yk,Zow,Kd,s1,s2,s3]) ht
  unfold Gen.Uk S1
  simp[-Yk,-look,-Jx,ai,lK,lF,p1,p2,p3,h1,h2,z3,kd0,kl,fl2]
  simp[S1]at hc
  simp[fl2,hc]
end My
set_option maxHeartbeats 8000000
namespace My
open DL PySem
noncomputable abbrev Qe(ks:List (List Nat)):List D:=ks.map fun k=>D.str (S k)
theorem Ey(ks:List (List Nat))(m:Int)(n:Nat)(hn:ks.length=n)(h0:0<n):∃k∈ks,L2.atI (Qe ks) (m % (n:Int))=some (.str (S k)):=by
 have a0:0<=m % (n:Int):=Int.emod_nonneg _ (by omega)
 have a1:m % (n:Int)<(n:Int):=Int.emod_lt_of_pos _ (by omega)
 obtain⟨j,hj⟩:=Int.eq_ofNat_of_zero_le a0
 rw[hj]
 have hl:j<ks.length:=by omega
 exact⟨ks[j],List.getElem_mem hl,Ot _ _ _ (by rw[List.getElem?_map,List.getElem?_eq_getElem hl];rfl)⟩
theorem Zck{st:ST}(a b:Addr)(ks fs:List (List Nat))(hk:∀k∈ks,Nm k)(hf:∀f∈fs,Nm f)(nk nf:Nat)(hkl:ks.length=nk)(hfl:fs.length=nf)(hk0:0<nk)(hk1:nk<=20)(hf0:0<nf)(hf1:nf<=20)(start:Int):
  Gen.Qj [a,b] [Zk st,Yd st] [.lst (Qe ks),.lst (Qe fs),.int start]=some (.v (.bl true) [Zk st,Yd st]):=by
 have l1:(Qe ks).length=nk:=by rw[List.length_map];exact hkl
 have l2:(Qe fs).length=nf:=by rw[List.length_map];exact hfl
 have lK:Jx [.lst (Qe ks)]=some (.fz (.int (nk:Int))):=by show some (SV.fz (D.int ((Qe ks).length:Int)))=_;rw[l1]
 have lF:Jx [.lst (Qe fs)]=some (.fz (.int (nf:Int))):=by show some (SV.fz (D.int ((Qe fs).length:Int)))=_;rw[l2]
 have hm:Ed (nk:Int) (nf:Int)=some (.fz (.int ((nk*nf:Nat):Int))):=by
  rw[Za7 (by omega)];simp
 have hle:nk*nf<=400:=Nat.le_trans (Nat.mul_le_mul hk1 hf1) (by decide)
 have g1:Im ((nk*nf:Nat):Int):=Cc (by omega)
 have et:(((nk*nf:Nat):Int)).toNat=nk*nf:=by omega
 obtain⟨δ',e,x5,x6,x7,x8,hδ⟩:=O1 (tg:=Yq 5) (body:=Gen.Uk) (P:=fun i δ=>∃x5 x6 x7 x8,δ=S1 a b (Zk st) (Yd st) (Qe ks) (Qe fs) start x5 x6 x7 x8) (nk*nf) 0 (S1 a b (Zk st) (Yd st) (Qe ks) (Qe fs) start none none none none) ⟨_,_,_,_,rfl⟩ (fun i _ hi δ ⟨x5,x6,x7,x8,hδ⟩=>by
  subst hδ
  obtain⟨k,hkm,e1⟩:=Ey ks ((i:Int)+start) nk hkl hk0
  obtain⟨f,hfm,e2⟩:=Ey fs (((i:Int)+start) / (nk:Int)) nf hfl hf0
  obtain⟨y6,y7,y8,e3⟩:=Zcj (st:=st) a b (hk k hkm) (hf f hfm) (Qe ks) (Qe fs) nk nf l1 l2 hk0 (by omega) hf0 (by omega) start (i:Int) e1 e2 x6 x7 x8
  exact⟨_,_,rfl,e3,_,_,_,_,rfl⟩)
 subst hδ
 have hF:Gen.Ul (S1 a b (Zk st) (Yd st) (Qe ks) (Qe fs) start none none none none)=some (.rg (.bl true) (S1 a b (Zk st) (Yd st) (Qe ks) (Qe fs) start x5 x6 x7 x8)):=by
  have en:Uh (nk*nf)=Uh (nk*nf):=rfl
  have hin:=Uh (nk*nf)
  generalize hn:((nk*nf:Nat):Int)=NN at*
  generalize nk*nf=NM at*
  generalize Qe ks=KD at*
  generalize Qe fs=FD at*
  generalize Zk st=T at*
  generalize Yd st=K0 at*
  generalize (nk:Int)=NK at*
  generalize (nf:Int)=NF at*
  unfold S1 at e⊢
  unfold Gen.Ul
  simp[-Ue,-Jx,lK,lF,hm,g1,et,hin,e]
 show Jy Gen.Ul 9 [a,b] [Zk st,Yd st] [.lst (Qe ks),.lst (Qe fs),.int start]=_
 unfold Jy
 rw[show Uy 9 [a,b] [Zk st,Yd st] [.lst (Qe ks),.lst (Qe fs),.int start]=S1 a b (Zk st) (Yd st) (Qe ks) (Qe fs) start none none none none from rfl,hF]
 simp
end My
set_option maxHeartbeats 8000000
namespace My
open DL PySem
theorem Zcl{g:GG}{fd:FD}{δ:Ya}{fp:FP}{w:Nat}{A B:List Tr}{u v u' v':Tr}{d:D}{ds:List D}(h3:δ[3]? =some (some (.oG none (.ls A))))(h4:δ[4]? =some (some (.oG none (.ls B))))(hp:fp δ=some [.i w])(hA:A[w]? =some u)(hB:B[w]? =some v)(ru:u.isRef=true)(rv:v.isRef=true)(hd:fd δ=some (ds,δ))(hn:ds.length=3)(hg:∀a b,g [a,b] [u,v] ds=some (.v d [u',v'])):
  Jd 3 4 fp fp 3 g fd δ=some (.v d ((δ.set 3 (some (.oG none (.ls (A.set w u'))))).set 4 (some (.oG none (.ls (B.set w v')))))):=by
 have t3:Z0 δ 3=some (.ls A):=by unfold Z0;rw[h3]
 have t4:Z0 δ 4=some (.ls B):=by unfold Z0;rw[h4]
 have p3:Wv δ 3=none:=by unfold Wv;rw[h3]
 have p4:Wv δ 4=none:=by unfold Wv;rw[h4]
 have a1:(Tr.ls A).at' [.i w]=some u:=by show(A[w]?).bind _=_;rw[hA];rfl
 have a2:(Tr.ls B).at' [.i w]=some v:=by show(B[w]?).bind _=_;rw[hB];rfl
 have u1:(Tr.ls A).up [.i w] u'= .ls (A.set w u'):=by show(match A[w]? with|some c=>Tr.ls (A.set w u')|none=>_)=_;rw[hA]
 have u2:(Tr.ls B).up [.i w] v'= .ls (B.set w v'):=by show(match B[w]? with|some c=>Tr.ls (B.set w v')|none=>_)=_;rw[hB]
 rw[Xh (δ1:=δ) (o:=.v d [u',v']) hp hp t3 a1 t4 a2 hd hn (by decide) t3 a1 t4 a2 ⟨ru,rv,rfl,rfl⟩ hg]
 unfold P2
 dsimp only
 rw[p3,p4,u1,u2]
theorem Zoz:∀a,Gen.Uj [a] [.ob "Desk" [] []] []=some (.v .non [Zk []]):=fun a=>by
 have h:Gen.Cn [some (.oG (some a) (.ob "Desk" [] []))]=some (.nx [some (.oG (some a) (Zk []))]):=by kernel_rfl
 show Jy Gen.Cn 1 [a] [.ob "Desk" [] []] []=_
 unfold Jy
 rw[show Uy 1 [a] [.ob "Desk" [] []] []=[some (.oG (some a) (.ob "Desk" [] []))]from rfl,h]
 simp
theorem Nd{α:Type}:∀{l:List α} {w:Nat} {x:α},l[w]? =some x->l.set w x=l
 | [],_,_,h=>by simp at h
 |y::r,0,x,h=>by simp at h;subst h;rfl
 |y::r,w+1,x,h=>by simp at h;show y::r.set w x=_;rw[Nd h]
noncomputable abbrev O5(sc:D)(KD FD:List D)(A B:List Tr)(x5 x6 x7 x8 x9:Option SV):Ya:=[some (.fz sc),some (.fz (.lst KD)),some (.fz (.lst FD)),some (.oG none (.ls A)),some (.oG none (.ls B)),x5,x6,x7,x8,x9]
noncomputable abbrev Jh(s:List ST):List Tr:=s.map Zk
noncomputable abbrev Ji(s:List ST):List Tr:=s.map Yd
noncomputable abbrev NTE:List Nat:=[110,111,116,101]
theorem Zhl:Str.ofString "note"=S NTE:=by decide+kernel
theorem Zcm:Nm NTE:=by unfold Nm;decide
theorem Ag{s:List ST}{w:Nat}{st:ST}(hs:s[w]? =some st)(sc:D)(ks fs:List (List Nat))(hk:∀k∈ks,Nm k)(hf:∀f∈fs,Nm f)(hkl:ks.length=4)(hfl:fs.length=3)(M:Int)(x5 x6 x8:Option SV):
  Gen.O2 (O5 sc (Qe ks) (Qe fs) (Jh s) (Ji s) x5 x6 (some (.fz (.int M))) x8 (some (.fz (.int (w:Int)))))=some (.nx (O5 sc (Qe ks) (Qe fs) (Jh s) (Ji s) x5 x6 (some (.fz (.int M))) x8 (some (.fz (.int (w:Int)))))):=by
 have hA:(Jh s)[w]? =some (Zk st):=by rw[List.getElem?_map,hs];rfl
 have hB:(Ji s)[w]? =some (Yd st):=by rw[List.getElem?_map,hs];rfl
 have hg:=fun a b=>Zck (st:=st) a b ks (fs++[NTE]) hk (fun f hm=>(List.mem_append.mp hm).elim (hf f) fun z=>by obtain rfl:=List.mem_singleton.mp z;exact Zcm) 4 4 hkl (by simp[hfl]) (by decide) (by decide) (by decide) (by decide) (M % 16)
 have en:Qe (fs++[NTE])=Qe fs++[.str "note"]:=by show(fs++[NTE]).map _=_;rw[List.map_append,Zhl];rfl
 rw[en]at hg
 have l2:(Qe fs).length=3:=by rw[List.length_map];exact hfl
 have z1:(Qe fs).length+1<=PySem.sizeLine:=Qm (by omega)
 have h0:Yk (.lst (Qe fs)) (.lst [.str "note"])=some (.ol (Qe fs++[.str "note"])):=by simp only[Yk];simp[l2,show 3+1<=PySem.sizeLine by decide]
 have sA:(Jh s).set w (Zk st)=Jh s:=Nd hA
 have sB:(Ji s).set w (Yd st)=Ji s:=Nd hB
 have zz:1<=PySem.sizeLine:=by decide
 clear z1 l2 hkl hfl hk hf en
 generalize Qe ks=KD at*
 generalize Qe fs=FD at*
 generalize Jh s=A at*
 generalize Ji s=B at*
 have hp:Xx 9 Oq (O5 sc KD FD A B x5 x6 (some (.fz (.int M))) x8 (some (.fz (.int (w:Int)))))=some [.i w]:=by
  simp[O5]
 have hd:Zi (Za 1) (Zi (Zj Yk (Za 2) (Ca (Zi (Zd (.str "note")) (Zm)))) (Zi (Zj Ut (Za 7) (Zd (.int 16))) Zm)) (O5 sc KD FD A B x5 x6 (some (.fz (.int M))) x8 (some (.fz (.int (w:Int)))))=some ([.lst KD,.lst (FD++[.str "note"]),.int (M % 16)],O5 sc KD FD A B x5 x6 (some (.fz (.int M))) x8 (some (.fz (.int (w:Int))))):=by
  simp[-Yk,h0,zz,O5]
 have hc:=Zcl (g:=Gen.Qj) (fp:=Xx 9 Oq) (w:=w) rfl rfl hp hA hB rfl rfl hd rfl hg
 unfold Gen.O2
 show(Jd 3 4 _ _ 3 _ _ _).bind _=_
 rw[hc,sA,sB]
 rfl
end My
set_option maxHeartbeats 8000000
namespace My
open DL PySem
theorem Zcn{n:Nat}{k f:List Nat}{st:ST}(hk:Nm k)(hf:Nm f)(hkd:¬S f=Str.ofString "kind")(fw:Few n st)(hn:n<=100)(FD:List D)(M:Int)(hF:L2.atI (FD++[.str "note"]) (M / 8 % 4)=some (.str (S f)))(hFl:FD.length<=100):
  ∃st',(∀a b:Addr,Gen.Yv [a,b] [Zk st,Yd st] [.str (S k),.lst FD,.int M]=some (.v (.bl true) [Zk st',Yd st']))/\Few (n+1) st':=by
 have h0:0<=M % 8:=Int.emod_nonneg _ (by decide)
 by_cases h:M % 8<2
 ·obtain⟨kd,e⟩:=Xq (st:=st) hk (by have:=fw.w;omega) FD (S f) M (M % 8) rfl (by omega) hF hFl
  exact⟨_,e,fw.put (S k) kd (Nat.zero_le _)⟩
 ·exact Xs hk hf hkd fw hn FD M (M % 8) rfl (by omega) hF hFl
theorem Zco:Gm 0 2=[.int 0,.int 1]:=by rfl
theorem Xt{n:Nat}{s:List ST}(hs:s.length=2)(fw:∀st∈s,Few n st)(hn:n<=90)(sc:D)(ks fs:List (List Nat))(hk:∀k∈ks,Nm k)(hf:∀f∈fs,Nm f)(hq:∀f∈fs,¬S f=Str.ofString "kind")(hkl:ks.length=4)(hfl:fs.length=3)(i c:Int)(x7 x8 x9:Option SV):
  ∃s' y7 y8 y9,Gen.Co (O5 sc (Qe ks) (Qe fs) (Jh s) (Ji s) (some (.fz (.int i))) (some (.fz (.int c))) x7 x8 x9)=some (.nx (O5 sc (Qe ks) (Qe fs) (Jh s') (Ji s') (some (.fz (.int i))) (some (.fz (.int c))) y7 y8 y9))/\s'.length=2/\∀st∈s',Few (n+1) st:=by
 have hM:=Zca (c+i) 48271
 generalize hMe:(c+i) % 2147483647*48271 % 2147483647=M at hM
 have w0:0<=M / 1024 % 3:=Int.emod_nonneg _ (by decide)
 have w1:M / 1024 % 3<3:=Int.emod_lt_of_pos _ (by decide)
 obtain⟨w,hw⟩:∃w:Nat,(w:Int)=M / 1024 % 3 / 2:=⟨(M / 1024 % 3 / 2).toNat,by omega⟩
 have hw2:w<s.length:=by omega
 obtain⟨st,hst⟩:∃st,s[w]? =some st:=⟨s[w],List.getElem?_eq_getElem hw2⟩
 obtain⟨k,hkm,ek⟩:=Ey ks (M / 4096) 4 hkl (by decide)
 obtain⟨f,hfm,ef⟩:=Ey (fs++[NTE]) (M / 8) 4 (by simp[hfl]) (by decide)
 have en:Qe (fs++[NTE])=Qe fs++[.str "note"]:=by show(fs++[NTE]).map _=_;rw[List.map_append,Zhl];rfl
 rw[en]at ef
 have hfn:Nm f/\¬S f=Str.ofString "kind":=by
  rcases List.mem_append.mp hfm with z|z
  ·exact⟨hf f z,hq f z⟩
  ·obtain rfl:=List.mem_singleton.mp z
   exact⟨Zcm,by decide+kernel⟩
 have l2:(Qe fs).length=3:=by rw[List.length_map];exact hfl
 obtain⟨st',hg,fw'⟩:=Zcn (st:=st) (hk k hkm) hfn.1 hfn.2 (fw st (List.mem_of_getElem? hst)) (by omega) (Qe fs) M ef (by omega)
 have hA:(Jh s)[w]? =some (Zk st):=by rw[List.getElem?_map,hst];rfl
 have hB:(Ji s)[w]? =some (Yd st):=by rw[List.getElem?_map,hst];rfl
 have sA:(Jh s).set w (Zk st')=Jh (s.set w st'):=by show(s.map Zk).set w _=(s.set w st').map Zk;rw[List.map_set]
 have sB:(Ji s).set w (Yd st')=Ji (s.set w st'):=by show(s.map Yd).set w _=(s.set w st').map Yd;rw[List.map_set]
 have hl':(s.set w st').length=2:=by rw[List.length_set];exact hs
 obtain⟨t0,ht0⟩:∃t,(s.set w st')[0]? =some t:=⟨_,List.getElem?_eq_getElem (by omega)⟩
 obtain⟨t1,ht1⟩:∃t,(s.set w st')[1]? =some t:=⟨_,List.getElem?_eq_getElem (by omega)⟩
 have k0:=Ag ht0 sc ks fs hk hf hkl hfl M (some (.fz (.int i))) (some (.fz (.int c))) (some (.fz (.int (w:Int))))
 have k1:=Ag ht1 sc ks fs hk hf hkl hfl M (some (.fz (.int i))) (some (.fz (.int c))) (some (.fz (.int (w:Int))))
 have few':∀st∈s.set w st',Few (n+1) st:=fun x hx=>by
  rcases List.mem_or_eq_of_mem_set hx with z|z
  ·exact(fw x z).up
  ·rw[z];exact fw'
 refine⟨s.set w st',some (.fz (.int M)),some (.fz (.int (w:Int))),some (.fz (.int 1)),?_,hl',few'⟩
 generalize hAs:Jh (s.set w st')=A' at*
 generalize hBs:Ji (s.set w st')=B' at*
 clear hkl hfl hk hf en l2
 generalize Qe ks=KD at*
 generalize Qe fs=FD at*
 generalize Jh s=A at*
 generalize Ji s=B at*
 have hp:Xx 8 Oq (O5 sc KD FD A B (some (.fz (.int i))) (some (.fz (.int c))) (some (.fz (.int M))) (some (.fz (.int (w:Int)))) x9)=some [.i w]:=by
  simp[O5]
 have ek:L2.atI KD (M / 4096 % 4)=some (.str (S k)):=ek
 have hd:Zi (Zj Bq (Za 1) (Zj Ut (Zj U9 (Za 7) (Zj Vv (Zd (.int 2)) (Zd (.int 12)))) (Zd (.int 4)))) (Zi (Za 2) (Zi (Za 7) Zm)) (O5 sc KD FD A B (some (.fz (.int i))) (some (.fz (.int c))) (some (.fz (.int M))) (some (.fz (.int (w:Int)))) x9)=some ([.str (S k),.lst FD,.int M],O5 sc KD FD A B (some (.fz (.int i))) (some (.fz (.int c))) (some (.fz (.int M))) (some (.fz (.int (w:Int)))) x9):=by
  simp[O5,ek]
 have hc:=Zcl (g:=Gen.Yv) (fp:=Xx 8 Oq) (w:=w) rfl rfl hp hA hB rfl rfl hd rfl hg
 rw[sA,sB]at hc
 have hc:Jd 3 4 (Xx 8 Oq) (Xx 8 Oq) 3 Gen.Yv (Zi (Zj Bq (Za 1) (Zj Ut (Zj U9 (Za 7) (Zj Vv (Zd (.int 2)) (Zd (.int 12)))) (Zd (.int 4)))) (Zi (Za 2) (Zi (Za 7) Zm))) (O5 sc KD FD A B (some (.fz (.int i))) (some (.fz (.int c))) (some (.fz (.int M))) (some (.fz (.int (w:Int)))) x9)=some (.v (.bl true) (O5 sc KD FD A' B' (some (.fz (.int i))) (some (.fz (.int c))) (some (.fz (.int M))) (some (.fz (.int (w:Int)))) x9)):=hc
 have lp:Ue (Yq 9) Gen.O2 [.int 0,.int 1] (O5 sc KD FD A' B' (some (.fz (.int i))) (some (.fz (.int c))) (some (.fz (.int M))) (some (.fz (.int (w:Int)))) x9)=some (.nx (O5 sc KD FD A' B' (some (.fz (.int i))) (some (.fz (.int c))) (some (.fz (.int M))) (some (.fz (.int (w:Int)))) (some (.fz (.int 1))))):=by
  show(some (O5 sc KD FD A' B' (some (.fz (.int i))) (some (.fz (.int c))) (some (.fz (.int M))) (some (.fz (.int (w:Int)))) (some (.fz (.int 0))))).bind _=_
  rw[Option.bind_some,show Gen.O2 (O5 sc KD FD A' B' (some (.fz (.int i))) (some (.fz (.int c))) (some (.fz (.int M))) (some (.fz (.int (w:Int)))) (some (.fz (.int 0))))=_ from k0,Option.bind_some]
  show(some (O5 sc KD FD A' B' (some (.fz (.int i))) (some (.fz (.int c))) (some (.fz (.int M))) (some (.fz (.int (w:Int)))) (some (.fz (.int 1))))).bind _=_
  rw[Option.bind_some,show Gen.O2 (O5 sc KD FD A' B' (some (.fz (.int i))) (some (.fz (.int c))) (some (.fz (.int M))) (some (.fz (.int (w:Int)))) (some (.fz (.int 1))))=_ from k1]
  rfl
 have g2:Im (2:Int):=Cc (n:=2) (by decide)
 have ti:=Zco
 unfold O5 at*
 unfold Gen.Co
 simp[-Ue,hM,<-hw,g2,ti]
 simp at hc
 simp[-Ue,hc,lp]
end My
set_option maxHeartbeats 8000000
namespace My
open DL PySem
noncomputable abbrev tgL:FG:=Tt 2 (Bm (Yq 5) (Bm (Yq 6) (Ij)))
theorem Kj(sc:D)(ks fs:List (List Nat))(hk:∀k∈ks,Nm k)(hf:∀f∈fs,Nm f)(hq:∀f∈fs,¬S f=Str.ofString "kind")(hkl:ks.length=4)(hfl:fs.length=3):∀(cs:List Int) (j n:Nat) (s:List ST) (x5 x6 x7 x8 x9:Option SV),s.length=2->(∀st∈s,Few n st)->n+cs.length<=90->
  ∃s' y5 y6 y7 y8 y9,Ue tgL Gen.Co (Fv j (cs.map D.int)) (O5 sc (Qe ks) (Qe fs) (Jh s) (Ji s) x5 x6 x7 x8 x9)=some (.nx (O5 sc (Qe ks) (Qe fs) (Jh s') (Ji s') y5 y6 y7 y8 y9))/\s'.length=2
 | [],j,n,s,x5,x6,x7,x8,x9,hs,fw,hn=>⟨s,x5,x6,x7,x8,x9,rfl,hs⟩
 |c::cs,j,n,s,x5,x6,x7,x8,x9,hs,fw,hn=>by
  have hn':n+(cs.length+1)<=90:=hn
  obtain⟨s1,y7,y8,y9,e,hs1,fw1⟩:=Xt hs fw (by omega) sc ks fs hk hf hq hkl hfl (j:Int) c x7 x8 x9
  obtain⟨s2,z5,z6,z7,z8,z9,e2,hs2⟩:=Kj sc ks fs hk hf hq hkl hfl cs (j+1) (n+1) s1 (some (.fz (.int (j:Int)))) (some (.fz (.int c))) y7 y8 y9 hs1 fw1 (by omega)
  refine⟨s2,z5,z6,z7,z8,z9,?_,hs2⟩
  refine(Sd (δ1:=O5 sc (Qe ks) (Qe fs) (Jh s) (Ji s) (some (.fz (.int (j:Int)))) (some (.fz (.int c))) x7 x8 x9) ?_ e).trans e2
  simp[O5]
theorem Zk8:Str.ofString "kind"=S [107,105,110,100]:=by decide+kernel
theorem Zcp:∀ws:List Str,(∀w∈ws,NmW w)->∃ks:List (List Nat),ws.map D.str=Qe ks/\ks.length=ws.length/\∀k∈ks,Nm k/\¬S k=Str.ofString "kind"
 | [],_=>⟨[],rfl,rfl,fun _ h=>nomatch h⟩
 |w::ws,h=>by
  obtain⟨ks,e,l,hk⟩:=Zcp ws fun x hx=>h x (List.mem_cons_of_mem _ hx)
  obtain⟨k,rfl,hn,hc⟩:=h w List.mem_cons_self
  refine⟨k::ks,?_,by simp[l],fun x hx=>?_⟩
  ·show D.str (S k)::ws.map D.str=D.str (S k)::Qe ks
   rw[e]
  ·rcases List.mem_cons.mp hx with z|z
   ·subst z
    refine⟨⟨hn.1,hn.2.1,hn.2.2.1⟩,fun z=>?_⟩
    rw[Zk8]at z
    have:=Zhe z
    exact(hc 105 (by rw[this];decide)).1 rfl
   ·exact hk x z
theorem Zcq(ns:List Int)(lo hi:Option Int):∃cs:List Int,Zab (ns.map D.int) lo hi=cs.map D.int/\cs.length<=ns.length:=by
 unfold Zab
 refine⟨(ns.drop _).take _,by rw[List.map_take,List.map_drop],?_⟩
 rw[List.length_take,List.length_drop]
 omega
theorem law_true(ns:List Int)(hns:ns.length<=63):Gen.Sf [.lst (ns.map D.int)]=some (.fz (.bl true)):=by
 obtain⟨c0,hc0⟩:=Sh ns 0
 obtain⟨c1,hc1⟩:=Sh ns 1
 have m0:=Zca c0 16807
 have m1:=Zca c1 16807
 obtain⟨ws0,n0,l0,_,a0⟩:=Kb (c0 % 2147483647*16807 % 2147483647) (Si c0 16807) 4 (by decide)
 obtain⟨ws1,n1,l1,_,a1⟩:=Kb (c1 % 2147483647*16807 % 2147483647) (Si c1 16807) 3 (by decide)
 obtain⟨ks,ek,lk,hk⟩:=Zcp ws0 a0
 obtain⟨fs,ef,lf,hf⟩:=Zcp ws1 a1
 rw[ek]at n0
 rw[ef]at n1
 rw[l0]at lk
 rw[l1]at lf
 obtain⟨cs,ecs,lcs⟩:=Zcq ns (some 2) (some 22)
 obtain⟨s',y5,y6,y7,y8,y9,e,hs'⟩:=Kj (.lst (ns.map D.int)) ks fs (fun k h=>(hk k h).1) (fun k h=>(hf k h).1) (fun k h=>(hf k h).2) lk lf cs 0 0 [[],[]] none none none none none rfl (fun st h=>by
  have:st=[]:=by simpa using h
  subst this
  exact⟨Nat.le_refl _,fun q hq=>nomatch hq⟩) (by omega)
 have hmk:∀δ,Gq "Desk" Gen.Uj δ=some (.tmp (.oG none (Zk [])),δ):=fun δ=>Zbw Zoz
 obtain⟨t0,ht0⟩:∃t,s'[0]? =some t:=⟨_,List.getElem?_eq_getElem (by omega)⟩
 have hA:(Jh s')[0]? =some (Zk t0):=by rw[List.getElem?_map,ht0];rfl
 have hB:(Ji s')[0]? =some (Yd t0):=by rw[List.getElem?_map,ht0];rfl
 have hg:=fun a b=>Zck (st:=t0) a b ks fs (fun k h=>(hk k h).1) (fun k h=>(hf k h).1) 4 3 lk lf (by decide) (by decide) (by decide) (by decide) 0
 have i0:((0:Nat):Int)=0:=rfl
 have i1:((1:Nat):Int)=1:=rfl
 have i4:((4:Nat):Int)=4:=rfl
 have i3:((3:Nat):Int)=3:=rfl
 rw[i0]at hc0
 rw[i1]at hc1
 rw[i4]at n0
 rw[i3]at n1
 have en:=Zfp (cs.map D.int)
 clear ek ef
 generalize hD0:Qe ks=KD at*
 generalize hD1:Qe fs=FD at*
 generalize c0 % 2147483647*16807 % 2147483647=X0 at*
 generalize c1 % 2147483647*16807 % 2147483647=X1 at*
 have hd:Zi (Za 1) (Zi (Za 2) (Zi (Zd (.int 0)) Zm)) (O5 (.lst (ns.map D.int)) KD FD (Jh s') (Ji s') y5 y6 y7 y8 y9)=some ([.lst KD,.lst FD,.int 0],O5 (.lst (ns.map D.int)) KD FD (Jh s') (Ji s') y5 y6 y7 y8 y9):=by
  simp[O5]
 have hc:=Zcl (g:=Gen.Qj) (fp:=plI 0 Oq) (w:=0) (δ:=O5 (.lst (ns.map D.int)) KD FD (Jh s') (Ji s') y5 y6 y7 y8 y9) rfl rfl rfl hA hB rfl rfl hd rfl hg
 have e:Ue tgL Gen.Co (Fv 0 (cs.map D.int)) (O5 (.lst (ns.map D.int)) KD FD [Zk [],Zk []] [.dc [] [],.dc [] []] none none none none none)=some (.nx (O5 (.lst (ns.map D.int)) KD FD (Jh s') (Ji s') y5 y6 y7 y8 y9)):=e
 generalize ns.map D.int=NS at*
 generalize Zk []=D0 at*
 generalize Jh s'=A at*
 generalize Ji s'=B at*
 have hf1:∀δ,Gen.Fy δ=Gen.Fy δ:=fun _=>rfl
 unfold O5 at*
 unfold Gen.Sf Gen.Fy
 simp[-Ue,-Jx,hc0,hc1,m0,m1,n0,n1,hmk,ecs,en,e]
 simp at hc
 simp[hc]
end My
def PySem.W.Fast.tw16684284248886155660:=()
def PySem.W.Fast.tw14100357058125151544:=()
def PySem.W.Fast.tw9943440640466191483:=()
def PySem.W.Fast.tw1222803581596994193:=()
def PySem.W.Fast.tw13001834869565661786:=()
def PySem.W.Fast.tw18121188715273875656:=()
def PySem.W.Fast.tw14989889992181038162:=()
def PySem.W.Fast.tw6724222727108050902:=()
def PySem.W.Fast.tw13094282330343732982:=()
def PySem.W.Fast.tw7501354009840370718:=()
def PySem.W.Fast.tw3394505996007088276:=()
def PySem.W.Fast.tw5944537454906135734:=()
def PySem.W.Fast.tw11987519909684202441:=()
def PySem.W.Fast.tw9819740828985138524:=()
def PySem.W.Fast.tw8822203561024435576:=()
def PySem.W.Fast.tw5823009222928809336:=()
def PySem.W.Fast.tw3543364130717601946:=()
def PySem.W.Fast.tw689399606787227738:=()
def PySem.W.Fast.tw16911425131638118107:=()
def PySem.W.Fast.tw1172140209664318238:=()
def PySem.W.Fast.tw5287092796322427004:=()
def PySem.W.Fast.tw4358664962720196189:=()
def PySem.W.Fast.tw18110517479651182650:=()
def PySem.W.Fast.tw11226759496033638056:=()
def PySem.W.Fast.tw72065403812419132:=()
def PySem.W.Fast.tw17838111311957148443:=()
def PySem.W.Fast.tw13566913573916251800:=()
def PySem.W.Fast.tw4869973167043092517:=()
def PySem.W.Fast.tw15607111724972417022:=()
def PySem.W.Fast.tw3891933201864794195:=()
def PySem.W.Fast.tw5171788004321588347:=()
def PySem.W.Fast.tw16484763131180531228:=()
def PySem.W.Fast.tw1897642947780592039:=()
def PySem.W.Fast.tw9558956627681353690:=()
def PySem.W.Fast.tw15500167631667945002:=()
def PySem.W.Fast.tw17666533574691822175:=()
def PySem.W.Fast.tw14493731061164206560:=()
def PySem.W.Fast.tw8766259809823158054:=()
def PySem.W.Fast.tw9515430235468832572:=()
def PySem.W.Fast.tw7443305349476187193:=()
def PySem.W.Fast.tw7535842998601515003:=()
def PySem.W.Fast.tw1719002319951072345:=()
def PySem.W.Fast.tw10133716707471012848:=()
def PySem.W.Fast.tw4290212930494594864:=()
def PySem.W.Fast.tw9326707604743722201:=()
def PySem.W.Fast.tw8842399046406622986:=()
def PySem.W.Fast.tw1926966289973349985:=()
def PySem.W.Fast.tw8631618911114103935:=()
def PySem.W.Fast.tw9056792227722095928:=()
def PySem.W.Fast.tw8702605539221196710:=()
def PySem.W.Fast.tw5110882275657555899:=()
def PySem.W.Fast.tw2080599946965632049:=()
def PySem.W.Fast.tw12803885132452234048:=()
def PySem.W.Fast.tw732072279678861613:=()
def PySem.W.Fast.tw8195460864169641654:=()
def PySem.W.Fast.tw15831293193719595167:=()
def PySem.W.Fast.tw5847610146199669624:=()
def PySem.W.Fast.tw6379861245212960007:=()
def PySem.W.Fast.tw17944911932260738548:=()
def PySem.W.Fast.tw1722335541599738852:=()
def PySem.W.Fast.tw5110935659385994131:=()
def PySem.W.Fast.tw15033018488259900657:=()
def PySem.W.Fast.tw13399542977528333904:=()
def PySem.W.Fast.tw918563625796273942:=()
def PySem.W.Fast.tw1505104806684754949:=()
def PySem.W.Fast.tw10685774891944582197:=()
def PySem.W.Fast.tw10165715360017701444:=()
def PySem.W.Fast.tw9026388886328541114:=()
def PySem.W.Fast.tw222035830388575365:=()
def PySem.W.Fast.tw2863170473944307359:=()
def PySem.W.Fast.tw6119779727160874459:=()
def PySem.W.Fast.tw7293450260691515027:=()
def PySem.W.Fast.tw5316918826114972780:=()
def PySem.W.Fast.tw15839559876020314916:=()
def PySem.W.Fast.tw5657289854334053366:=()
def PySem.W.Fast.tw9639578678754683605:=()
def PySem.W.Fast.tw1077037168600778976:=()
def PySem.W.Fast.tw12436944649874392716:=()
def PySem.W.Fast.tw17148689563607584923:=()
def PySem.W.Fast.tw5111572620339044755:=()
def PySem.W.Fast.tw16932893046855427995:=()
def PySem.W.Fast.tw12561750239497603826:=()
def PySem.W.Fast.tw8137841980819506814:=()
def PySem.W.Fast.tw7201094849382902988:=()
def PySem.W.Fast.tw5205862241746161858:=()
def PySem.W.Fast.tw15655782826577400643:=()
def PySem.W.Fast.tw17307442805293435732:=()
def PySem.W.Fast.tw860983664060601168:=()
def PySem.W.Fast.tw1367064024698952509:=()
def PySem.W.Fast.tw14935705327790934042:=()
def PySem.W.Fast.tw3500474568963992196:=()
def PySem.W.Fast.tw7651491488654501559:=()
def PySem.W.Fast.tw9340769908675897855:=()
def PySem.W.Fast.tw12571527886899690746:=()
def PySem.W.Fast.tw9490767247904463275:=()
def PySem.W.Fast.tw11533346221910950608:=()
def PySem.W.Fast.tw2226680809394137183:=()
def PySem.W.Fast.tw1226529320152348840:=()
def PySem.W.Fast.tw3028061677291072165:=()
def PySem.W.Fast.tw16566731559361829717:=()
def PySem.W.Fast.tw6433144538869068297:=()
def PySem.W.Fast.tw16795614213723527226:=()
def PySem.W.Fast.tw15168687986403638568:=()
def PySem.W.Fast.tw18427658991376506143:=()
def PySem.W.Fast.tw3467982402802255979:=()
def PySem.W.Fast.tw1527420313946792249:=()
def PySem.W.Fast.tw86069870000310045:=()
def PySem.W.Fast.tw3544876351052354384:=()
def PySem.W.Fast.tw5315879782782074966:=()
def PySem.W.Fast.tw407942764513294177:=()
def PySem.W.Fast.tw10262436401058840439:=()
def PySem.W.Fast.tw17509435141482978552:=()
def PySem.W.Fast.tw17096261878431550987:=()
def PySem.W.Fast.tw11332048097155369563:=()
def PySem.W.Fast.tw11938428889244032747:=()
def PySem.W.Fast.tw9655787564587723392:=()
def PySem.W.Fast.tw15983193781277465201:=()
def PySem.W.Fast.tw12142172915093463294:=()
def PySem.W.Fast.tw8496036872255870504:=()
def PySem.W.Fast.tw16154032354782554714:=()
def PySem.W.Fast.tw12058772092820672892:=()
def PySem.W.Fast.tw7251310581078795327:=()
def PySem.W.Fast.tw10629451336542650556:=()
def PySem.W.Fast.tw12986876107031444752:=()
def PySem.W.Fast.tw17199165050922273254:=()
def PySem.W.Fast.tw9145994172262500498:=()
def PySem.W.Fast.tw17565252488714907474:=()
def PySem.W.Fast.tw3503418534523418233:=()
def PySem.W.Fast.tw4440077101741937192:=()
def PySem.W.Fast.tw8646283284607409360:=()
def PySem.W.Fast.tw6371770182064468301:=()
def PySem.W.Fast.tw272566075983720944:=()
def PySem.W.Fast.tw4020355608210790972:=()
def PySem.W.Fast.tw6313379896977819514:=()
def PySem.W.Fast.tw17946557924818751030:=()
def PySem.W.Fast.tw205924122261210536:=()
def PySem.W.Fast.tw10230720095618337235:=()
def PySem.W.Fast.tw13620360291214001704:=()
def PySem.W.Fast.tw17588435878135618450:=()
def PySem.W.Fast.tw13607859672215060836:=()
def PySem.W.Fast.tw9441814794816994106:=()
def PySem.W.Fast.tw16342893965663341273:=()
def PySem.W.Fast.tw1274540403186830575:=()
def PySem.W.Fast.tw18436735432012844088:=()
def PySem.W.Fast.tw14965695109217164262:=()
def PySem.W.Fast.tw7602391057115569640:=()
def PySem.W.Fast.tw8164143875668366414:=()
def PySem.W.Fast.tw15564871781927340028:=()
def PySem.W.Fast.tw5361805170881687334:=()
def PySem.W.Fast.tw10340146281908578624:=()
def PySem.W.Fast.tw7073438755588577184:=()
def PySem.W.Fast.tw6808976903479312332:=()
def PySem.W.Fast.tw8876396373248991600:=()
def PySem.W.Fast.tw12515192318381221441:=()
def PySem.W.Fast.tw965995115206852594:=()
def PySem.W.Fast.tw18023364327467454242:=()
def PySem.W.Fast.tw1761192097045068305:=()
def PySem.W.Fast.tw6388211575448457170:=()
def PySem.W.Fast.tw15800672786337220704:=()
def PySem.W.Fast.tw820608704018731206:=()
def PySem.W.Fast.tw6170115827515185923:=()
def PySem.W.Fast.tw7387340800723550689:=()
def PySem.W.Fast.tw17370358389589783243:=()
def PySem.W.Fast.tw174851762140736430:=()
def PySem.W.Fast.tw967502687511267174:=()
def PySem.W.Fast.tw6657131969919349768:=()
def PySem.W.Fast.tw348328591054675000:=()
def PySem.W.Fast.tw858818999101852249:=()
def PySem.W.Fast.tw9031293638928026595:=()
def PySem.W.Fast.tw3830145949004613582:=()
def PySem.W.Fast.tw13778373290928169915:=()
def PySem.W.Fast.tw17186828963575154573:=()
def PySem.W.Fast.tw5442049645429514666:=()
def PySem.W.Fast.tw3159216707444197838:=()
def PySem.W.Fast.tw13886297560055553673:=()
def PySem.W.Fast.tw12482419806073317389:=()
def PySem.W.Fast.tw4465886676442833150:=()
def PySem.W.Fast.tw1090062156282754847:=()
def PySem.W.Fast.tw8708282200944995999:=()
def PySem.W.Fast.tw9223006694177095431:=()
def PySem.W.Fast.tw16724108500101067146:=()
def PySem.W.Fast.tw3836131783433413554:=()
def PySem.W.Fast.tw1225488877097735069:=()
def PySem.W.Fast.tw10814276038639919661:=()
def PySem.W.Fast.tw9669084448017087760:=()
def PySem.W.Fast.tw6867989442899220895:=()
def PySem.W.Fast.tw773087292007535396:=()
def PySem.W.Fast.tw4273995823853366792:=()
def PySem.W.Fast.tw17651743736981294840:=()
def PySem.W.Fast.tw11262225217051175192:=()
def PySem.W.Fast.tw17578761770259712745:=()
def PySem.W.Fast.tw14726803272034366940:=()
def PySem.W.Fast.tw587094907458668271:=()
def PySem.W.Fast.tw7382216948500725527:=()
def PySem.W.Fast.tw5140079069871489322:=()
def PySem.W.Fast.tw13921520202835867835:=()
def PySem.W.Fast.tw8166952272149671684:=()
def PySem.W.Fast.tw849830961164692349:=()
def PySem.W.Fast.tw9195552459725852669:=()
def PySem.W.Fast.tw2916859026526514412:=()
def PySem.W.Fast.tw14817361828876328948:=()
def PySem.W.Fast.tw2075306005779703253:=()
def PySem.W.Fast.tw15431791387708002366:=()
def PySem.W.Fast.tw4887402503495331301:=()
def PySem.W.Fast.tw5554380922184649672:=()
def PySem.W.Fast.tw8255709847973905231:=()
def PySem.W.Fast.tw16285446814776858122:=()
def PySem.W.Fast.tw5294511560921701746:=()
def PySem.W.Fast.tw2926249149247959555:=()
def PySem.W.Fast.tw5349044034044364707:=()
def PySem.W.Fast.tw6191046946925424563:=()
def PySem.W.Fast.tw1378633140619570551:=()
def PySem.W.Fast.tw8560984047066162600:=()
def PySem.W.Fast.tw15028203358552022292:=()
def PySem.W.Fast.tw10382103625829317093:=()
def PySem.W.Fast.tw15819960811300271919:=()
def PySem.W.Fast.tw5978256867418393172:=()
def PySem.W.Fast.tw15095918497259372513:=()
def PySem.W.Fast.tw12390042630389437177:=()
def PySem.W.Fast.tw16587318534863430988:=()
def PySem.W.Fast.tw12536697064712563597:=()
def PySem.W.Fast.tw1213696459035402256:=()
def PySem.W.Fast.tw2348192192032811872:=()
def PySem.W.Fast.tw9426149745742469512:=()
def PySem.W.Fast.tw9341915023351639636:=()
def PySem.W.Fast.tw16857090747991471321:=()
def PySem.W.Fast.tw12379868310943146063:=()
def PySem.W.Fast.tw4834980492585229738:=()
def PySem.W.Fast.tw15945574547178571286:=()
def PySem.W.Fast.tw3341964837960662425:=()
def PySem.W.Fast.tw15648833065320201797:=()
def PySem.W.Fast.tw18328483033068916702:=()
def PySem.W.Fast.tw9821282861548543288:=()
def PySem.W.Fast.tw13580793845982891311:=()
def PySem.W.Fast.tw10055791587624191526:=()
def PySem.W.Fast.tw16199083330490749354:=()
def PySem.W.Fast.tw1495641096302292582:=()
def PySem.W.Fast.tw13595725141292108603:=()
def PySem.W.Fast.tw7563385570679086525:=()
def PySem.W.Fast.tw5164495989699243583:=()
def PySem.W.Fast.tw7578356607966707425:=()
def PySem.W.Fast.tw18142579509467659761:=()
def PySem.W.Fast.tw16266416860251458921:=()
def PySem.W.Fast.tw519137317766617119:=()
def PySem.W.Fast.tw17251347736722516338:=()
def PySem.W.Fast.tw10466477874340475837:=()
def PySem.W.Fast.tw11522217277621837386:=()
def PySem.W.Fast.tw6954797894869639450:=()
def PySem.W.Fast.tw11309806079528273065:=()
def PySem.W.Fast.tw1913351018449406443:=()
def PySem.W.Fast.tw1055123602239767194:=()
def PySem.W.Fast.tw2033428478444726489:=()
def PySem.W.Fast.tw4709285783379269230:=()
def PySem.W.Fast.tw4268058666105985544:=()
def PySem.W.Fast.tw5001600954605056962:=()
def PySem.W.Fast.tw15746318108335363568:=()
def PySem.W.Fast.tw17267345586882548417:=()
def PySem.W.Fast.tw6330936891904336797:=()
def PySem.W.Fast.tw3814670130419480592:=()
def PySem.W.Fast.tw7763846145977799376:=()
def PySem.W.Fast.tw11533686608369030529:=()
def PySem.W.Fast.tw13762839295372525839:=()
def PySem.W.Fast.tw2085529842664295279:=()
def PySem.W.Fast.tw16011074011455826110:=()
def PySem.W.Fast.tw82356002856989438:=()
def PySem.W.Fast.tw14572149210102023960:=()
def PySem.W.Fast.tw2582939112296220819:=()
def PySem.W.Fast.tw7687082805331952146:=()
def PySem.W.Fast.tw3824925071735138845:=()
def PySem.W.Fast.tw16425290758421855369:=()
def PySem.W.Fast.tw13546428683251771206:=()
def PySem.W.Fast.tw2475778216066181298:=()
def PySem.W.Fast.tw5262742175455042236:=()
def PySem.W.Fast.tw17890128165451735651:=()
def PySem.W.Fast.tw11255692335774510601:=()
def PySem.W.Fast.tw15226766303851535681:=()
def PySem.W.Fast.tw1354821219996959121:=()
def PySem.W.Fast.tw5540158242196799490:=()
def PySem.W.Fast.tw2012331350882243674:=()
def PySem.W.Fast.tw9529138589371035710:=()
def PySem.W.Fast.tw9285699355292207543:=()
def PySem.W.Fast.tw8411426950183497297:=()
def PySem.W.Fast.tw7659567023190420543:=()
def PySem.W.Fast.tw6426767350025635398:=()
def PySem.W.Fast.tw13792747272109608462:=()
def PySem.W.Fast.tw2012453612128665741:=()
def PySem.W.Fast.tw11670335518527081983:=()
def PySem.W.Fast.tw13765825917236763163:=()
def PySem.W.Fast.tw9828517349466187319:=()
def PySem.W.Fast.tw8275718762771560741:=()
def PySem.W.Fast.tw3905948655835214784:=()
def PySem.W.Fast.tw17900418293047565338:=()
def PySem.W.Fast.tw18306670104642753117:=()
def PySem.W.Fast.tw16979135075836759503:=()
def PySem.W.Fast.tw9121064549726540308:=()
def PySem.W.Fast.tw5817098208042707638:=()
def PySem.W.Fast.tw12519875336087156896:=()
def PySem.W.Fast.tw7725354182681724738:=()
def PySem.W.Fast.tw909550100929074443:=()
def PySem.W.Fast.tw6013116090451679358:=()
def PySem.W.Fast.tw13113954811232757787:=()
def PySem.W.Fast.tw15713556583362264498:=()
def PySem.W.Fast.tw5625578101551137175:=()
def PySem.W.Fast.tw4724346580080776078:=()
def PySem.W.Fast.tw17205059275385288957:=()
def PySem.W.Fast.tw6645199034374861018:=()
def PySem.W.Fast.tw3029199933981842349:=()
def PySem.W.Fast.tw5284896929070302652:=()
def PySem.W.Fast.tw14479085441475934867:=()
def PySem.W.Fast.tw13594675329806290509:=()
def PySem.W.Fast.tw11085282743501375505:=()
def PySem.W.Fast.tw5178259158283612992:=()
def PySem.W.Fast.tw12546953512157984407:=()
def PySem.W.Fast.tw16170022473320960493:=()
def PySem.W.Fast.tw13679008561837710730:=()
def PySem.W.Fast.tw14801381831742054890:=()
def PySem.W.Fast.tw8965519739768890119:=()
def PySem.W.Fast.tw2059380794686663481:=()
def PySem.W.Fast.tw18194319663564282635:=()
def PySem.W.Fast.tw15049845004102883299:=()
def PySem.W.Fast.tw951735801291319095:=()
def PySem.W.Fast.tw2134460792140643922:=()
def PySem.W.Fast.tw11507747809712013244:=()
def PySem.W.Fast.tw2746290693187505340:=()
def PySem.W.Fast.tw6622989108452243111:=()
def PySem.W.Fast.tw11896038486313274149:=()
def PySem.W.Fast.tw82607110432167143:=()
def PySem.W.Fast.tw6357377834227645624:=()
def PySem.W.Fast.tw12909259015297125645:=()
def PySem.W.Fast.tw5816969593680836959:=()
def PySem.W.Fast.tw16096506330327029330:=()
def PySem.W.Fast.tw9909070167469551541:=()
def PySem.W.Fast.tw9534305348596125149:=()
def PySem.W.Fast.tw3457045207010991795:=()
def PySem.W.Fast.tw16683079181946227817:=()
def PySem.W.Fast.tw11552064529480183360:=()
def PySem.W.Fast.tw12863124313658632456:=()
def PySem.W.Fast.tw12805736258206684549:=()
def PySem.W.Fast.tw506865229685914429:=()
def PySem.W.Fast.tw9054821436621157950:=()
def PySem.W.Fast.tw4146005390120328305:=()
def PySem.W.Fast.tw13291947233384982136:=()
def PySem.W.Fast.tw3223478407422839067:=()
def PySem.W.Fast.tw14349941516798497007:=()
def PySem.W.Fast.tw16913781567127268765:=()
def PySem.W.Fast.tw3763663086595169311:=()
def PySem.W.Fast.tw3043196660273703748:=()
def PySem.W.Fast.tw3519308314632796155:=()
def PySem.W.Fast.tw2897893403782596451:=()
def PySem.W.Fast.tw13032403533352081443:=()
def PySem.W.Fast.tw4395146727190719422:=()
def PySem.W.Fast.tw7977584970115815124:=()
def PySem.W.Fast.tw17191100738458659113:=()
def PySem.W.Fast.tw17015711947306633102:=()
def PySem.W.Fast.tw4868145158795503911:=()
def PySem.W.Fast.tw4872289656109512118:=()
def PySem.W.Fast.tw8094654952275009569:=()
def PySem.W.Fast.tw12986947272498832910:=()
def PySem.W.Fast.tw17005585539304894165:=()
def PySem.W.Fast.tw8050125243021364590:=()
def PySem.W.Fast.tw13801337458187766484:=()
def PySem.W.Fast.tw15897233627013862396:=()
def PySem.W.Fast.tw2024484122326815744:=()
def PySem.W.Fast.tw7894398002928819375:=()
def PySem.W.Fast.tw5786269528916977647:=()
def PySem.W.Fast.tw7609993888099418656:=()
def PySem.W.Fast.tw5233982162983693443:=()
def PySem.W.Fast.tw2556496305730110253:=()
def PySem.W.Fast.tw17597863215843977236:=()
def PySem.W.Fast.tw7176593443818510678:=()
def PySem.W.Fast.tw14229135581407343469:=()
def PySem.W.Fast.tw16338542294637508109:=()
def PySem.W.Fast.tw16588506906383588656:=()
def PySem.W.Fast.tw16248538345991212047:=()
def PySem.W.Fast.tw4753538373354022978:=()
def PySem.W.Fast.tw5568755807894681211:=()
def PySem.W.Fast.tw7840445245087532360:=()
def PySem.W.Fast.tw16365669130920790007:=()
def PySem.W.Fast.tw6580282480764712841:=()
def PySem.W.Fast.tw18057519483444382494:=()
def PySem.W.Fast.tw16117237244715051050:=()
def PySem.W.Fast.tw14506713430530733646:=()
def PySem.W.Fast.tw4774709207589896020:=()
def PySem.W.Fast.tw1794804702672408510:=()
def PySem.W.Fast.tw10627752492369437644:=()
def PySem.W.Fast.tw10682563707050338318:=()
def PySem.W.Fast.tw1899916962638297887:=()
def PySem.W.Fast.tw3361339743306993546:=()
def PySem.W.Fast.tw18211124358820455460:=()
def PySem.W.Fast.tw15038156099385917900:=()
def PySem.W.Fast.tw9886929606553879829:=()
def PySem.W.Fast.tw6555434377617582819:=()
def PySem.W.Fast.tw12194713872157802211:=()
def PySem.W.Fast.tw14370510161659415080:=()
def PySem.W.Fast.tw15652168157721347066:=()
def PySem.W.Fast.tw2112997176267939414:=()
def PySem.W.Fast.tw7953750933773523825:=()
def PySem.W.Fast.tw10607740767818872818:=()
def PySem.W.Fast.tw12132400183491844064:=()
def PySem.W.Fast.tw18193752873406275062:=()
def PySem.W.Fast.tw15957841787028052156:=()
def PySem.W.Fast.tw1089356275814966834:=()
def PySem.W.Fast.tw16757522946487123175:=()
def PySem.W.Fast.tw7599959742080299472:=()
def PySem.W.Fast.tw6129492464894447501:=()
def PySem.W.Fast.tw13913753654532285673:=()
def PySem.W.Fast.tw16084112815423889166:=()
def PySem.W.Fast.tw8313892732390813156:=()
def PySem.W.Fast.tw8721166687655751198:=()
def PySem.W.Fast.tw1283083291250280653:=()
def PySem.W.Fast.tw14857047268757068598:=()
def PySem.W.Fast.tw7341604775875434078:=()
def PySem.W.Fast.tw15273004934642394794:=()
def PySem.W.Fast.tw17998893222408290646:=()
def PySem.W.Fast.tw5293533877271411518:=()
def PySem.W.Fast.tw11499539783707965694:=()
def PySem.W.Fast.tw8911668152570790429:=()
def PySem.W.Fast.tw7064789466734640694:=()
def PySem.W.Fast.tw5098322284218105277:=()
def PySem.W.Fast.tw602417153778022461:=()
def PySem.W.Fast.tw10040121370542730202:=()
def PySem.W.Fast.tw5849449258627741410:=()
def PySem.W.Fast.tw11427337211613683645:=()
def PySem.W.Fast.tw3044411978554086469:=()
def PySem.W.Fast.tw5692836591738516552:=()
def PySem.W.Fast.tw14121615292808615694:=()
def PySem.W.Fast.tw14040872446558901617:=()
open PySem PySem.W PyProof.Rows
set_option maxRecDepth 100000 in
set_option maxHeartbeats 0 in
theorem PySem.Challenge.cw_citeward_k55_works_at_the_desk_holds : PySem.Challenge.rw_citeward_k55_works_at_the_desk.Holds := by
  w_on; o_law; k_head; (case hw => w_witness2)
  k_fill
  refine' DL.Zn2 (l := PySem.Challenge.rw_citeward_k55_works_at_the_desk) rfl rfl (fun w h Y => PySem.W.km_in_of Y) ⟨rfl, by decide, by decide⟩ My.law_true fun w mg fa h X G m => Gen.Zkp ?E m
  case E => constructor <;> first | exact PySem.W.mg_of X G | k_is | kit_is | exact PySem.W.mg_none_of X G (by k_is) | exact ⟨_, _, by k_is, L2.K5 (by k_is) (by k_is) (by k_is)⟩ | exact ⟨_, by k_is⟩ | exact ⟨by k_is, _, L2.K5 (by k_is) (by k_is) (by k_is)⟩ | exact ⟨_, _, by k_is, by k_is, L2.K5 (by k_is) (by k_is) (by k_is)⟩ | exact DL.Zkb (by k_is) (by k_is) rfl (.cons (DL.Cj (by k_is) (by k_is)) (.cons (DL.Cj (by k_is) (by k_is)) (.cons (DL.Cj (by k_is) (by k_is)) (.cons (DL.Cj (by k_is) (by k_is)) (.cons (DL.Cj (by k_is) (by k_is)) (.cons (DL.Cj (by k_is) (by k_is)) (.cons (DL.Cj (by k_is) (by k_is)) (.cons (DL.Cj (by k_is) (by k_is)) (.cons (DL.Cj (by k_is) (by k_is)) (.cons (DL.Cj (by k_is) (by k_is)) (.cons (DL.Cj (by k_is) (by k_is)) (.cons (DL.Cj (by k_is) (by k_is)) (.cons (DL.Cj (by k_is) (by k_is)) (.cons (DL.Cj (by k_is) (by k_is)) .nil)))))))))))))) (by decide +kernel) | kernel_rfl
