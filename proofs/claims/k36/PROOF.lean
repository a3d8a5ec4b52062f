import PyProof.Rows.All
import Wide.All
import OpenK.AllK
import Wide.FinOn
import Lean
import PyProof.EqAt
import PyProof.EqKinds
import PyProof.TupleCall
import PyProof.NeKinds
import PyProof.EnumMake
import PyProof.ConsumeWalk
import PyProof.StrWalks
import PyProof.WalksMore
import PyProof.StrLawsNeg
import KE.KDictList
import KE.KLam
import KE.KMinKey
import KE.KSortTup
import KE.KUnpack
import PySem.Challenge.RW_citeward_k36_heaps_of_single_works
set_option Elab.async false
set_option linter.all false
set_option genSizeOf false
set_option genSizeOfSpec false
set_option maxRecDepth 100000
set_option maxHeartbeats 4000000
open Option renaming bind_eq_some_iff->aa,bind_some->b7,map_eq_some_iff->cm,some->dm
open PySem renaming wpAny_bind->ad,wpAny_pure->ag,Value->aj,Addr->ak,Shared->am,starEach->ay,sizeLine->a7,wpAny->ba,model->bp,Program->bu,mainGlobals->b6,Expr->ci,Around->cj,World->ck,FuncData->cx,wpAny_call_entry->c5,wpAny_loadPart'->dg,Heap->dq,sizeLine_eq->dr,wpAny_newObj_type->dv,cLine->dw,sysModules->d8,wpAny_callSpecial?_slot->fw,backTo->f6,eval->f8,wpAny_holding->f9,wpAny_isInstance->gg,compareOp->gh,SetTable->gn,strIterType->gq,codeAny_builtin->gr
open PySem.W renaming Frag->af,keepIn->bq,nsIn->cy,mg_none_of->ff,mg_of->gc
open List renaming mem_cons_self->ah,length_map->ao,mem_cons_of_mem->ar,mem_singleton->au,map_cons->av,getElem?_eq_some_iff->ax,getElem?_eq_getElem->az,mem_map->a6,getElem?_map->bf,size_toArray->bi,length_append->bj,length_cons->bn,mem_cons->bo,map_map->bx,getD_eq_getElem?_getD->bz,mem_append->cn,map_append->cq,range->cr,mem_range->cw,mem_of_getElem?->cz,mem_append_right->c6,nodup_nil->c7,pairwise_map->df,nodup_append->di,cons_lt_cons_iff->dj,getElem_of_mem->dz,not_lt->d4,getElem?_set_self->d5,getElem?_set_ne->d6,map_congr_left->fg,nodup_cons->fq,append_assoc->gd,not_mem_nil->gk,length_take->gm,toArray->gy,lookup_cons->gz,all_eq_true->g6
open PySem.Heap renaming get?_push_of_some->aq,get?_push_size->a9,lt_size->bc,SameBut->g7
open Array renaming length_toList->aw,getElem?_toList->b5,getElem?_eq_some_iff->f7
open Nat renaming le_refl->a8,ne_of_lt->b4,lt_of_lt_of_le->cu,zero_le->dn,le_trans->d3,not_lt_zero->fj,lt_irrefl->gv,lt_or_ge->gx
open Bool renaming false_eq_true->bg,false_ne_true->bh,not_true->du
open PySem.Value renaming ref->bv,none->cf
open Sum renaming inr->b8
open PySem.Str renaming ofString->b9
open PySem.Builtin.Str renaming occurrences->c8
open PySem.Obj renaming mapSeq->c9
open PyProof.Rows renaming seqObj->de
open PySem.PassesOwn renaming never->dh
open Int renaming emod_lt_of_pos->dy,emod_nonneg->fu
open PySem.Around renaming under_plainId->d7
open PySem.F renaming slot_dict_keyiterator_next->gf
open Or renaming inr->gp
open PySem.Paired renaming length->gu
open PySem.NameKind renaming free->gw
open Option renaming some->aA,none->aB
open Bool renaming true->aC,false->aD
set_option bootstrap.genMatcherCode false
noncomputable section
namespace L2
open PySem PySem.Spec PyProof.Rows
abbrev Key:=Sum Int Str
def Bm:Key->aj->Bool
 | .inl k,v=>Value.isInt k v
 | .inr x,v=>Value.isStrOf x v
def Zt8(w:ck):Key->Int
 | .inl k=>hashInt k
 | .inr x=>hashStr w x
theorem Z0:∀{k:Key} {v:aj},Bm k v=aC->(∃i t,k=Sum.inl i/\v=Value.int i t)\/(∃x t,k=b8 x/\v=Value.str x t)
 | .inl i,v,h=>by obtain⟨t,e⟩:=Value.isInt_shape (k:=i) (v:=v) h;exact .inl ⟨i,t,rfl,e⟩
 | .inr x,v,h=>by obtain⟨t,e⟩:=Value.isStrOf_shape (x:=x) (v:=v) h;exact .inr ⟨x,t,rfl,e⟩
theorem Zan(i:Int)(t:Tok):Bm (.inl i) (.int i t)=aC:=by simp[Bm,Value.isInt]
theorem Zao(x:Str)(t:Tok):Bm (.inr x) (.str x t)=aC:=by simp[Bm,Value.isStrOf]
theorem Zls(a b:Int):decide ((Sum.inl a:Key)=Sum.inl b)=(a==b):=by
 by_cases e:a=b
 ·subst e;simp
 ·have h:¬(Sum.inl a:Key)=Sum.inl b:=λq=>e (Sum.inl.inj q);rw[decide_eq_false h];exact(beq_eq_false_iff_ne.mpr e).symm
theorem Zlt(a b:Str):decide ((b8 a:Key)=b8 b)=decide (a=b):=by
 by_cases e:a=b
 ·subst e;simp
 ·have h:¬(b8 a:Key)=b8 b:=λq=>e (b8.inj q);rw[decide_eq_false h,decide_eq_false e]
theorem Zlu(a:Int)(b:Str):decide ((Sum.inl a:Key)=b8 b)=aD:=decide_eq_false (λq=>nomatch q)
theorem Zlv(a:Str)(b:Int):decide ((b8 a:Key)=Sum.inl b)=aD:=decide_eq_false (λq=>nomatch q)
def Zk(prog:bu)(w:ck):PySem.KeyKind prog w Key where
 is:=Bm
 hash:=Zt8 w
 inj:=λv a b ha hb=>by
  rcases Z0 ha with⟨i,t,rfl,rfl⟩|⟨x,t,rfl,rfl⟩
  ·rcases Z0 hb with⟨j,u,rfl,e⟩|⟨y,u,rfl,e⟩
   ·injection e with e1 _;rw[e1]
   ·exact nomatch e
  ·rcases Z0 hb with⟨j,u,rfl,e⟩|⟨y,u,rfl,e⟩
   ·exact nomatch e
   ·injection e with e1 _;rw[e1]
 byValue:=λk v h=>by rcases Z0 h with⟨i,t,rfl,rfl⟩|⟨x,t,rfl,rfl⟩<;> rfl
 pyHash:=λhv h=>by
  rcases Z0 hv with⟨i,t,rfl,rfl⟩|⟨x,t,rfl,rfl⟩
  ·exact wpAny_pyHash_int h
  ·exact wpAny_pyHash_str h
 eqBool:=λhu hv h=>by
  rcases Z0 hu with⟨i,t,rfl,rfl⟩|⟨x,t,rfl,rfl⟩
  ·rcases Z0 hv with⟨j,u,rfl,rfl⟩|⟨y,u,rfl,rfl⟩
   ·rw[Zls]at h;exact wpAny_eqBool_int h
   ·rw[Zlu]at h;exact SeqAt.EqAt.int_str i t y u _ _ _ _ h
  ·rcases Z0 hv with⟨j,u,rfl,rfl⟩|⟨y,u,rfl,rfl⟩
   ·rw[Zlv]at h;exact SeqAt.EqAt.str_int x t j u _ _ _ _ h
   ·rw[Zlt]at h;exact wpAny_eqBool_str h
 «strs»:=λk x t v h=>by
  rcases Z0 h with⟨i,u,rfl,e⟩|⟨y,u,rfl,e⟩
  ·exact nomatch e
  ·injection e with e1 _;subst e1;cases v<;> rfl
theorem Zlw(prog:bu)(w:ck)(k:Key)(v:aj):(Zk prog w).is k v=Bm k v:=rfl
theorem Ni(prog:bu)(w:ck)(i:Int)(t:Tok):(Zk prog w).is (.inl i) (.int i t)=aC:=Zan i t
theorem Nj(prog:bu)(w:ck)(x:Str)(t:Tok):(Zk prog w).is (.inr x) (.str x t)=aC:=Zao x t
abbrev Zj:=Sum (List Str) (Int×List Str)
def Mz(l:List Str):List Key:=l.map b8
theorem Kd{a b:List Str}(h:Mz a=Mz b):a=b:=by
 induction a generalizing b with
 |nil=>cases b with
  |nil=>rfl
  |cons y b=>simp[Mz]at h
 |cons x a ih=>cases b with
  |nil=>simp[Mz]at h
  |cons y b=>simp only[Mz,av,List.cons.injEq]at h;rw[b8.inj h.1,ih h.2]
theorem X5(a b:List Str):decide (Mz a=Mz b)=decide (a=b):=by
 by_cases e:a=b
 ·rw[e];simp
 ·rw[decide_eq_false e,decide_eq_false λz=>e (Kd z)]
def Uv(prog:bu)(w:ck)(h:dq):Zj->ak->Prop
 | .inl l,a=>IsTupleKey (Zk prog w) h (Mz l) a
 | .inr (n,l),a=>∃o items m t b,h.get? a=aA o/\o.cls= .type "tuple"/\o.data= .seq items m/\items.toList=[.int n t,.ref b]/\IsTupleKey (Zk prog w) h (Mz l) b
def Ya(prog:bu)(w:ck):Zj->Int
 | .inl l=>tupleKeyHash (Zk prog w) (Mz l)
 | .inr (n,l)=>reduceHash (Builtin.Tuple.tupleHashOf [hashInt n,tupleKeyHash (Zk prog w) (Mz l)])
def Tg:Zj->Nat
 | .inl l=>(Mz l).length+1
 | .inr (_,l)=>1+((Mz l).length+1)+1
section
variable{prog:bu}{w:ck}{A:cj}{E:aj->am->Prop}{s:am}
theorem Uv.typeIs{k:Zj}{a:ak}(x:Uv prog w s.heap k a):s.TypeIs (.ref a) "tuple":=by
 cases k with
 |inl l=>exact IsTupleKey.typeIs (show IsTupleKey (Zk prog w) s.heap (Mz l) a from x)
 |inr p=>obtain⟨o,_,_,_,_,ho,hc,_⟩:=x;exact⟨o,ho,hc⟩
theorem Th{l:List Str}{n:Int}{t:Tok}{vs:List aj}(h:ItemsAre (Zk prog w) (Mz l) (.int n t::vs)):False:=by
 cases l with
 |nil=>cases h
 |cons x l=>
  cases h with
  |cons h1 _=>
   rcases Z0 (k:=.inr x) (v:=.int n t) h1 with⟨_,_,e,_⟩|⟨_,_,_,e⟩
   ·cases e
   ·cases e
theorem Uv.inj{h:dq}{a:ak}{x y:Zj}(hx:Uv prog w h x a)(hy:Uv prog w h y a):x=y:=by
 have mix:∀{l:List Str} {n:Int} {l2:List Str},Uv prog w h (.inl l) a->Uv prog w h (.inr (n,l2)) a->False:=fun{l n l2} h1 h2=>by obtain⟨o,items,m,ho,_,hd,hi⟩:=h1;obtain⟨o',items',m',t,b,ho',_,hd',e,_⟩:=h2;obtain rfl:o=o':=dm.inj (ho.symm.trans ho');rw[hd]at hd';injection hd' with z _;subst z;rw[e]at hi;exact Th hi
 cases x with
 |inl l=>cases y with
  |inl l2=>rw[Kd (IsTupleKey.inj (show IsTupleKey (Zk prog w) h (Mz l) a from hx) hy)]
  |inr p=>exact(mix hx hy).elim
 |inr p=>cases y with
  |inl l2=>exact(mix hy hx).elim
  |inr q=>obtain⟨n,l⟩:=p;obtain⟨n2,l2⟩:=q;obtain⟨o,items,m,t,b,ho,_,hd,e,hb⟩:=hx;obtain⟨o',items',m',t',b',ho',_,hd',e',hb'⟩:=hy;obtain rfl:o=o':=dm.inj (ho.symm.trans ho');rw[hd]at hd';injection hd' with z _;subst z;rw[e]at e';injection e' with e1 e2;injection e1 with e1 _;injection e2 with e2 _;injection e2 with e2;subst e1 e2;rw[Kd (hb.inj hb')]
theorem Uv.keeps{h h':dq}{k:Zj}{a d:ak}{o:Obj}{es ep} (x:Uv prog w h k a) (ho:h.get? d=aA o) (hd:o.data= .dict es ep) (hs:g7 d h h'):Uv prog w h' k a:=by
 cases k with
 |inl l=>exact IsTupleKey.keeps (show IsTupleKey (Zk prog w) h (Mz l) a from x) ho hd hs
 |inr p=>
  obtain⟨o',items,m,t,b,ho',hc,hd',e,hb⟩:=x;have hne:a≠d:=by rintro rfl;obtain rfl:o'=o:=dm.inj (ho'.symm.trans ho);rw[hd]at hd';exact nomatch hd'
  exact⟨o',items,m,t,b,(hs.2 a hne).trans ho',hc,hd',e,hb.keeps ho hd hs⟩
theorem Uv.mono{h h':dq}{k:Zj}{a:ak}(x:Uv prog w h k a)(hk:∀b o,h.get? b=aA o->h'.get? b=aA o):Uv prog w h' k a:=by
 cases k with
 |inl l=>obtain⟨o,items,m,ho,r⟩:=x;exact⟨o,items,m,hk _ _ ho,r⟩
 |inr p=>obtain⟨o,items,m,t,b,ho,hc,hd,e,⟨o2,i2,m2,ho2,r2⟩⟩:=x;exact⟨o,items,m,t,b,hk _ _ ho,hc,hd,e,o2,i2,m2,hk _ _ ho2,r2⟩
theorem Zcc{k:Zj}{a:ak}{Q:Int->am->Prop}(hu:A.units+1<dw)(hk:Uv prog w s.heap k a)(h:Q (Ya prog w k) {s with toks:=s.toks+Tg k}):ba (bp prog w) A (pyHash (.ref a)) Q E s:=by
 cases k with
 |inl l=>exact wpAny_pyHash_tuple (knd:=Zk prog w) (by omega) hk h
 |inr p=>
  have hT:=hk.typeIs;obtain⟨n,l⟩:=p;obtain⟨o,items,m,t,b,ho,_,hd,hi,hb⟩:=hk;unfold pyHash
  first|unfold pyHashByItsType|skip
  first|refine ad (wpAny_cRoomFor_or (.inr (by omega)) ?_)|skip
  refine ad (wpAny_specialOf hT F.slot_tuple_hash.lookup ?_);show ba _ _ (if(aA (Value.builtin "tuple.__hash__")==aA cf)=aC then _ else _) Q E s;rw[if_neg (by rw[beq_builtin_none];exact bh)];refine ad (wpAny_specialOf hT F.slot_tuple_hash.lookup ?_);show ba _ _ (callSpecialIfBoundUnlessNone? (.ref a) "__hash__" _ >>=_) Q E s;refine ad (wpAny_callSpecialIfBoundUnlessNone?_slot hT F.slot_tuple_hash (c5 F.slot_tuple_hash hT F.entry_tuple_hash ?_ (F.args_tuple_hash_1 _)));show ba _ _ (Builtin.Tuple.tupleItemsOf (.ref a) >>=_) _ _ s;refine ad (wpAny_tupleItemsOf ho hd ?_);refine ad ?_;rw[<-Array.forIn_toList,hi];simp only[List.forIn_cons,List.forIn_nil];have hu1:A.in1.units<cLine:=hu;refine ad (ad (wpAny_pyHash_int ?_));refine ag ?_;dsimp only;refine ad (ad (wpAny_pyHash_tuple (knd:=Zk prog w) (s:={s with toks:=s.toks+1}) hu1 hb ?_));refine ag ?_;refine ag ?_;generalize hg:tupleKeyHash (Zk prog w) (Mz l)=g at h⊢;show ba _ _ (retInt (Builtin.Tuple.tupleHashOf [hashInt n,g])) _ _ _;refine wpAny_ret_mkInt ?_;unfold Ya at h;dsimp only at h;rw[hg]at h;generalize Builtin.Tuple.tupleHashOf [hashInt n,g]=z at h⊢;show ba _ _ (if(decide (-(2:Int)^63<=z)&&decide (z<2^63))=aC then _ else _) Q E _;unfold reduceHash at h;by_cases hr:(decide (-(2:Int)^63<=z)&&decide (z<2^63))=aC
  ·rw[if_pos hr];rw[if_pos hr]at h;exact ag (by simpa[Tg,Nat.add_assoc]using h)
  ·rw[if_neg hr];rw[if_neg hr]at h;exact ad (wpAny_rule (ag (by simpa[Tg,Nat.add_assoc]using h)))
theorem Zap{x y:Zj}{a b:ak}{P:Fin->am->Prop}(hu:A.units<dw)(hx:Uv prog w s.heap x a)(hy:Uv prog w s.heap y b)(h:P (.done (.ret (.bool (decide (x=y))))) s):
  ba (bp prog w) A (Builtin.«tuple.__eq__» ⟨[.ref a,.ref b],[]⟩) P E s:=by
 have mixS:∀(x:Str) (tx:Tok) (n:Int) (tn:Tok) {Q:Bool->am->Prop},Q aD s->ba (bp prog w) A (eqBool (.str x tx) (.int n tn)) Q E s:=λx tx n tn Q q=>SeqAt.EqAt.str_int x tx n tn _ _ _ _ q;have mixI:∀(x:Str) (tx:Tok) (n:Int) (tn:Tok) {Q:Bool->am->Prop},Q aD s->ba (bp prog w) A (eqBool (.int n tn) (.str x tx)) Q E s:=λx tx n tn Q q=>SeqAt.EqAt.int_str n tn x tx _ _ _ _ q;have hTb:=hy.typeIs;cases x with
 |inl l=>cases y with
  |inl l2=>
   refine tuple_eq_tree (knd:=Zk prog w) (x:=Mz l) (y:=Mz l2) hx hy ?_;rw[X5];have:decide ((Sum.inl l:Zj)=Sum.inl l2)=decide (l=l2):=by
    by_cases e:l=l2
    ·rw[e];simp
    ·rw[decide_eq_false e,decide_eq_false λz=>e (Sum.inl.inj z)]
   rw[this]at h;exact h
  |inr p=>
   obtain⟨n,l2⟩:=p;obtain⟨oa,xs,na,hoa,_,hda,hia⟩:=hx;obtain⟨ob,ys,nb,t,c,hob,_,hdb,e,hc⟩:=hy;have hf:decide ((Sum.inl l:Zj)=b8 (n,l2))=aD:=decide_eq_false λz=>nomatch z;rw[hf]at h;show ba _ _ (isInstance (.ref b) (.type "tuple") >>=_) _ _ s;refine ad (gg hTb isSubtype_tuple_tuple ?_);simp only[du,bg,if_false];refine ad (wpAny_tupleItemsOf hoa hda ?_);refine ad (wpAny_tupleItemsOf hob hdb ?_);rw[e];have sy:ys.size=2:=by rw[<-aw,e];rfl
   cases l with
   |nil=>
    generalize hxs:xs.toList=vs at hia;cases hia;have sx:xs.size=0:=by rw[<-aw,hxs];rfl
    simp only[List.zip_nil_left,List.forIn_nil];refine ad (ag ?_);refine ag ?_;show P (.done (.ret (.bool (xs.size==ys.size)))) s;rw[sx,sy];exact h
   |cons x l=>
    generalize hxs:xs.toList=vs at hia;cases hia with
    | @cons _ v _ vs h1 _=>
     rcases Z0 (k:=.inr x) (v:=v) h1 with⟨_,_,z,_⟩|⟨_,tx,z,rfl⟩
     ·cases z
     ·simp only[List.zip_cons_cons,List.forIn_cons];refine ad (ad (ad (mixS _ _ _ _ ?_)));simp only[Bool.not_false,if_true];exact ad (ag (ag (ag (ag h))))
 |inr p=>cases y with
  |inl l=>
   obtain⟨n,l2⟩:=p;obtain⟨ob,ys,nb,t,c,hob,_,hdb,e,hc⟩:=hx;obtain⟨oa,xs,na,hoa,_,hda,hia⟩:=hy;have hf:decide ((b8 (n,l2):Zj)=Sum.inl l)=aD:=decide_eq_false λz=>nomatch z;rw[hf]at h;show ba _ _ (isInstance (.ref b) (.type "tuple") >>=_) _ _ s;refine ad (gg hTb isSubtype_tuple_tuple ?_);simp only[du,bg,if_false];refine ad (wpAny_tupleItemsOf hob hdb ?_);refine ad (wpAny_tupleItemsOf hoa hda ?_);rw[e];have sy:ys.size=2:=by rw[<-aw,e];rfl
   cases l with
   |nil=>
    generalize hxs:xs.toList=vs at hia;cases hia;have sx:xs.size=0:=by rw[<-aw,hxs];rfl
    simp only[List.zip_nil_right,List.forIn_nil];refine ad (ag ?_);refine ag ?_;show P (.done (.ret (.bool (ys.size==xs.size)))) s;rw[sx,sy];exact h
   |cons x l=>
    generalize hxs:xs.toList=vs at hia;cases hia with
    | @cons _ v _ vs h1 _=>
     rcases Z0 (k:=.inr x) (v:=v) h1 with⟨_,_,z,_⟩|⟨_,tx,z,rfl⟩
     ·cases z
     ·simp only[List.zip_cons_cons,List.forIn_cons];refine ad (ad (ad (mixI _ _ _ _ ?_)));simp only[Bool.not_false,if_true];exact ad (ag (ag (ag (ag h))))
  |inr q=>
   obtain⟨n,l⟩:=p;obtain⟨n2,l2⟩:=q;obtain⟨oa,xs,na,ta,ca,hoa,_,hda,ea,hca⟩:=hx;obtain⟨ob,ys,nb,tb,cb,hob,_,hdb,eb,hcb⟩:=hy;show ba _ _ (isInstance (.ref b) (.type "tuple") >>=_) _ _ s;refine ad (gg hTb isSubtype_tuple_tuple ?_);simp only[du,bg,if_false];refine ad (wpAny_tupleItemsOf hoa hda ?_);refine ad (wpAny_tupleItemsOf hob hdb ?_);rw[ea,eb];have sx:xs.size=2:=by rw[<-aw,ea];rfl
   have sy:ys.size=2:=by rw[<-aw,eb];rfl
   simp only[List.zip_cons_cons,List.zip_nil_left,List.forIn_cons,List.forIn_nil];refine ad (ad (ad (wpAny_eqBool_int ?_)));by_cases hn:n=n2
   ·subst hn;simp only[beq_self_eq_true,du,bg,if_false];refine ag ?_;dsimp only;refine ad (ad (wpAny_eqBool_tuple (knd:=Zk prog w) hu hca hcb ?_));rw[X5];by_cases hl:l=l2
    ·subst hl;simp only[decide_true,du,bg,if_false];refine ag (ag (ag ?_));show P (.done (.ret (.bool (xs.size==ys.size)))) s;rw[sx,sy];simpa using h
    ·simp only[decide_eq_false hl,Bool.not_false,if_true];have hf:decide ((b8 (n,l):Zj)=b8 (n,l2))=aD:=decide_eq_false λz=>hl (by injection z with z;injection z);rw[hf]at h;exact ad (ag (ag (ag (ag h))))
   ·have hb:(n==n2)=aD:=beq_eq_false_iff_ne.mpr hn;simp only[hb,Bool.not_false,if_true];have hf:decide ((b8 (n,l):Zj)=b8 (n2,l2))=aD:=decide_eq_false λz=>hn (by injection z with z;injection z);rw[hf]at h;exact ad (ag (ag (ag (ag h))))
theorem Zo1{x y:Zj}{a b:ak}{Q:Bool->am->Prop}(hu:A.units+1<dw)(hx:Uv prog w s.heap x a)(hy:Uv prog w s.heap y b)(h:Q (decide (x=y)) s):ba (bp prog w) A (eqBool (.ref a) (.ref b)) Q E s:=by
 unfold eqBool
 try with_reducible refine f9 ?_
 show ba _ _ (if(bv a==bv b)=aC then _ else _) Q E s;by_cases hab:(bv a==bv b)=aC
 ·rw[if_pos hab];have e:a=b:=by have:=eq_of_beq hab;injection this
  subst e;obtain rfl:=hx.inj hy;exact ad (wpAny_rule (ag (by simpa using h)))
 ·rw[if_neg hab];exact ad (wpAny_richCompare_same_room (op:=.Eq) hx.typeIs hy.typeIs F.slot_tuple_eq
   (c5 F.slot_tuple_eq hx.typeIs F.entry_tuple_eq (Zap (A:=A.in1) hu hx hy ⟨_,rfl,(λe=>nomatch e),wpAny_truthy_bool h⟩) (F.args_tuple_eq_2 _ _)) (by omega))
theorem X6{m:Nat}{ks:List Key}{a:ak}{Q:Bool->am->Prop}(hk:IsTupleKey (Zk prog w) s.heap ks a)(h:Q aC s):ba (bp prog w) A (eqIsQuiet (m+1) (.ref a)) Q E s:=by
 have hT:=hk.typeIs;obtain⟨o,items,n,ho,_,hd,hi⟩:=hk;unfold eqIsQuiet;refine ad (wpAny_specialOf hT F.slot_tuple_eq.lookup ?_);show ba _ _ (isInstance (.ref a) (.type "tuple") >>=_) _ _ s;refine ad (gg hT isSubtype_tuple_tuple ?_);simp only[du,bg,if_false];refine ad (wpAny_seqItems ho hd ?_);refine ad ?_;show ba _ _ (forIn items _ _) _ _ s;rw[<-Array.forIn_toList];refine wpAny_forIn_list _ (λrest r s'=>r.1=aB/\s'=s/\∀v∈rest,carriedByValue v=aC) _ ?_ ?_ _ _ ⟨rfl,rfl,hi.byValue⟩
 ·rintro v rest r s' ⟨hr,rfl,hall⟩;rw[eqIsQuiet_byValue _ (hall v ah)];refine ad (ag ?_);simp only[du,bg,if_false];exact ag ⟨rfl,rfl,λu hu'=>hall u (ar _ hu')⟩
 ·rintro⟨r1,r2⟩ s' ⟨hr,rfl,_⟩;simp only at hr;subst hr;exact ag h
theorem Ke{k:Zj}{a:ak}{Q:Bool->am->Prop}(hk:Uv prog w s.heap k a)(h:Q aC s):ba (bp prog w) A (eqIsQuiet 8 (.ref a)) Q E s:=by
 cases k with
 |inl l=>exact X6 hk h
 |inr p=>have hT:=hk.typeIs;obtain⟨n,l⟩:=p;obtain⟨o,items,m,t,b,ho,_,hd,hi,hb⟩:=hk;unfold eqIsQuiet;refine ad (wpAny_specialOf hT F.slot_tuple_eq.lookup ?_);show ba _ _ (isInstance (.ref a) (.type "tuple") >>=_) _ _ s;refine ad (gg hT isSubtype_tuple_tuple ?_);simp only[du,bg,if_false];refine ad (wpAny_seqItems ho hd ?_);refine ad ?_;show ba _ _ (forIn items _ _) _ _ s;rw[<-Array.forIn_toList,hi];simp only[List.forIn_cons,List.forIn_nil];rw[eqIsQuiet_byValue _ (v:=Value.int n t) rfl];refine ad (ad (ag ?_));simp only[du,bg,if_false];refine ag ?_;dsimp only;refine ad (ad (X6 hb ?_));simp only[du,bg,if_false];exact ag (ag (ag h))
end
def E7(prog:bu)(w:ck):HeapKind prog w Zj where
 is:=Uv prog w
 hash:=Ya prog w
 draws:=Tg
 room:=λA=>A.units+1<dw
 inj:=λhx hy=>hx.inj hy
 keeps:=λx ho hd hs=>x.keeps ho hd hs
 pyHash:=λhu hk h=>Zcc hu hk h
 eqBool:=λhu hx hy h=>Zo1 hu hx hy h
 quiet:=λhk h=>Ke hk h
inductive V where
 |non|bl (b:Bool)|int (i:Int)|str (x:Str)|byt (b:Array UInt8)|flt (b:UInt64)|ref (a:ak)|ty (n:String)
 deriving DecidableEq
def Zm:V->aj->Prop
 | .non,u=>u=cf
 | .bl b,u=>u=Value.bool b
 | .int i,u=>∃t,u=Value.int i t
 | .str x,u=>∃t,u=Value.str x t
 | .byt b,u=>∃t,u=Value.bytes b t
 | .flt b,u=>∃t,u=Value.float b t
 | .ref a,u=>u=bv a
 | .ty n,u=>u=Value.type n
abbrev Zw:List V->List aj->Prop:=Paired Zm
theorem Zw.length{xs:List V}{us:List aj}(r:Zw xs us):xs.length=us.length:=gu r
theorem Zw.get:∀{xs:List V} {us:List aj} {i:Nat} {x:V},Zw xs us->xs[i]? =aA x->∃u,us[i]? =aA u/\Zm x u
 |_,_,_,_,.nil,e=>by simp at e
 |_,_,0,_,.cons r _,e=>by simp at e;subst e;exact⟨_,rfl,r⟩
 |_,_,i+1,x,.cons _ t,e=>by obtain⟨u,h1,h2⟩:=Zw.get (i:=i) (x:=x) t (by simpa using e);exact⟨u,by simpa using h1,h2⟩
theorem Zw.append:∀{xs ys:List V} {us ws:List aj},Zw xs us->Zw ys ws->Zw (xs++ys) (us++ws)
 |_,_,_,_,.nil,s=>s
 |_,_,_,_,.cons r t,s=>.cons r (Zw.append t s)
theorem Zw.take:∀{xs:List V} {us:List aj} (n:Nat),Zw xs us->Zw (xs.take n) (us.take n)
 |_,_,0,_=>.nil
 |_,_,_+1,.nil=>.nil
 |_,_,n+1,.cons r t=>.cons r (Zw.take n t)
theorem Zw.drop:∀{xs:List V} {us:List aj} (n:Nat),Zw xs us->Zw (xs.drop n) (us.drop n)
 |_,_,0,r=>r
 |_,_,_+1,.nil=>.nil
 |_,_,n+1,.cons _ t=>Zw.drop n t
def C3:Option V->Option aj->Prop
 |some v,aA u=>Zm v u
 |none,aB=>True
 |_,_=>False
def KV{κ:Type}:List (κ×V)->List (κ×aj)->Prop:=Paired λ(p:κ×V) (q:κ×aj)=>p.1=q.1/\Zm p.2 q.2
def kV:Key->V
 | .inl i=>.int i
 | .inr x=>.str x
inductive HO where
 |lst (xs:List V)
 |tup (xs:List V)
 |dK (kvs:List (Key×V)) (ep:Nat)|dT (kvs:List (List Key×V)) (ep:Nat) (bs:List ak)|dN (kvs:List (Zj×V)) (ep:Nat) (bs:List ak)
 |set (S:Int->Bool) (n:Nat)
 |ins (C dx:ak) (fs:List (Str×V))
 |own (x:ak)
 |xd (fs:List (Str×V))
 |met (f x:ak)
 |rng (lo hi:Int)
 |frz (o:Obj) (u:HO)
 |tbl (ps:Array aj)
 |tab (q:Str)
 |ext (φ:dq->Prop)
abbrev Hp:=ak->Option HO
def Z5(H:Hp)(a:ak)(o:HO):Hp:=λb=>if b=a then aA o else H b
theorem Z3{H:Hp}{a:ak}{o:HO}:Z5 H a o a=aA o:=by unfold Z5;rw[if_pos rfl]
theorem Zn{H:Hp}{a b:ak}{o:HO}(h:b≠a):Z5 H a o b=H b:=by unfold Z5;rw[if_neg h]
theorem Zg8{H:Hp}{a:ak}{o u:HO}:Z5 (Z5 H a o) a u=Z5 H a u:=by funext b;unfold Z5;split<;> rfl
theorem Ti{H:Hp}{a b:ak}{o u:HO}(h:H a=aA o)(h':H b=aA u)(d:o≠u):a≠b:=by intro e;subst e;rw[h]at h';exact d (dm.inj h')
theorem Y1{H:Hp}{a b:ak}{o:HO}(h:H a=aA o)(h':H b=aB):a≠b:=by intro e;subst e;rw[h]at h';cases h'
def Ji(H:Hp):Zj->ak->Prop
 | .inl l,b=>H b=aA (.tup ((Mz l).map kV))
 | .inr (n,l),b=>∃c,H b=aA (.tup [.int n,.ref c])/\H c=aA (.tup ((Mz l).map kV))
theorem Ji.mono{H H':Hp}{k:Zj}{b:ak}(h:Ji H k b)(ht:∀b xs,H b=aA (.tup xs)->H' b=aA (.tup xs)):Ji H' k b:=by
 cases k with
 |inl l=>exact ht _ _ h
 |inr p=>obtain⟨c,h1,h2⟩:=h;exact⟨c,ht _ _ h1,ht _ _ h2⟩
section
variable(P:bu)(w:ck)
def Z9(H:Hp)(h:dq)(a:ak):HO->Prop
 | .lst xs=>xs.length<=sizeLine/\∃(its:List aj) (n:Nat),Zw xs its/\h.get? a=aA {cls:=.type "list",data:=.seq its.toArray n}
 | .tup xs=>xs.length<=sizeLine/\∃its:List aj,Zw xs its/\IsTup h a its.toArray
 | .dK kvs ep=>kvs.length<=sizeLine/\(a==d8)=aD/\∃vs,KV kvs vs/\h.DictAt (Zk P w) a vs ep
 | .dT kvs ep bs=>kvs.length<=sizeLine/\(a==d8)=aD/\∃xs:List (List Key×ak×aj),
   Paired (λ(p:List Key×V) (q:List Key×ak×aj)=>p.1=q.1/\H q.2.1=aA (.tup (p.1.map kV))/\Zm p.2 q.2.2) kvs xs/\
   ∃o es,h.get? a=aA o/\o.ExactDict/\o.data= .dict es ep/\es.toList=xs.map (entryOfKey (tupleKind (Zk P w)))/\(xs.map (·.1)).Nodup/\(xs.map λx=>x.2.1)=bs
 | .dN kvs ep bs=>kvs.length<=sizeLine/\(a==d8)=aD/\∃xs:List (Zj×ak×aj),
   Paired (λ(p:Zj×V) (q:Zj×ak×aj)=>p.1=q.1/\Ji H p.1 q.2.1/\Zm p.2 q.2.2) kvs xs/\
   ∃o es,h.get? a=aA o/\o.ExactDict/\o.data= .dict es ep/\es.toList=xs.map (entryOfKey (E7 P w))/\(xs.map (·.1)).Nodup/\(xs.map λx=>x.2.1)=bs
 | .set S n=>h.SetOf (intKind P w) a S n
 | .ins C dx fs=>H dx=aA (.own a)/\fs.length<=1000/\dx≠a/\h.get? a=aA (PySem.W.instObj C dx)/\
   ∃mA,h.Ns1 dx mA/\(∀f,C3 (fs.lookup f) (mA f))/\PySem.Within mA (fs.map (·.1))
 | .own _=>∃o,h.get? a=aA o
 | .xd fs=>∃mA,h.Ns1 a mA/\∀f,C3 (fs.lookup f) (mA f)
 | .rng lo hi=>∃t u v,h.get? a=aA {cls:=.type "range",data:=.fields #[.int lo t,.int hi u,.int 1 v]}
 | .frz o u=>h.get? a=aA o/\Z9 H h a u
 | .tbl ps=>h.get? a=aA {cls:=.none,data:=.fields ps}
 | .met f x=>h.get? a=aA (PySem.W.methodObj (.ref f) (.ref x))
 | .tab q=>∃ps:Array aj,h.get? a=aA {cls:=.none,data:=.fields ps}/\TriplesOk ps.toList/\∀pos cv,codeAmong pos ps.toList=aA cv->∃c o vs t,cv= .ref c/\H c=aA (.frz o (.own a))/\o.data= .fields vs/\vs[1]? =aA (.str q t)
 | .ext φ=>φ h/\(∃o,h.get? a=aA o)/\∀h1 h2:dq,φ h1->(∀o,h1.get? a=aA o->h2.get? a=aA o)->φ h2
def Cq(H:Hp)(h:dq):Prop:=∀a o,H a=aA o->Z9 P w H h a o
end
section
variable{P:bu}{w:ck}{H H':Hp}{h h':dq}{a:ak}{o:HO}
theorem Z9.lt(x:Z9 P w H h a o):a<h.objs.size:=by
 cases o with
 |lst xs=>obtain⟨_,_,_,_,e⟩:=x;exact bc e
 |tup xs=>obtain⟨_,_,_,p⟩:=x;exact p.lt
 |dK kvs ep=>obtain⟨_,_,_,_,o,_,e,_⟩:=x;exact bc e
 |dT kvs ep bs=>obtain⟨_,_,_,_,o,_,e,_⟩:=x;exact bc e
 |dN kvs ep bs=>obtain⟨_,_,_,_,o,_,e,_⟩:=x;exact bc e
 |set S n=>obtain⟨o,_,_,_,e,_⟩:=x;exact bc e
 |ins C dx fs=>obtain⟨_,_,_,e,_⟩:=x;exact bc e
 |own y=>obtain⟨_,e⟩:=x;exact bc e
 |xd fs=>obtain⟨_,⟨_,_,_,e,_⟩,_⟩:=x;exact bc e
 |rng lo hi=>obtain⟨_,_,_,e⟩:=x;exact bc e
 |frz ob u=>obtain⟨e,_⟩:=x;exact bc e
 |tbl ps=>exact bc (show h.get? a=aA _ from x)
 |met f y=>exact bc (show h.get? a=aA _ from x)
 |tab q=>obtain⟨_,e,_⟩:=x;exact bc e
 |ext φ=>obtain⟨_,⟨_,e⟩,_⟩:=x;exact bc e
theorem Paired.mapP{α β:Type}{F G:α->β->Prop}{l₁:List α}{l₂:List β}(h:Paired F l₁ l₂)(f:∀a b,F a b->G a b):Paired G l₁ l₂:=by
 induction h with
 |nil=>exact .nil
 |cons r _ ih=>exact .cons (f _ _ r) ih
theorem Z9.stay(x:Z9 P w H h a o)(k:∀b u,(b=a\/H b=aA (.own a))->h.get? b=aA u->h'.get? b=aA u)
  (ho:∀b,H b=aA (.own a)->H' b=aA (.own a)) (ht:∀b xs,H b=aA (.tup xs)->H' b=aA (.tup xs))
  (hz:∀b o,H b=aA (.frz o (.own a))->H' b=aA (.frz o (.own a)):=by first|exact λ_ _ q=>q| (intro b o q;rw[Zn (Y1 q (by assumption))];exact q)):Z9 P w H' h' a o:=by
 induction o with
 |lst xs=>obtain⟨z,its,n,r,e⟩:=x;exact⟨z,its,n,r,k _ _ (.inl rfl) e⟩
 |tup xs=>obtain⟨z,its,r,ob,e,c⟩:=x;exact⟨z,its,r,ob,k _ _ (.inl rfl) e,c⟩
 |dK kvs ep=>obtain⟨z,y,vs,r,ob,es,e,c⟩:=x;exact⟨z,y,vs,r,ob,es,k _ _ (.inl rfl) e,c⟩
 |dT kvs ep bs=>obtain⟨z,y,xs,r,ob,es,e,c⟩:=x;exact⟨z,y,xs,Paired.mapP r λp q z=>⟨z.1,ht _ _ z.2.1,z.2.2⟩,ob,es,k _ _ (.inl rfl) e,c⟩
 |dN kvs ep bs=>obtain⟨z,y,xs,r,ob,es,e,c⟩:=x;exact⟨z,y,xs,Paired.mapP r λp q z=>⟨z.1,z.2.1.mono ht,z.2.2⟩,ob,es,k _ _ (.inl rfl) e,c⟩
 |set S n=>obtain⟨ob,es,ep,t,e,c⟩:=x;exact⟨ob,es,ep,t,k _ _ (.inl rfl) e,c⟩
 |ins C dx fs=>obtain⟨d,z,ne,e,mA,⟨od,es,ep,e2,c⟩,r⟩:=x;exact⟨ho _ d,z,ne,k _ _ (.inl rfl) e,mA,⟨od,es,ep,k _ _ (.inr d) e2,c⟩,r⟩
 |own y=>obtain⟨ob,e⟩:=x;exact⟨ob,k _ _ (.inl rfl) e⟩
 |xd fs=>obtain⟨mA,⟨od,es,ep,e,c⟩,r⟩:=x;exact⟨mA,⟨od,es,ep,k _ _ (.inl rfl) e,c⟩,r⟩
 |rng lo hi=>obtain⟨t,u,v,e⟩:=x;exact⟨t,u,v,k _ _ (.inl rfl) e⟩
 |frz ob u ih=>obtain⟨e,q⟩:=x;exact⟨k _ _ (.inl rfl) e,ih q⟩
 |tbl ps=>have e:h.get? a=aA {cls:=.none,data:=.fields ps}:=x;show h'.get? a=aA {cls:=.none,data:=.fields ps};exact k a _ (.inl rfl) e
 |met f y=>have e:h.get? a=aA (PySem.W.methodObj (.ref f) (.ref y)):=x;show h'.get? a=aA (PySem.W.methodObj (.ref f) (.ref y));exact k a _ (.inl rfl) e
 |tab q=>obtain⟨ps,e,t,c⟩:=x;refine⟨ps,k _ _ (.inl rfl) e,t,λpos cv z=>?_⟩;obtain⟨c1,o1,vs,tt,e1,e2,r⟩:=c pos cv z;exact⟨c1,o1,vs,tt,e1,hz _ _ e2,r⟩
 |ext φ=>obtain⟨p,⟨o,e⟩,st⟩:=x;exact⟨st _ _ p λo q=>k _ _ (.inl rfl) q,⟨o,k _ _ (.inl rfl) e⟩,st⟩
theorem Cq.lt(x:Cq P w H h)(e:H a=aA o):a<h.objs.size:=(x a o e).lt
theorem Cq.fresh(x:Cq P w H h)(e:h.objs.size<=a):H a=aB:=by
 cases q:H a with
 |none=>rfl
 |some u=>exact absurd (cu (x.lt q) e) (gv _)
theorem Cq.kept(x:Cq P w H h)(k:∀b u,h.get? b=aA u->h'.get? b=aA u):Cq P w H h':=λa o e=>
 (x a o e).stay (λb u _ q=>k b u q) (λ_ q=>q) λ_ _ q=>q
theorem Cq.laid(x:Cq P w H h)(k:∀b u,h.get? b=aA u->h'.get? b=aA u)(hp:h.objs.size<=a)(new:Z9 P w (Z5 H a o) h' a o):Cq P w (Z5 H a o) h':=λb u e=>by
 have hn:=x.fresh hp;by_cases hb:b=a
 ·subst hb;rw[Z3]at e;cases e;exact new
 ·rw[Zn hb]at e;exact(x b u e).stay (λc v _ q=>k c v q) (λc q=>by rw[Zn (Y1 q hn)];exact q) λc xs q=>by rw[Zn (Y1 q hn)];exact q
end
def Rd(H:Hp)(a:ak)(u:HO):Prop:=H a=aA u\/∃o,H a=aA (.frz o u)
theorem Rd.ok{P:bu}{w:ck}{H:Hp}{h:dq}{a:ak}{u:HO}(r:Rd H a u)(x:Cq P w H h):Z9 P w H h a u:=by
 rcases r with r|⟨o,r⟩
 ·exact x a u r
 ·obtain⟨_,q⟩:=x a _ r;exact q
def HK(H:Hp)(a:ak)(kvs:List (Key×V)):Prop:=∃ep,H a=aA (.dK kvs ep)
def HTt(H:Hp)(a:ak)(kvs:List (List Key×V)):Prop:=∃ep bs,H a=aA (.dT kvs ep bs)
def RdK(H:Hp)(a:ak)(kvs:List (Key×V)):Prop:=∃ep,Rd H a (.dK kvs ep)
def RdT(H:Hp)(a:ak)(kvs:List (List Key×V)):Prop:=∃ep bs,Rd H a (.dT kvs ep bs)
theorem HK.rd{H:Hp}{a:ak}{kvs:List (Key×V)}(h:HK H a kvs):RdK H a kvs:=let⟨ep,h⟩:=h;⟨ep,.inl h⟩
def Nk(kvs:List (List Key×V))(bs:List ak)(k:List Key)(b:ak):List Addr:=if(kvs.any λkv=>decide (kv.1=k))=aC then bs else bs++[b]
theorem HTt.rd{H:Hp}{a:ak}{kvs:List (List Key×V)}(h:HTt H a kvs):RdT H a kvs:=let⟨ep,bs,h⟩:=h;⟨ep,bs,.inl h⟩
def Mut:Option HO->Prop
 |some (.lst _)=>True
 |some (.dK _ _)=>True
 |some (.dT _ _ _)=>True
 |some (.dN _ _ _)=>True
 |some (.set _ _)=>True
 |some (.ins _ _ _)=>True
 |some (.ext _)=>True
 |_=>False
section
variable{P:bu}{w:ck}{H:Hp}{h h':dq}{x e:ak}{o':HO}
theorem Cq.write(ok:Cq P w H h)(mu:Mut (H x))(he:e=x\/H e=aA (.own x))(k:∀b u,b≠e->h.get? b=aA u->h'.get? b=aA u)(heo:∃u,h'.get? e=aA u)
  (new:Z9 P w (Z5 H x o') h' x o'):Cq P w (Z5 H x o') h':=λb u q=>by
 have nown:∀c y,H c=aA (.own y)->c≠x:=λc y r z=>by subst z;rw[r]at mu;exact mu
 have ntup:∀c xs,H c=aA (.tup xs)->c≠x:=λc xs r z=>by subst z;rw[r]at mu;exact mu
 by_cases hb:b=x
 ·subst hb;rw[Z3]at q;cases q;exact new
 ·rw[Zn hb]at q;by_cases hbe:b=e
  ·have q':H b=aA (.own x):=by
    rcases he with z|z
    ·exact absurd (hbe.trans z) hb
    ·rw[hbe];exact z
   rw[q]at q';cases q';obtain⟨v,hv⟩:=heo;exact⟨v,by rw[hbe];exact hv⟩
  ·refine(ok b u q).stay (λc v hc r=>k c v ?_ r) (λc r=>by rw[Zn (nown c b r)];exact r) (λc xs r=>by rw[Zn (ntup c xs r)];exact r) λc o r=>by rw[Zn (λz=>by subst z;rw[r]at mu;exact mu)];exact r
   rcases hc with rfl|hc
   ·exact hbe
   ·rintro rfl;rcases he with z|z
    ·exact nown c b hc z
    ·rw[hc]at z;cases z;exact hb rfl
end
structure Un(fs ex:List ak)(H H':Hp)(h h':dq):Prop where
 keep:∀b o,h.get? b=aA o->H b=aB->b∉fs->b∉ex->h'.get? b=aA o
 slot:∀b o,h.get? b=aA o->H b=aB->b∈fs->b∉ex->∃sl,h'.get? b=aA {o with slots:=sl}
 free:∀b o,h.get? b=aA o->H b=aB->b∉ex->H' b=aB
 there:∀b o,h.get? b=aA o->b∉ex->∃o',h'.get? b=aA o'
 tups:∀b xs,H b=aA (.tup xs)->H' b=aA (.tup xs)
 frzs:∀b o u,H b=aA (.frz o u)->H' b=aA (.frz o u)
 tbls:∀b ps,H b=aA (.tbl ps)->∃more,H' b=aA (.tbl (ps++more))
section
variable{fs fs' ex ex':List ak}{H H1 H2:Hp}{h h1 h2 h':dq}{a x e:ak}{o:HO}
theorem Un.any(u:Un fs ex H H1 h h1){b:ak}{ob:Obj}(q:h.get? b=aA ob)(n:H b=aB)(hx:b∉ex):∃sl,h1.get? b=aA {ob with slots:=sl}:=by
 by_cases hb:b∈fs
 ·exact u.slot b ob q n hb hx
 ·exact⟨ob.slots,u.keep b ob q n hb hx⟩
theorem Un.kept(k:∀b u,h.get? b=aA u->h'.get? b=aA u):Un fs ex H H h h':=
 ⟨λb ob q _ _ _=>k b ob q,λb ob q _ _ _=>⟨ob.slots,k b ob q⟩,λ_ _ _ n _=>n,λb ob q _=>⟨ob,k b ob q⟩,λ_ _ q=>q,λ_ _ _ q=>q,λ_ ps q=>⟨#[],by rw[q];simp⟩⟩
theorem Un.refl:Un fs ex H H h h:=Un.kept λ_ _ q=>q
theorem Un.laid(k:∀b u,h.get? b=aA u->h'.get? b=aA u)(hp:h.objs.size<=a)(hn:H a=aB):Un fs ex H (Z5 H a o) h h' where
 keep:=λb u q _ _ _=>k b u q
 slot:=λb u q _ _ _=>⟨u.slots,k b u q⟩
 free:=λb u q n _=>by rw[Zn (b4 (cu (bc q) hp))];exact n
 there:=λb u q _=>⟨u,k b u q⟩
 tups:=λb xs q=>by rw[Zn (Y1 q hn)];exact q
 frzs:=λb u xs q=>by rw[Zn (Y1 q hn)];exact q
 tbls:=λb ps q=>⟨#[],by rw[Zn (Y1 q hn),q];simp⟩
theorem Un.write(mu:Mut (H x))(he:e=x\/H e=aA (.own x))(k:∀b u,b≠e->h.get? b=aA u->h'.get? b=aA u)(heo:∃u,h'.get? e=aA u):Un fs ex H (Z5 H x o) h h':=by
 have hx:∀b,H b=aB->b≠x:=λb n z=>by subst z;rw[n]at mu;exact mu
 have hb:∀b,H b=aB->b≠e:=λb n z=>by
  subst z;rcases he with r|r
  ·exact hx b n r
  ·rw[n]at r;cases r
 have hm:∀b u,H b=aA u->¬Mut (aA u)->b≠x:=λb u q nm z=>by subst z;rw[q]at mu;exact nm mu
 refine⟨λb u q n _ _=>k b u (hb b n) q,λb u q n _ _=>⟨u.slots,k b u (hb b n) q⟩,λb u q n _=>by rw[Zn (hx b n)];exact n,λb u q _=>?_,
  λb xs q=>by rw[Zn (hm b _ q λz=>z)];exact q,λb u xs q=>by rw[Zn (hm b _ q λz=>z)];exact q,λb ps q=>⟨#[],by rw[Zn (hm b _ q λz=>z),q];simp⟩⟩
 by_cases hbe:b=e
 ·subst hbe;exact heo
 ·exact⟨u,k b u hbe q⟩
end
def trk(h:dq)(H:Hp):List Addr:=(cr h.objs.size).filter λa=>(H a).isSome
def Kf(h:dq)(H:Hp):Heap:=PySem.W.hideAll h (trk h H)
theorem Zaq(h:dq)(H:Hp):(Kf h H).objs.size=h.objs.size:=PySem.W.hideAll_size _ _
theorem Zcd{h:dq}{H:Hp}{b:ak}{o:Obj}(e:h.get? b=aA o)(n:H b=aB):(Kf h H).get? b=aA o:=
 PySem.W.hideAll_get _ e λhm=>by have q:(H b).isSome=aC:=(List.mem_filter.mp hm).2;rw[n]at q;simp at q
theorem Zg9{h:dq}{H:Hp}{b:ak}{o:Obj}(e:(Kf h H).get? b=aA o):h.get? b=aA o/\H b=aB:=by
 have e':h.get? b=aA o:=PySem.W.of_hideAll (trk h H) e;refine⟨e',?_⟩;cases q:H b with
 |none=>rfl
 |some x=>have hm:b∈trk h H:=List.mem_filter.mpr ⟨cw.mpr (bc e'),by simp[q]⟩;have z:(Kf h H).get? b=aB:=PySem.W.hideAll_none (trk h H) hm;rw[z]at e;cases e
def Zha(g h:dq)(L:ak):List (ak×Obj):=(cr h.objs.size).filterMap λa=>if a=L\/(g.get? a).isSome=aC then aB else(h.get? a).map λo=>(a,o)
def rest(g h:dq)(L d:ak):List (ak×Obj):=(Zha g h L).filter λp=>decide (p.1≠d)
structure Mod(K:af)(mg:Str->Option aj)(base:dq):Prop where
 kin:K.In base
 glob:base.Ns b6 mg
 blt:∃mb,base.Ns builtinsNs mb/\∀x:Str,x≠"__name__"->mb x=bootBuiltins x
 nolimit:base.NoLimit
set_option genInjectivity false in
structure Cx where
 prog:bu
 w:ck
 K:af
 mg:Str->Option aj
 base:dq
 A:cj
 N:List Str
 s₀:am
 H₀:Hp
 env:Env
 outer:List Env
 stack:List Env
 ex:List ak
 fn:Str->Bool
 calm:Bool
 pn:List (ak×Obj)
 xe:aj->am->Prop
def frs(l:List Env):List Addr:=l.filterMap (·.frame)
abbrev Cx.fs(X:Cx):List Addr:=frs X.outer
def Sy(sc:Scope)(x:Str):Prop:=sc.names.lookup x=aA .local\/sc.names.lookup x=aA .cell\/sc.names.lookup x=aA .free
def Loc(sc:Scope)(x:Str):Prop:=sc.names.lookup x=aA .local\/sc.names.lookup x=aA .cell
def Zo3(env:Env)(h:dq)(m:Str->Option aj)(x:Str)(u:aj):Prop:=
 (env.kindOf x=aA .local/\m x=aA u)\/((env.kindOf x=aA .cell\/env.kindOf x=aA .free)/\∃c,env.cells.lookup x=aA c/\h.IsCell c (aA u))
set_option genInjectivity false in
structure Cx.Ok(X:Cx):Prop where
 mod:Mod X.K X.mg X.base
 kind:X.env.scope.kind= .function
 glob:X.env.globals=b6
 blt:X.env.builtins=builtinsNs
 above:X.s₀.heap.objs.size<=X.env.locals
 inj:∀x y c,X.env.cells.lookup x=aA c->X.env.cells.lookup y=aA c->x=y
 has:∀x,(X.env.kindOf x=aA .cell\/X.env.kindOf x=aA .free)->∃c,X.env.cells.lookup x=aA c
 cab:∀x c,X.fn x=aC->X.env.cells.lookup x=aA c->X.s₀.heap.objs.size<=c
 hd:X.calm=aC->X.A.handled=aB
 frames:X.A.frames=aA X.stack
 stk:X.stack=X.outer\/(X.stack=X.env::X.outer/\X.env.frame=aA X.env.locals)
 exf:∀b∈X.ex,b≠X.env.locals/\∀x c,X.env.cells.lookup x=aA c->c≠b
 bs:∀b o,X.base.get? b=aA o->X.s₀.heap.get? b=aA o/\X.H₀ b=aB
 bsz:X.base.objs.size<=X.s₀.heap.objs.size
 noex:∀b o,X.base.get? b=aA o->b∉X.ex
 exfs:∀b∈X.ex,b∉X.fs
 funs:X.s₀.heap.FunFrames X.base X.outer
 frf:∀b∈X.fs,X.H₀ b=aB
structure Inv(X:Cx)(pins:List (ak×Obj))(σ:List (Option V))(H:Hp)(s:am):Prop where
 ok:X.Ok
 os:s.os=X.s₀.os
 bare:AllBare s.gens
 base:Un X.fs X.ex X.H₀ H X.s₀.heap s.heap
 loc:∃m,s.heap.Ns X.env.locals m/\∀(i:Nat) (x:Str) (v:V),X.N[i]? =aA x->σ[i]? =aA (aA v)->Sy X.env.scope x->∃u,Zm v u/\Zo3 X.env s.heap m x u
 cell:∀x c,X.env.cells.lookup x=aA c->∃v,s.heap.IsCell c v
 free:H X.env.locals=aB
 freeC:∀x c,X.env.cells.lookup x=aA c->H c=aB
 pin:∀p∈X.pn++pins,s.heap.get? p.1=aA p.2/\H p.1=aB/\p.1≠X.env.locals/\p.1∉X.fs/\∀v,p.2.data≠.cell v
 hok:Cq X.prog X.w H s.heap
 len:σ.length=X.N.length
section
variable{X:Cx}{pins:List (ak×Obj)}{σ:List (Option V)}{H H':Hp}{s:am}{h':dq}
theorem Cx.Ok.nofr(ok:X.Ok){b:ak}{o:Obj}(e:X.base.get? b=aA o):b∉X.fs:=λhb=>by have:=(ok.funs.mem hb).1;rw[e]at this;cases this
theorem Inv.bs(I:Inv X pins σ H s):∀b o,X.base.get? b=aA o->s.heap.get? b=aA o/\H b=aB:=λb o e=>
 ⟨I.base.keep b o (I.ok.bs b o e).1 (I.ok.bs b o e).2 (I.ok.nofr e) (I.ok.noex b o e),I.base.free b o (I.ok.bs b o e).1 (I.ok.bs b o e).2 (I.ok.noex b o e)⟩
theorem Inv.bk(I:Inv X pins σ H s):∀b o,X.base.get? b=aA o->s.heap.get? b=aA o:=λb o e=>(I.bs b o e).1
theorem Inv.mod(I:Inv X pins σ H s):Mod X.K X.mg X.base:=I.ok.mod
theorem Inv.kIn(I:Inv X pins σ H s):X.K.In s.heap:=I.ok.mod.kin.keeps I.bk
theorem Inv.lt(I:Inv X pins σ H s):X.env.locals<s.heap.objs.size:=let⟨_,hn,_⟩:=I.loc;hn.lt
theorem Inv.sz(I:Inv X pins σ H s):X.s₀.heap.objs.size<=s.heap.objs.size:=d3 I.ok.above (Nat.le_of_lt I.lt)
theorem Inv.nofs(I:Inv X pins σ H s){a:ak}(h:s.heap.objs.size<=a):a∉X.fs:=λhb=>by obtain⟨_,o,ho,_⟩:=I.ok.funs.mem hb;exact absurd (cu (bc ho) (d3 I.sz h)) (gv _)
theorem Inv.cne(I:Inv X pins σ H s):∀x c,X.env.cells.lookup x=aA c->c≠X.env.locals:=λx c e z=>by obtain⟨v,o,ho,hd⟩:=I.cell x c e;obtain⟨m,⟨o',es,ep,ho',hd',_⟩,_⟩:=I.loc;rw[z,ho']at ho;cases ho;rw[hd']at hd;cases hd
theorem Inv.funs(I:Inv X pins σ H s):s.heap.FunFrames X.base X.outer:=by
 have all:∀(l:List Env),(∀b∈frs l,b∈X.fs)->X.s₀.heap.FunFrames X.base l->s.heap.FunFrames X.base l:=by
  intro l;induction l with
  |nil=>intro _ _;trivial
  |cons env r ih=>intro hs hl;obtain⟨hk,⟨L,o,hf,hn,ho,hd⟩,hr⟩:=hl;have hL:L∈X.fs:=hs L (by unfold frs;rw[List.filterMap_cons,hf];exact ah);obtain⟨sl,e⟩:=I.base.slot L o ho (I.ok.frf L hL) hL λz=>I.ok.exfs L z hL;exact⟨hk,⟨L,_,hf,hn,e,hd⟩,ih (λb hb=>hs b (by unfold frs;rw[List.filterMap_cons,hf];exact ar _ hb)) hr⟩
 exact all X.outer (λ_ hb=>hb) I.ok.funs
theorem Inv.stack(I:Inv X pins σ H s):s.heap.FunFrames X.base X.stack:=by
 rcases I.ok.stk with e|⟨e,hf⟩
 ·rw[e];exact I.funs
 ·rw[e];obtain⟨m,hn,_⟩:=I.loc;refine .cons (by rw[I.ok.kind];decide) hf hn ?_ I.funs;exact Heap.get?_none_of_le (d3 I.ok.bsz I.ok.above)
theorem Inv.stkSub(I:Inv X pins σ H s):∀b∈frs X.stack,b∈X.env.locals::X.fs:=λb hb=>by
 rcases I.ok.stk with e|⟨e,hf⟩
 ·rw[e]at hb;exact ar _ hb
 ·rw[e]at hb;unfold frs at hb;rw[List.filterMap_cons,hf]at hb;exact hb
theorem Inv.stkFree(I:Inv X pins σ H s):∀b∈frs X.stack,H b=aB:=λb hb=>by
 rcases bo.mp (I.stkSub b hb)with e|hb
 ·rw[e];exact I.free
 ·obtain⟨_,o,ho,_⟩:=I.ok.funs.mem hb;exact I.base.free b o ho (I.ok.frf b hb) λz=>I.ok.exfs b z hb
theorem Inv.step{g':Array GenState}{t':Nat}{d':Drawn}{ch:List ak}(I:Inv X pins σ H s)
  (hch:∀b∈ch,(b∈X.ex\/X.s₀.heap.objs.size<=b)/\b≠X.env.locals/\(∀x c,X.env.cells.lookup x=aA c->c≠b)/\∀p∈X.pn++pins,p.1≠b)
  (keep:∀b o,b≠X.env.locals->b∉X.fs->b∉ch->s.heap.get? b=aA o->H b=aB->h'.get? b=aA o)
  (slot:∀b o,b≠X.env.locals->b∈X.fs->b∉ch->s.heap.get? b=aA o->H b=aB->∃sl,h'.get? b=aA {o with slots:=sl}) (free:∀b o,b∉ch->s.heap.get? b=aA o->H b=aB->H' b=aB)
  (there:∀b o,b∉ch->s.heap.get? b=aA o->∃o',h'.get? b=aA o')
  (tups:∀b xs,H b=aA (.tup xs)->H' b=aA (.tup xs)) (frzs:∀b o u,H b=aA (.frz o u)->H' b=aA (.frz o u)) (tbls:∀b ps,H b=aA (.tbl ps)->∃more,H' b=aA (.tbl (ps++more)))
  (ns:∀m,s.heap.Ns X.env.locals m->h'.Ns X.env.locals m) (hok:Cq X.prog X.w H' h') (hg:AllBare g'):
  Inv X pins σ H' {s with heap:=h',gens:=g',drawn:=d',toks:=t'}:=by
 have neL:∀b o,X.s₀.heap.get? b=aA o->b≠X.env.locals:=λb o e=>b4 (cu (bc e) I.ok.above);have neC:∀b o,X.s₀.heap.get? b=aA o->b∉X.ex->b∉ch:=λb o e hx hb=>by
  rcases(hch b hb).1 with z|z
  ·exact hx z
  ·exact absurd (cu (bc e) z) (gv _)
 have cellK:∀x c,X.env.cells.lookup x=aA c->∀v,s.heap.IsCell c v->h'.IsCell c v:=λx c e v ⟨o,ho,hd⟩=>by
  have nch:c∉ch:=λz=>(hch c z).2.2.1 x c e rfl;by_cases hc:c∈X.fs
  ·obtain⟨sl,q⟩:=slot c o (I.cne x c e) hc nch ho (I.freeC x c e);exact⟨_,q,hd⟩
  ·exact⟨o,keep c o (I.cne x c e) hc nch ho (I.freeC x c e),hd⟩
 refine⟨I.ok,I.os,hg,⟨λb o e n hb hx=>?_,λb o e n hb hx=>?_,λb o e n hx=>?_,λb o e hx=>?_,λb xs e=>tups b xs (I.base.tups b xs e),λb o xs e=>frzs b o xs (I.base.frzs b o xs e),λb ps e=>?_⟩,?_,λx c e=>?_,?_,λx c e=>?_,λp hp=>?_,hok,I.len⟩
 ·exact keep b o (neL b o e) hb (neC b o e hx) (I.base.keep b o e n hb hx) (I.base.free b o e n hx)
 ·obtain⟨sl,e1⟩:=I.base.slot b o e n hb hx;obtain⟨sl',e2⟩:=slot b _ (neL b o e) hb (neC b o e hx) e1 (I.base.free b o e n hx);exact⟨sl',e2⟩
 ·obtain⟨o',e1⟩:=I.base.there b o e hx;exact free b o' (neC b o e hx) e1 (I.base.free b o e n hx)
 ·obtain⟨o',e1⟩:=I.base.there b o e hx;exact there b o' (neC b o e hx) e1
 ·obtain⟨m1,e1⟩:=I.base.tbls b ps e;obtain⟨m2,e2⟩:=tbls b _ e1;exact⟨m1++m2,by rw[e2,Array.append_assoc]⟩
 ·obtain⟨m,hn,hl⟩:=I.loc;refine⟨m,ns m hn,λi x v e1 e2 e3=>?_⟩;obtain⟨u,r,l⟩:=hl i x v e1 e2 e3;refine⟨u,r,?_⟩;rcases l with l|⟨k,c,e,z⟩
  ·exact .inl l
  ·exact .inr ⟨k,c,e,cellK x c e _ z⟩
 ·obtain⟨v,z⟩:=I.cell x c e;exact⟨v,cellK x c e v z⟩
 ·obtain⟨m,⟨o,_,_,ho,_⟩,_⟩:=I.loc;exact free _ o (λz=>(hch _ z).2.1 rfl) ho I.free
 ·obtain⟨v,o,ho,hd⟩:=I.cell x c e;exact free c o (λz=>(hch c z).2.2.1 x c e rfl) ho (I.freeC x c e)
 ·obtain⟨e,n,ne,nf,d⟩:=I.pin p hp;have nch:p.1∉ch:=λz=>(hch p.1 z).2.2.2 p hp rfl;exact⟨keep p.1 p.2 ne nf nch e n,free p.1 p.2 nch e n,ne,nf,d⟩
theorem Inv.un{t':Nat}(I:Inv X pins σ H s)(u:Un X.fs [] H H' s.heap h')(hok:Cq X.prog X.w H' h'):Inv X pins σ H' {s with heap:=h',toks:=t'}:=by
 obtain⟨m,⟨o,es,ep,ho,r⟩,_⟩:=id I.loc;obtain⟨sl,hL⟩:=u.any ho I.free (by simp);exact I.step (g':=s.gens) (d':=s.drawn) (ch:=[]) (λ_ z=>nomatch z) (λb o _ hb _ e n=>u.keep b o e n hb (by simp)) (λb o _ hb _ e n=>u.slot b o e n hb (by simp)) (λb o _ e n=>u.free b o e n (by simp)) (λb o _ e=>u.there b o e (by simp)) u.tups u.frzs u.tbls (λm' hm=>by
  obtain⟨o',es',ep',ho',r'⟩:=hm;rw[ho]at ho';cases ho';exact⟨_,es',ep',hL,r'⟩) hok I.bare
theorem Inv.call{g':Array GenState}{t':Nat}{d':Drawn}{ch:List ak}(I:Inv X pins σ H s)(u:Un (frs X.stack) ch H H' s.heap h')(hok:Cq X.prog X.w H' h')(hg:AllBare g')
  (hch:∀b∈ch,(b∈X.ex\/X.s₀.heap.objs.size<=b)/\b≠X.env.locals/\(∀x c,X.env.cells.lookup x=aA c->c≠b)/\∀p∈X.pn++pins,p.1≠b):
  Inv X pins σ H' {s with heap:=h',gens:=g',drawn:=d',toks:=t'}:=by
 obtain⟨m,⟨o,es,ep,ho,r⟩,_⟩:=id I.loc;obtain⟨sl,hL⟩:=u.any ho I.free λz=>(hch _ z).2.1 rfl;exact I.step (ch:=ch) hch (λb o hL hb hc e n=>u.keep b o e n (λz=>(bo.mp (I.stkSub b z)).elim hL hb) hc) (λb o _ _ hc e n=>u.any e n hc) (λb o hc e n=>u.free b o e n hc) (λb o hc e=>u.there b o e hc) u.tups u.frzs u.tbls (λm' hm=>by
  obtain⟨o',es',ep',ho',r'⟩:=hm;rw[ho]at ho';cases ho';exact⟨_,es',ep',hL,r'⟩) hok hg
theorem Inv.turned{t':Nat}{it:ak}(I:Inv X pins σ H s)(k:∀b o,b≠it->s.heap.get? b=aA o->h'.get? b=aA o)(hn:H it=aB)(hL:it≠X.env.locals)
  (h1:it∈X.ex\/X.s₀.heap.objs.size<=it) (h2:∀x c,X.env.cells.lookup x=aA c->c≠it) (h3:∀p∈X.pn++pins,p.1≠it):Inv X pins σ H {s with heap:=h',toks:=t'}:=by
 have nit:∀b u,H b=aA u->b≠it:=λb u e z=>by rw[z,hn]at e;cases e
 refine I.step (g':=s.gens) (d':=s.drawn) (ch:=[it]) (λb hb=>?_) (λb o _ _ hc e _=>k b o (λz=>hc (by simp[z])) e) (λb o _ _ hc e _=>⟨o.slots,k b o (λz=>hc (by simp[z])) e⟩) (λ_ _ _ _ n=>n)
  (λb o hc e=>⟨o,k b o (λz=>hc (by simp[z])) e⟩) (λ_ _ e=>e) (λ_ _ _ e=>e) (λb ps e=>⟨#[],by rw[e];simp⟩) (λm hm=>?_) (λb u e=>?_) I.bare
 ·have e:b=it:=by simpa using hb
  subst e;exact⟨h1,hL,h2,h3⟩
 ·obtain⟨o,es,ep,ho,r⟩:=hm;exact⟨o,es,ep,k _ o (Ne.symm hL) ho,r⟩
 ·refine(I.hok b u e).stay (λc v hc q=>k c v ?_ q) (λ_ q=>q) λ_ _ q=>q;rcases hc with z|z
  ·rw[z];exact nit b u e
  ·exact nit c _ z
theorem Inv.tok(I:Inv X pins σ H s)(t:Nat):Inv X pins σ H {s with toks:=t}:=I.un (h':=s.heap) (t':=t) Un.refl I.hok
theorem Inv.kept{t':Nat}(I:Inv X pins σ H s)(k:∀b u,s.heap.get? b=aA u->h'.get? b=aA u):Inv X pins σ H {s with heap:=h',toks:=t'}:=I.un (Un.kept k) (I.hok.kept k)
theorem Inv.laid{a:ak}{o:HO}{t':Nat}(I:Inv X pins σ H s)(k:∀b u,s.heap.get? b=aA u->h'.get? b=aA u)(hp:s.heap.objs.size<=a)(new:Z9 X.prog X.w (Z5 H a o) h' a o):
  Inv X pins σ (Z5 H a o) {s with heap:=h',toks:=t'}:=I.un (Un.laid k hp (I.hok.fresh hp)) (I.hok.laid k hp new)
theorem Inv.write{x e:ak}{o:HO}{t':Nat}(I:Inv X pins σ H s)(mu:Mut (H x))(he:e=x\/H e=aA (.own x))(k:∀b u,b≠e->s.heap.get? b=aA u->h'.get? b=aA u)(heo:∃u,h'.get? e=aA u)
  (new:Z9 X.prog X.w (Z5 H x o) h' x o):Inv X pins σ (Z5 H x o) {s with heap:=h',toks:=t'}:=I.un (Un.write mu he k heo) (I.hok.write mu he k heo new)
theorem Inv.pins_of{pins':List (ak×Obj)}(I:Inv X pins σ H s)(h:∀p∈pins',s.heap.get? p.1=aA p.2/\H p.1=aB/\p.1≠X.env.locals/\p.1∉X.fs/\∀v,p.2.data≠.cell v):Inv X pins' σ H s:=
 ⟨I.ok,I.os,I.bare,I.base,I.loc,I.cell,I.free,I.freeC,λp hp=>(cn.mp hp).elim (λz=>I.pin p (List.mem_append_left _ z)) (h p),I.hok,I.len⟩
theorem Nl{N:List Str}(hN:N.Nodup){i j:Nat}{x:Str}(a:N[i]? =aA x)(b:N[j]? =aA x):i=j:=by obtain⟨h1,e1⟩:=ax.mp a;obtain⟨h2,e2⟩:=ax.mp b;exact(List.getElem_inj hN).mp (e1.trans e2.symm)
theorem E8{M:Model}{A:cj}{E:aj->am->Prop}{i:Nat}{x:Str}{v:V}{u:aj}{Q:Unit->am->Prop}(I:Inv X pins σ H s)(hN:X.N.Nodup)(hi:X.N[i]? =aA x)(hx:Loc X.env.scope x)(r:Zm v u)
  (h:∀s',Inv X pins (σ.set i (aA v)) H s'->(∃a,g7 a s.heap s'.heap/\(a=X.env.locals\/X.env.cells.lookup x=aA a))->Q () s') (hf:X.fn x=aC\/X.env.scope.names.lookup x=aA .local:=by first|exact .inl rfl|exact .inr rfl|assumption):ba M A (storeName X.env x u) Q E s:=by
 obtain⟨m,hn,hl⟩:=id I.loc;have hcls:(X.env.scope.kind== .class|| (X.env.scope.kind== .module&&X.env.locals !=X.env.globals))=aD:=by rw[I.ok.kind];rfl
 have hiσ:i<σ.length:=by rw[I.len];exact(ax.mp hi).1
 have cne:=I.cne;have tracked:∀{a:ak} {h':dq},(∃o,s.heap.get? a=aA o/\H a=aB)->g7 a s.heap h'->Cq X.prog X.w H h':=fun{a h'} ha hs b ob e=>by
  obtain⟨_,_,hfree⟩:=ha;refine(I.hok b ob e).stay (λc w' hc q=>(hs.2 c ?_).trans q) (λ_ q=>q) λ_ _ q=>q;rintro rfl;rcases hc with rfl|hc
  ·rw[hfree]at e;cases e
  ·rw[hfree]at hc;cases hc
 rcases hx with hk|hk
 ·refine wpAny_storeName_local hk hn (λh' hn' hs=>?_) hcls;obtain⟨oL,_,_,hoL,_⟩:=id hn;refine h _ ⟨I.ok,I.os,I.bare,⟨λb o e n hb hx=>?_,λb o e n hb hx=>?_,I.base.free,λb o e hx=>?_,I.base.tups,I.base.frzs,I.base.tbls⟩,⟨_,hn',λj y v' e1 e2 e3=>?_⟩,λy c e=>?_,I.free,I.freeC,λp hp=>?_,tracked ⟨oL,hoL,I.free⟩ hs,by simpa using I.len⟩ ⟨_,hs,.inl rfl⟩
  ·exact(hs.2 b (b4 (cu (bc e) I.ok.above))).trans (I.base.keep b o e n hb hx)
  ·obtain⟨sl,e1⟩:=I.base.slot b o e n hb hx;exact⟨sl,(hs.2 b (b4 (cu (bc e) I.ok.above))).trans e1⟩
  ·obtain⟨o',e1⟩:=I.base.there b o e hx;exact⟨o',(hs.2 b (b4 (cu (bc e) I.ok.above))).trans e1⟩
  ·by_cases hj:j=i
   ·subst hj;rw[hi]at e1;cases e1;rw[d5 hiσ]at e2;cases e2;exact⟨u,r,.inl ⟨hk,by simp⟩⟩
   ·rw[d6 (Ne.symm hj)]at e2;obtain⟨u',r',q⟩:=hl j y v' e1 e2 e3;refine⟨u',r',?_⟩;rcases q with⟨k,e⟩|⟨k,c,e,z⟩
    ·refine .inl ⟨k,?_⟩;have:y≠x:=λe=>hj (Nl hN e1 (e▸hi));simp[this,e]
    ·exact .inr ⟨k,c,e,z.sameBut hs (cne y c e)⟩
  ·obtain⟨w',z⟩:=I.cell y c e;exact⟨w',z.sameBut hs (cne y c e)⟩
  ·obtain⟨e,n,ne,nf,d⟩:=I.pin p hp;exact⟨(hs.2 p.1 ne).trans e,n,ne,nf,d⟩
 ·have hfn:X.fn x=aC:=by
   rcases hf with z|z
   ·exact z
   ·rw[z]at hk;cases hk
  obtain⟨c,hc⟩:=I.ok.has x (.inl hk);obtain⟨w',z⟩:=I.cell x c hc;refine wpAny_storeName_cell I.ok.kind hk hc z (λh' hc' hs=>?_);obtain⟨oc,hoc,hocd⟩:=id z;refine h {s with heap:=h'} ⟨I.ok,I.os,I.bare,⟨λb o e n hb hx=>?_,λb o e n hb hx=>?_,I.base.free,λb o e hx=>?_,I.base.tups,I.base.frzs,I.base.tbls⟩,⟨m,hn.sameBut hs (Ne.symm (cne x c hc)),λj y v' e1 e2 e3=>?_⟩,λy c' e=>?_,I.free,I.freeC,λp hp=>?_,tracked ⟨oc,hoc,I.freeC x c hc⟩ hs,by simpa using I.len⟩ ⟨c,hs,.inr hc⟩
  ·exact(hs.2 b (b4 (cu (bc e) (I.ok.cab x c hfn hc)))).trans (I.base.keep b o e n hb hx)
  ·obtain⟨sl,e1⟩:=I.base.slot b o e n hb hx;exact⟨sl,(hs.2 b (b4 (cu (bc e) (I.ok.cab x c hfn hc)))).trans e1⟩
  ·obtain⟨o',e1⟩:=I.base.there b o e hx;exact⟨o',(hs.2 b (b4 (cu (bc e) (I.ok.cab x c hfn hc)))).trans e1⟩
  ·by_cases hj:j=i
   ·subst hj;rw[hi]at e1;cases e1;rw[d5 hiσ]at e2;cases e2;exact⟨u,r,.inr ⟨.inl hk,c,hc,hc'⟩⟩
   ·rw[d6 (Ne.symm hj)]at e2;obtain⟨u',r',q⟩:=hl j y v' e1 e2 e3;refine⟨u',r',?_⟩;rcases q with q|⟨k,c',e,z'⟩
    ·exact .inl q
    ·refine .inr ⟨k,c',e,z'.sameBut hs ?_⟩;rintro rfl;exact hj (Nl hN e1 (I.ok.inj _ _ _ e hc▸hi))
  ·by_cases hcc:c'=c
   ·subst hcc;exact⟨_,hc'⟩
   ·obtain⟨w2,z2⟩:=I.cell y c' e;exact⟨w2,z2.sameBut hs hcc⟩
  ·obtain⟨e,n,ne,nf,d⟩:=I.pin p hp;refine⟨(hs.2 p.1 ?_).trans e,n,ne,nf,d⟩;intro q;rw[q,hoc]at e;have q':oc=p.2:=dm.inj e;exact d w' (by rw[<-q'];exact hocd)
theorem Nm{M:Model}{A:cj}{E:aj->am->Prop}{i:Nat}{x:Str}{v:V}{u:aj}{Q:Unit->am->Prop}(I:Inv X pins σ H s)(hN:X.N.Nodup)(hi:X.N[i]? =aA x)(hx:Loc X.env.scope x)(r:Zm v u)
  (h:∀s',Inv X pins (σ.set i (aA v)) H s'->Q () s') (hf:X.fn x=aC\/X.env.scope.names.lookup x=aA .local:=by first|exact .inl rfl|exact .inr rfl|assumption):ba M A (storeName X.env x u) Q E s:=
 E8 I hN hi hx r (λs' I' _=>h s' I') hf
theorem Inv.call'{s':am}{ch:List ak}(I:Inv X pins σ H s)(ho:s'.os=s.os)(u:Un (frs X.stack) ch H H' s.heap s'.heap)(hok:Cq X.prog X.w H' s'.heap)(hg:AllBare s'.gens)
  (hch:∀b∈ch,(b∈X.ex\/X.s₀.heap.objs.size<=b)/\b≠X.env.locals/\(∀x c,X.env.cells.lookup x=aA c->c≠b)/\∀p∈X.pn++pins,p.1≠b):Inv X pins σ H' s':=by
 obtain⟨h',g',d',t',o'⟩:=s';have e:o'=s.os:=ho;subst e;exact I.call (g':=g') (t':=t') (d':=d') u hok hg hch
end
abbrev XK:=aj->Option ak->Hp->Prop
abbrev St:=List (Option V)
abbrev VK:=V->Hp->Prop
abbrev TE:=St->Hp->VK->Prop
abbrev TT:=St->Hp->(Bool->Hp->Prop)->Prop
abbrev TA:=St->Hp->(List V->Hp->Prop)->Prop
set_option genInjectivity false in
structure Yq where
 nx:St->Hp->Prop
 rt:VK
 bk:St->Hp->Prop:=λ_ _=>False
 ct:St->Hp->Prop:=λ_ _=>False
abbrev TS:=Yq->St->Hp->Prop
def EP(X:Cx)(pins:List (ak×Obj))(σ:St)(Q:VK)(u:aj)(s':am):Prop:=∃v H',Inv X pins σ H' s'/\Zm v u/\Q v H'
def TP(X:Cx)(pins:List (ak×Obj))(σ:St)(Q:Bool->Hp->Prop)(b:Bool)(s':am):Prop:=∃H',Inv X pins σ H' s'/\Q b H'
def AP(X:Cx)(pins:List (ak×Obj))(σ:St)(Q:List V->Hp->Prop)(us:List aj)(s':am):Prop:=∃vs H',Inv X pins σ H' s'/\Zw vs us/\Q vs H'
def SP(X:Cx)(pins:List (ak×Obj))(D:Yq)(f:Flow)(s':am):Prop:=
 match f with
 | .next=>∃σ' H',Inv X pins σ' H' s'/\D.nx σ' H'
 | .brk=>∃σ' H',Inv X pins σ' H' s'/\D.bk σ' H'
 | .cont=>∃σ' H',Inv X pins σ' H' s'/\D.ct σ' H'
 | .ret u=>∃v σ' H',Inv X pins σ' H' s'/\Zm v u/\D.rt v H'
def PE(X:Cx)(e:ci)(t:TE):Prop:=
 ∀(pins:List (ak×Obj)) (s:am) (σ:St) (H:Hp) (Q:VK),Inv X pins σ H s->t σ H Q->ba (bp X.prog X.w) X.A (f8 e X.env) (EP X pins σ Q) X.xe s
def PT(X:Cx)(e:ci)(t:TT):Prop:=
 ∀(pins:List (ak×Obj)) (s:am) (σ:St) (H:Hp) (Q:Bool->Hp->Prop),Inv X pins σ H s->t σ H Q->ba (bp X.prog X.w) X.A (isTrue e X.env (f8 e X.env)) (TP X pins σ Q) X.xe s
def PW(X:Cx)(e:ci)(t:TT):Prop:=
 ∀(whole:Sem aj) (pins:List (ak×Obj)) (s:am) (σ:St) (H:Hp) (Q:Bool->Hp->Prop),Inv X pins σ H s->t σ H Q->ba (bp X.prog X.w) X.A (isTrue e X.env whole) (TP X pins σ Q) X.xe s
theorem PW.pt{X:Cx}{e:ci}{t:TT}(h:PW X e t):PT X e t:=h _
def PA(X:Cx)(es:List ci)(t:TA):Prop:=
 ∀(pos:Pos) (pins:List (ak×Obj)) (s:am) (σ:St) (H:Hp) (Q:List V->Hp->Prop),Inv X pins σ H s->t σ H Q->ba (bp X.prog X.w) X.A (spliced (f6 pos (ay es X.env))) (AP X pins σ Q) X.xe s
def PS(X:Cx)(st:Stmt)(t:TS):Prop:=
 ∀(pins:List (ak×Obj)) (s:am) (σ:St) (H:Hp) (D:Yq),Inv X pins σ H s->t D σ H->ba (bp X.prog X.w) X.A (exec st X.env) (SP X pins D) X.xe s
def Gs(X:Cx)(st:List Stmt)(t:TS):Prop:=
 ∀(pins:List (ak×Obj)) (s:am) (σ:St) (H:Hp) (D:Yq),Inv X pins σ H s->t D σ H->ba (bp X.prog X.w) X.A (execs st X.env) (SP X pins D) X.xe s
theorem Wo{α:Type}{t:Sem α}{Q Q':α->am->Prop}{M:Model}{A:cj}{E:aj->am->Prop}{s:am}(h:ba M A t Q E s)(hQ:∀a s,Q a s->Q' a s):ba M A t Q' E s:=wpAny_mono h hQ λ_ _ x=>x
section
variable{X:Cx}
def Ja(i:Nat):TE:=λσ H Q=>∃v,σ[i]? =aA (aA v)/\Q v H
def tC(v:V):TE:=λ_ H Q=>Q v H
theorem Js{i:Nat}{x:Str}{pos:Pos}(hN:X.N[i]? =aA x)(hv:Sy X.env.scope x)(hd:(x==("__debug__":Str))=aD:=by decide)(hcd:(x==("__classdict__":Str))=aD:=by decide):PE X (.Name x pos) (Ja i):=by
 intro pins s σ H Q I h;obtain⟨v,e,h⟩:=h;obtain⟨m,hn,hl⟩:=I.loc;obtain⟨u,r,l⟩:=hl i x v hN e hv;have fin:EP X pins σ Q u s:=⟨v,H,I,r,h⟩
 rcases l with⟨hk,hm⟩|⟨hk,c,hc,hcell⟩
 ·exact wpAny_Name (wpAny_loadName_local I.ok.kind hk hn hm fin) hd
 ·rcases hk with hk|hk
  ·exact wpAny_Name (wpAny_loadName_cell I.ok.kind hk hc hcell fin) hd
  ·exact wpAny_Name (wpAny_loadName_free I.ok.kind hk hc hcell fin hcd) hd
theorem Sz{i j pos}:PE X (.Constant (.int i) j pos) (tC (.int i)):=λ_ _ _ H _ I h=>wpAny_Constant_int ⟨.int i,H,I.tok _,⟨_,rfl⟩,h⟩
theorem Zo4{b j pos}:PE X (.Constant (.bool b) j pos) (tC (.bl b)):=λ_ _ _ H _ I h=>Constant_bool ⟨.bl b,H,I,rfl,h⟩
theorem Kg{x j pos}:PE X (.Constant (.str x) j pos) (tC (.str x)):=λ_ _ _ H _ I h=>Calls.Constant_str ⟨.str x,H,I.tok _,⟨_,rfl⟩,h⟩
def Gl(X:Cx)(x:Str):Prop:=X.env.kindOf x=aA .globalImplicit
theorem Zhb{E:aj->am->Prop}{pins:List (ak×Obj)}{s:am}{σ:St}{H:Hp}{x:Str}{u:aj}{pos:Pos}{Q:aj->am->Prop}(I:Inv X pins σ H s)(hg:Gl X x)(hm:X.mg x=aA u)(h:Q u s)
  (hd:(x==("__debug__":Str))=aD:=by decide):ba (bp X.prog X.w) X.A (f8 (.Name x pos) X.env) Q E s:=
 Calls.Name_function_global I.ok.kind hg (Calls.loadGlobal_global (by rw[I.ok.glob];exact I.mod.glob.keeps I.bk) hm h) hd
theorem Bo{E:aj->am->Prop}{pins:List (ak×Obj)}{s:am}{σ:St}{H:Hp}{x:Str}{u:aj}{pos:Pos}{Q:aj->am->Prop}(I:Inv X pins σ H s)(hg:Gl X x)(hm:X.mg x=aB)(hv:bootBuiltins x=aA u)(h:Q u s)
  (hn:x≠"__name__":=by decide) (hd:(x==("__debug__":Str))=aD:=by decide):ba (bp X.prog X.w) X.A (f8 (.Name x pos) X.env) Q E s:=by
 obtain⟨mb,h1,h2⟩:=I.mod.blt;exact Calls.Name_function_global I.ok.kind hg (Calls.loadGlobal_builtin (by rw[I.ok.glob];exact I.mod.glob.keeps I.bk) hm (by rw[I.ok.blt];exact h1.keeps I.bk) ((h2 x hn).trans hv) h) hd
theorem Zhc{x:Str}{v:V}{u:aj}{pos:Pos}(hg:Gl X x)(hm:X.mg x=aB)(hv:bootBuiltins x=aA u)(r:Zm v u)(hn:x≠"__name__":=by decide)(hd:(x==("__debug__":Str))=aD:=by decide):PE X (.Name x pos) (tC v):=
 λ_ _ _ H _ I h=>Bo I hg hm hv ⟨v,H,I,r,h⟩ hn hd
def t2I(ta tb:TE)(k:Int->Int->Hp->Prop):St->Hp->Prop:=λσ H=>ta σ H λx H1=>tb σ H1 λy H2=>∃i j,x= .int i/\y= .int j/\k i j H2
def Zy3(ta tb:TE):TE:=λσ H Q=>t2I ta tb (λi j H2=>Q (.int (i+j)) H2) σ H
def Zy4(ta tb:TE):TE:=λσ H Q=>t2I ta tb (λi j H2=>Q (.int (i- j)) H2) σ H
def Zy5(ta tb:TE):TE:=λσ H Q=>t2I ta tb (λi j H2=>(-(2^64)<i/\i<2^64)/\Q (.int (i*j)) H2) σ H
variable{a b:ci}{ta tb:TE}{pos:Pos}
def PC(X:Cx)(op:CmpOp)(a b:ci)(t:TE):Prop:=
 ∀(pins:List (ak×Obj)) (s:am) (σ:St) (H:Hp) (Q:VK),Inv X pins σ H s->t σ H Q->
  ba (bp X.prog X.w) X.A (f8 a X.env) (λv s₁=>ba (bp X.prog X.w) X.A (f8 b X.env) (λu s₂=>ba (bp X.prog X.w) X.A (gh op v u) (EP X pins σ Q) X.xe s₂) X.xe s₁) X.xe s
def Zas(p:Int->Int->Bool)(ta tb:TE):TE:=λσ H Q=>t2I ta tb (λi j H2=>Q (.bl (p i j)) H2) σ H
abbrev tLt:TE->TE->TE:=Zas λi j=>decide (i<j)
abbrev tLe:TE->TE->TE:=Zas λi j=>decide (i<=j)
abbrev tGt:TE->TE->TE:=Zas λi j=>decide (j<i)
abbrev tGe:TE->TE->TE:=Zas λi j=>decide (j<=i)
abbrev Zy6:TE->TE->TE:=Zas λi j=>decide (i=j)
abbrev Zy7:TE->TE->TE:=Zas λi j=>!decide (i=j)
def Zy8(ta:TE):TE:=λσ H Q=>ta σ H λx H1=>Q (.bl (decide (x= .non))) H1
def Zwx(ta:TE):TE:=λσ H Q=>ta σ H λx H1=>Q (.bl (!decide (x= .non))) H1
def tB(t:TE):TT:=λσ H Q=>t σ H λx H1=>∃c,x= .bl c/\Q c H1
theorem Zlx{e:ci}{t:TE}(h:PE X e t)(he:∀whole,isTrue e X.env whole=(do let v<-whole;standAt e.pos;holding [v] (truthy v)):=by intro _;rfl):PT X e (tB t):=by intro pins s σ H Q I hw;refine isTrue_plain (Wo (h pins s σ H _ I hw) λv s1 ⟨x,H1,I1,r1,q1⟩=>?_) (he _);obtain⟨d,rfl,q⟩:=q1;cases r1;exact wpAny_truthy_bool ⟨H1,I1,q⟩
variable{tA tB':TT}{rest:List ci}
def Zy9(t u:TT):TT:=λσ H Q=>t σ H λc H1=>if c=aC then u σ H1 Q else Q aD H1
def tOr(t u:TT):TT:=λσ H Q=>t σ H λc H1=>if c=aC then Q aC H1 else u σ H1 Q
def Zo5(t:TT):TT:=λσ H Q=>t σ H λc H1=>Q (!c) H1
theorem Zly(ha:PT X a tA):PW X (.BoolOp .Or [a] pos) tA:=by
 intro wh pins s σ H Q I h;refine isTrue_or (Wo (ha pins s σ H Q I h) λc s1 e=>?_);cases c with
 |false=>exact isTrue_or_nil e
 |true=>exact e
theorem Zo6(ha:PT X a tA)(hb:PW X (.BoolOp .Or (b::rest) pos) tB'):PW X (.BoolOp .Or (a::b::rest) pos) (tOr tA tB'):=by
 intro wh pins s σ H Q I h;refine isTrue_or (Wo (ha pins s σ H _ I h) λc s1 zq9=>?_);obtain⟨H1,I1,q1⟩:=zq9;cases c with
 |true=>exact⟨H1,I1,q1⟩
 |false=>exact hb wh pins s1 σ H1 Q I1 q1
theorem Zlz(ha:PT X a tA):PT X (.UnaryOp .Not a pos) (Zo5 tA):=by intro pins s σ H Q I h;exact isTrue_not (ha pins s σ H (λc H1=>Q (!c) H1) I h)
def Zwz(ta tb:TE):TE:=λσ H Q=>ta σ H λx H1=>∃c,x= .bl c/\if c=aC then tb σ H1 Q else Q (.bl aD) H1
def Zza(ta tb:TE):TE:=λσ H Q=>ta σ H λx H1=>∃c,x= .bl c/\if c=aC then Q (.bl aC) H1 else tb σ H1 Q
def Zw0(ta:TE):TE:=λσ H Q=>ta σ H λx H1=>∃c,x= .bl c/\Q (.bl (!c)) H1
def tIf(t:TT)(ta tb:TE):TE:=λσ H Q=>t σ H λc H1=>if c=aC then ta σ H1 Q else tb σ H1 Q
end
def Wp(K:af)(H:Hp)(a:ak)(xs:List V):Prop:=
 Rd H a (.lst xs)\/
  ∃(o:Obj) (its:Array aj) (n:Nat),K.lookup a=aA o/\o.cls= .type "list"/\o.dict=aB/\o.data= .seq its n/\its.size<=sizeLine/\Zw xs its.toList
def Uk(K:af)(H:Hp)(a:ak)(xs:List V):Prop:=
 Rd H a (.tup xs)\/
  ∃(o:Obj) (its:Array aj) (n:Nat),K.lookup a=aA o/\o.cls= .type "tuple"/\o.data= .seq its n/\its.size<=sizeLine/\Zw xs its.toList
def Zt9:aj->Option V
 | .none=>aA .non
 | .bool b=>aA (.bl b)
 | .int i _=>aA (.int i)
 | .str x _=>aA (.str x)
 | .bytes b _=>aA (.byt b)
 | .float b _=>aA (.flt b)
 | .ref a=>aA (.ref a)
 | .type n=>aA (.ty n)
 |_=>aB
theorem Zm.abs{x:V}{u:aj}(r:Zm x u):Zt9 u=aA x:=by
 cases x with
 |non=>cases r;rfl
 |bl _=>cases r;rfl
 |int _=>obtain⟨t,rfl⟩:=r;rfl
 |str _=>obtain⟨t,rfl⟩:=r;rfl
 |byt _=>obtain⟨t,rfl⟩:=r;rfl
 |flt _=>obtain⟨t,rfl⟩:=r;rfl
 |ref _=>cases r;rfl
 |ty _=>cases r;rfl
theorem Zm.inj{x y:V}{u:aj}(r:Zm x u)(q:Zm y u):x=y:=dm.inj (r.abs.symm.trans q.abs)
theorem Zw.inj{xs:List V}:∀{ys:List V} {us:List aj},Zw xs us->Zw ys us->xs=ys:=by
 induction xs with
 |nil=>intro ys us h g;cases h;cases g;rfl
 |cons x xs ih=>
  intro ys us h g;cases h with
  |cons r t=>
   cases g with
   |cons r' t'=>rw[r.inj r',ih t t']
section
variable{X:Cx}{pins:List (ak×Obj)}{σ:St}{H:Hp}{s:am}{a:ak}{xs ys:List V}
theorem Inv.list(I:Inv X pins σ H s)(h:Wp X.K H a xs):∃its:List aj,Zw xs its/\PlainL s.heap a its.toArray/\xs.length<=sizeLine:=by
 rcases h with h|⟨o,its,n,hk,hc,hd,hs,hz,r⟩
 ·obtain⟨z,its,n,r,e⟩:=h.ok I.hok;exact⟨its,r,⟨_,n,e,rfl,rfl,rfl⟩,z⟩
 ·refine⟨its.toList,r,⟨o,n,I.kIn a o hk,hc,hd,by simpa using hs⟩,?_⟩;have e:=r.length;simp only[aw]at e;omega
theorem Inv.tuple(I:Inv X pins σ H s)(h:Uk X.K H a xs):∃its:List aj,Zw xs its/\IsTup s.heap a its.toArray/\xs.length<=sizeLine:=by
 rcases h with h|⟨o,its,n,hk,hc,hs,hz,r⟩
 ·obtain⟨z,its,r,p⟩:=h.ok I.hok;exact⟨its,r,p,z⟩
 ·refine⟨its.toList,r,⟨o,I.kIn a o hk,hc,n,by simpa using hs⟩,?_⟩;have e:=r.length;simp only[aw]at e;omega
theorem Inv.list_inj(I:Inv X pins σ H s)(h:Wp X.K H a xs)(h':Wp X.K H a ys):xs=ys:=by
 obtain⟨its,r,⟨o,n,e,_,_,d⟩,_⟩:=I.list h;obtain⟨its',r',⟨o',n',e',_,_,d'⟩,_⟩:=I.list h';rw[e]at e';cases e';rw[d]at d';injection d' with d1 _
 have:its=its':=by simpa using congrArg Array.toList d1
 subst this;exact r.inj r'
theorem Inv.tuple_inj(I:Inv X pins σ H s)(h:Uk X.K H a xs)(h':Uk X.K H a ys):xs=ys:=by
 obtain⟨its,r,⟨o,e,_,n,d⟩,_⟩:=I.tuple h;obtain⟨its',r',⟨o',e',_,n',d'⟩,_⟩:=I.tuple h';rw[e]at e';cases e';rw[d]at d';injection d' with d1 _
 have:its=its':=by simpa using congrArg Array.toList d1
 subst this;exact r.inj r'
end
abbrev Cx.wish(X:Cx)(E:aj->am->Prop):Cx:={X with xe:=E}
abbrev Cx.nox(X:Cx):Cx:=X.wish λ_ _=>False
theorem Cx.Ok.wish{X:Cx}(ok:X.Ok)(E:aj->am->Prop):(X.wish E).Ok:=
 ⟨ok.mod,ok.kind,ok.glob,ok.blt,ok.above,ok.inj,ok.has,ok.cab,ok.hd,ok.frames,ok.stk,ok.exf,ok.bs,ok.bsz,ok.noex,ok.exfs,ok.funs,ok.frf⟩
theorem Cx.Ok.unwish{X:Cx}{E:aj->am->Prop}(ok:(X.wish E).Ok):X.Ok:=
 ⟨ok.mod,ok.kind,ok.glob,ok.blt,ok.above,ok.inj,ok.has,ok.cab,ok.hd,ok.frames,ok.stk,ok.exf,ok.bs,ok.bsz,ok.noex,ok.exfs,ok.funs,ok.frf⟩
section
variable{X:Cx}{pins:List (ak×Obj)}{σ:St}{H:Hp}{s:am}{E:aj->am->Prop}
theorem Inv.wish(I:Inv X pins σ H s)(E:aj->am->Prop):Inv (X.wish E) pins σ H s:=⟨I.ok.wish E,I.os,I.bare,I.base,I.loc,I.cell,I.free,I.freeC,I.pin,I.hok,I.len⟩
theorem Inv.unwish(I:Inv (X.wish E) pins σ H s):Inv X pins σ H s:=⟨I.ok.unwish,I.os,I.bare,I.base,I.loc,I.cell,I.free,I.freeC,I.pin,I.hok,I.len⟩
theorem SP.unwish{D:Yq}{f:Flow}{s':am}(h:SP (X.wish E) pins D f s'):SP X pins D f s':=by
 cases f with
 |next=>obtain⟨σ',H',I,q⟩:=h;exact⟨σ',H',I.unwish,q⟩
 |brk=>obtain⟨σ',H',I,q⟩:=h;exact⟨σ',H',I.unwish,q⟩
 |cont=>obtain⟨σ',H',I,q⟩:=h;exact⟨σ',H',I.unwish,q⟩
 |ret u=>obtain⟨v,σ',H',I,r,q⟩:=h;exact⟨v,σ',H',I.unwish,r,q⟩
theorem Gs.nox{st:List Stmt}{t:TS}(h:Gs X.nox st t):Gs X st t:=λpins s σ H D I hw=>
 wpAny_mono (h pins s σ H D (I.wish _) hw) (λ_ _ q=>q.unwish) λ_ _ z=>False.elim z
end
section
variable{X:Cx}{st:Stmt}{rest:List Stmt}{t u:TS}{e:ci}{te:TE}{pos:Pos}
def Tj:TS:=λD σ H=>D.nx σ H
def Tk(t u:TS):TS:=λD σ H=>t {D with nx:=u D} σ H
theorem X7:Gs X [] Tj:=λ_ _ σ H _ I h=>wpAny_execs_nil ⟨σ,H,I,h⟩
theorem U5(h1:PS X st t)(h2:Gs X rest u):Gs X (st::rest) (Tk t u):=by
 intro pins s σ H D I h;refine wpAny_execs_cons (Wo (h1 pins s σ H {D with nx:=u D} I h) λf s1 q=>?_);cases f with
 |next=>obtain⟨σ',H',I',q⟩:=q;exact h2 pins s1 σ' H' D I' q
 |ret v=>exact q
 |brk=>exact q
 |cont=>exact q
theorem X8(h1:PS X st t):Gs X [st] t:=by
 intro pins s σ H D I h;refine wpAny_execs_cons (Wo (h1 pins s σ H D I h) λf s1 q=>?_);cases f with
 |next=>exact wpAny_execs_nil q
 |ret v=>exact q
 |brk=>exact q
 |cont=>exact q
def Zua:TS:=λD σ H=>D.bk σ H
def Zw1:TS:=λD σ H=>D.ct σ H
theorem Inv.quiet{pins:List (ak×Obj)}{σ:St}{H:Hp}{s:am}(I:Inv X pins σ H s):interactive X.env=aD:=by simp[interactive,I.ok.kind]
def Bp(te:TE):TS:=λD σ H=>te σ H λ_ H1=>D.nx σ H1
theorem Og(he:PE X e te)(hs:swapsWith e aB pos.line X.env=pure aD:=by rfl):PS X (.Expr e pos) (Bp te):=by intro pins s σ H D I h;exact wpAny_Expr_any (Wo (he pins s σ H _ I h) λv s1 ⟨x,H1,I1,r1,q1⟩=>⟨σ,H1,I1,q1⟩) I.quiet hs
def Zl0(te:TE):TS:=λD σ H=>te σ H D.rt
theorem Zce(he:PE X e te):PS X (.Return (aA e) pos) (Zl0 te):=by intro pins s σ H D I h;exact wpAny_Return_some (Wo (he pins s σ H _ I h) λv s1 ⟨x,H1,I1,r1,q1⟩=>⟨x,σ,H1,I1,r1,q1⟩)
def Zw2:TS:=λD _ H=>D.rt .non H
def S0(c:TT)(t u:TS):TS:=λD σ H=>c σ H λb H1=>if b=aC then t D σ H1 else u D σ H1
theorem Zj2{c:ci}{a b:List Stmt}{tc:TT}(hc:PT X c tc)(ha:Gs X a t)(hb:Gs X b u):PS X (.If c a b pos) (S0 tc t u):=by
 intro pins s σ H D I h;refine wpAny_If (Wo (hc pins s σ H _ I h) λd s1 zq9=>?_);obtain⟨H1,I1,q1⟩:=zq9;cases d with
 |true=>exact ha pins s1 σ H1 D I1 q1
 |false=>exact hb pins s1 σ H1 D I1 q1
def Zub:TS:=λ_ _ _=>False
end
abbrev TG:=V->St->Hp->(St->Hp->Prop)->Prop
abbrev TGs:=List V->St->Hp->(St->Hp->Prop)->Prop
def PG(X:Cx)(target:ci)(t:TG):Prop:=
 ∀(pins:List (ak×Obj)) (s:am) (σ:St) (H:Hp) (v:V) (u:aj) (Q:St->Hp->Prop),Inv X pins σ H s->Zm v u->t v σ H Q->
  ba (bp X.prog X.w) X.A (assign target X.env u) (λ_ s'=>∃σ' H',Inv X pins σ' H' s'/\Q σ' H') X.xe s
def PGs(X:Cx)(ts:List ci)(t:TGs):Prop:=
 ∀(pins:List (ak×Obj)) (s:am) (σ:St) (H:Hp) (vs:List V) (us:List aj) (Q:St->Hp->Prop),Inv X pins σ H s->Zw vs us->t vs σ H Q->
  ba (bp X.prog X.w) X.A (assignInOrder ((assignEach ts X.env).map (·.2)) us) (λ_ s'=>∃σ' H',Inv X pins σ' H' s'/\Q σ' H') X.xe s
abbrev Zl1:=V->V->V->Hp->(Hp->Prop)->Prop
def Zzb(X:Cx)(t:Zl1):Prop:=
 ∀(pins:List (ak×Obj)) (s:am) (σ:St) (H:Hp) (o i v:V) (ov iv u:aj) (Q:Hp->Prop),Inv X pins σ H s->Zm o ov->Zm i iv->Zm v u->t o i v H Q->
  ba (bp X.prog X.w) X.A (setItem ov iv u) (λ_ s'=>∃H',Inv X pins σ H' s'/\Q H') X.xe s
abbrev TIp:=V->V->Hp->VK->Prop
def PIp(X:Cx)(op:Operator)(t:TIp):Prop:=
 ∀(pins:List (ak×Obj)) (s:am) (σ:St) (H:Hp) (x y:V) (v u:aj) (Q:VK),Inv X pins σ H s->Zm x v->Zm y u->t x y H Q->
  ba (bp X.prog X.w) X.A (inplaceOp op v u) (EP X pins σ Q) X.xe s
section
variable{X:Cx}{pos:Pos}
def Ul(i:Nat):TG:=λv σ H Q=>Q (σ.set i (aA v)) H
theorem X9{i:Nat}{x:Str}(hN:X.N.Nodup)(hi:X.N[i]? =aA x)(hx:Loc X.env.scope x)(hf:X.fn x=aC\/X.env.scope.names.lookup x=aA .local:=by first|exact .inl rfl|exact .inr rfl|assumption):PG X (.Name x pos) (Ul i):=by intro pins s σ H v u Q I r h;exact wpAny_assign_Name (Nm I hN hi hx r (λs' I'=>⟨_,H,I',h⟩) hf)
def Zo7:TGs:=λvs σ H Q=>vs=[]/\Q σ H
def Zj3(t:TG)(u:TGs):TGs:=λvs σ H Q=>∃v r,vs=v::r/\t v σ H λσ' H'=>u r σ' H' Q
theorem Zhd:PGs X [] Zo7:=by intro pins s σ H vs us Q I r h;obtain⟨e,h⟩:=h;subst e;cases r;exact assignInOrder_nil ⟨σ,H,I,h⟩
theorem Zcg{e:ci}{es:List ci}{t:TG}{u:TGs}(h1:PG X e t)(h2:PGs X es u)
  (hs:(assignEach (e::es) X.env).map (·.2)=assign e X.env::(assignEach es X.env).map (·.2):=by rfl):PGs X (e::es) (Zj3 t u):=by
 intro pins s σ H vs us Q I r h;obtain⟨v,vr,e1,h⟩:=h;subst e1;cases r with
 |cons r rr=>rw[hs];refine assignInOrder_cons (Wo (h1 pins s σ H _ _ _ I r h) λ_ s1 zq9=>?_);obtain⟨σ1,H1,I1,q1⟩:=zq9;exact h2 pins s1 σ1 H1 _ _ Q I1 rr q1
def Zo8(K:af)(n:Nat)(t:TGs):TG:=λv σ H Q=>∃a xs,v= .ref a/\Uk K H a xs/\xs.length=n/\t xs σ H Q
theorem Zl2{es:List ci}{k:Nat}{t:TGs}{n:Nat}(hc:X.calm=aC)(h:PGs X es t)
  (hn:(assignEach es X.env).length=n:=by rfl) (hst:(assignEach es X.env).findIdx? (·.1)=aB:=by rfl):PG X (.Tuple es k pos) (Zo8 X.K n t):=by
 intro pins s σ H v u Q I r hw;obtain⟨a,xs,e1,hq,hl,hw⟩:=hw;subst e1;cases r;obtain⟨its,rv,ht,hz⟩:=I.tuple hq;refine assign_Tuple_tuple (I.ok.hd hc) ht (by simp[hn,<-hl,rv.length]) hst λh' hx=>?_;have I1:Inv X pins σ H {s with heap:=h'}:=I.kept (t':=s.toks) λb o e=>hx b o (b4 (bc e)) e;exact h pins _ σ H xs _ Q I1 (by simpa using rv) hw
def Zzc(to ti:TE)(t:Zl1):TG:=λv σ H Q=>to σ H λo H1=>ti σ H1 λi H2=>t o i v H2 λH3=>Q σ H3
def Kh(te:TE)(g:TG):TS:=λD σ H=>te σ H λx H1=>g x σ H1 D.nx
theorem Zl3{tg e:ci}{te:TE}{g:TG}(he:PE X e te)(hg:PG X tg g)(hs:swapsWithSole [tg] e pos.line X.env=pure aD:=by rfl)(hw:swappedStores [tg] e X.env=pure aB:=by rfl)
  (h1:(assignEach [tg] X.env).map (·.2)=[assign tg X.env]:=by rfl):PS X (.Assign [tg] e pos) (Kh te g):=by
 intro pins s σ H D I h;refine wpAny_Assign_stores (Wo (he pins s σ H _ I h) λv s1 ⟨x,H1,I1,r1,q1⟩=>?_) hs hw;rw[h1];exact Wo (hg pins s1 σ H1 x v _ I1 r1 q1) λ_ s2 q=>q
theorem S3{i:Nat}{x:Str}{e:ci}{te:TE}{pos':Pos}(hN:X.N.Nodup)(hi:X.N[i]? =aA x)(hx:Loc X.env.scope x)(he:PE X e te)(hs:swapsWith e (aA (.Name x pos')) pos.line X.env=pure aD:=by rfl)(hf:X.fn x=aC\/X.env.scope.names.lookup x=aA .local:=by first|exact .inl rfl|exact .inr rfl|assumption):
  PS X (.Assign [.Name x pos'] e pos) (Kh te (Ul i)):=by
 intro pins s σ H D I h;refine wpAny_Assign_Name (Wo (he pins s σ H _ I h) λv s1 ⟨y,H1,I1,r1,q1⟩=>?_) hs;exact Nm I1 hN hi hx r1 (λs2 I2=>⟨_,H1,I2,q1⟩) hf
def Zzd(i j:Nat)(ta:TA):TS:=λD σ H=>ta σ H λvs H1=>∃v w,vs=[v,w]/\D.nx ((σ.set i (aA v)).set j (aA w)) H1
def Zze(i:Nat)(te:TE)(ti:TIp):TS:=λD σ H=>∃x,σ[i]? =aA (aA x)/\te σ H λy H1=>ti x y H1 λz H2=>D.nx (σ.set i (aA z)) H2
def Zw3(to ti te:TE)(tget:V->V->Hp->VK->Prop)(tip:TIp)(tset:Zl1):TS:=λD σ H=>to σ H λo H1=>ti σ H1 λi H2=>tget o i H2 λx H3=>te σ H3 λy H4=>tip x y H4 λz H5=>tset o i z H5 λH6=>D.nx σ H6
def Zzf(X:Cx)(t:V->V->Hp->VK->Prop):Prop:=
 ∀(pins:List (ak×Obj)) (s:am) (σ:St) (H:Hp) (o i:V) (ov iv:aj) (Q:VK),Inv X pins σ H s->Zm o ov->Zm i iv->t o i H Q->
  ba (bp X.prog X.w) X.A (getItem ov iv) (EP X pins σ Q) X.xe s
def ipI(f:Int->Int->Int):TIp:=λx y H Q=>∃i j,x= .int i/\y= .int j/\Q (.int (f i j)) H
def Zch(c:TT)(tb:TS):TS:=λD σ H=>∃W:Nat->St->Hp->Prop,(∃m,W m σ H)/\∀m σ H,W m σ H->
 c σ H λb H1=>if b=aC then∃N:St->Hp->Prop,(∀σ' H',N σ' H'->∃m',m'<m/\W m' σ' H')/\tb {D with nx:=N,ct:=N,bk:=D.nx} σ H1 else D.nx σ H1
theorem Zci{c:ci}{body:List Stmt}{tc:TT}{tb:TS}(hp:PassesOwn (bp X.prog X.w) X.A X.env X.xe)(hc:PT X c tc)(hb:Gs X body tb):PS X (.While c body [] pos) (Zch tc tb):=by
 intro pins s σ H D I h;obtain⟨W,⟨m0,w0⟩,turn⟩:=h;refine wpAny_While (codeAny_whileLoop (λn s'=>∃σ' H',Inv X pins σ' H' s'/\W n σ' H') ?_ m0 ⟨σ,H,I,w0⟩);rintro n s1 ⟨σ1,H1,I1,w1⟩;refine wpAny_passesOwn hp (Wo (hc pins s1 σ1 H1 _ I1 (turn n σ1 H1 w1)) λb s2 zq9=>?_);obtain⟨H2,I2,q2⟩:=zq9;cases b with
 |true=>
  obtain⟨N,hN,q2⟩:=q2;rw[if_pos rfl];refine wpAny_passesOwn hp (Wo (hb pins s2 σ1 H2 _ I2 q2) λf s3 q3=>?_);cases f with
  |next=>obtain⟨σ3,H3,I3,n3⟩:=q3;obtain⟨m',hm,w3⟩:=hN σ3 H3 n3;exact⟨m',hm,σ3,H3,I3,w3⟩
  |cont=>obtain⟨σ3,H3,I3,n3⟩:=q3;obtain⟨m',hm,w3⟩:=hN σ3 H3 n3;exact⟨m',hm,σ3,H3,I3,w3⟩
  |brk=>exact q3
  |ret v=>exact q3
 |false=>rw[if_neg bh];exact wpAny_execs_nil ⟨σ1,H2,I2,q2⟩
end
set_option genInjectivity false in
structure It where
 go:Nat->Hp->Prop
 yld:Nat->Hp->V->Hp->Prop
 stop:Nat->Hp->Prop
def Jb(X:Cx)(pins:List (ak×Obj))(H:Hp)(b:ak):Prop:=
 H b=aB/\b≠X.env.locals/\b∉X.fs/\(b∈X.ex\/X.s₀.heap.objs.size<=b)/\(∀x c,X.env.cells.lookup x=aA c->c≠b)/\∀p∈X.pn++pins,p.1≠b
theorem Inv.fpOk{X:Cx}{pins:List (ak×Obj)}{σ:St}{H H':Hp}{s:am}{b:ak}(I:Inv X pins σ H s)(hb:s.heap.objs.size<=b)(hn:H' b=aB):Jb X pins H' b:=by
 refine⟨hn,Nat.ne_of_gt (cu I.lt hb),I.nofs hb,.inr (d3 I.sz hb),λx c e z=>?_,λp hp z=>?_⟩
 ·obtain⟨v,q⟩:=I.cell x c e;exact absurd (cu q.lt (by rw[z];exact hb)) (gv _)
 ·exact absurd (cu (bc (I.pin p hp).1) (by rw[z];exact hb)) (gv _)
structure Turn(P:bu)(w:ck)(K:af)(tg:ci)(J:It)(fp:List ak)(it:ak)(tn:Nat->dq->Prop):Prop where
 mem:it∈fp
 obj:∀i h,tn i h->∀b∈fp,∃o,h.get? b=aA o/\∀v,o.data≠.cell v
 keep:∀i h h',tn i h->(∀b∈fp,∀o,h.get? b=aA o->h'.get? b=aA o)->tn i h'
 item:∀(X:Cx),X.prog=P->X.w=w->X.K=K->X.calm=aC->∀(i:Nat) (pins:List (ak×Obj)) (s:am) (σ:St) (H:Hp) (E:aj->am->Prop),Inv X pins σ H s->(∀b∈fp,Jb X pins H b)->tn i s.heap->J.go i H->
  ba (bp P w) X.A (pyNext (.ref it)) (λr s1=>∃u,r=aA u/\
   ba (bp P w) X.A (letOwnedTupleGo tg (.ref it) u) (λ_ s2=>∃x H',Inv X pins σ H' s2/\Zm x u/\J.yld i H x H'/\tn (i+1) s2.heap/\∀b∈fp,H' b=aB) E s1) E s
 done:∀(X:Cx),X.prog=P->X.w=w->X.K=K->X.calm=aC->∀(i:Nat) (pins:List (ak×Obj)) (s:am) (σ:St) (H:Hp) (E:aj->am->Prop),Inv X pins σ H s->(∀b∈fp,Jb X pins H b)->tn i s.heap->J.stop i H->
  ba (bp P w) X.A (pyNext (.ref it)) (λr s1=>r=aB/\Inv X pins σ H s1) E s
 self:∀(A:cj) (i:Nat) (s:am) (Q:aj->am->Prop) (E:aj->am->Prop),tn i s.heap->Q (.ref it) s->ba (bp P w) A (pyIter (.ref it)) Q E s
abbrev TI:=St->Hp->(It->Hp->Prop)->Prop
def PIE(X:Cx)(pins:List (ak×Obj))(σ:St)(tg:ci)(R:It->Hp->Prop)(itv:aj)(s2:am):Prop:=
 ∃(it:ak) (fp:List ak) (tn:Nat->dq->Prop) (J:It) (H':Hp),itv= .ref it/\Inv X pins σ H' s2/\Turn X.prog X.w X.K tg J fp it tn/\tn 0 s2.heap/\(∀b∈fp,Jb X pins H' b)/\R J H'
def PI(X:Cx)(tg iter:ci)(wi:TI):Prop:=
 ∀(pins:List (ak×Obj)) (s:am) (σ:St) (H:Hp) (R:It->Hp->Prop),Inv X pins σ H s->wi σ H R->
  ba (bp X.prog X.w) X.A (f8 iter X.env) (λv s1=>ba (bp X.prog X.w) X.A (pyIter v) (PIE X pins σ tg R) X.xe s1) X.xe s
theorem Tl{M:Model}{A:cj}{E:aj->am->Prop}{s:am}{tg:ci}{it:ak}{u:aj}{o:Obj}{n:String}{vs:Array aj}{Q:Unit->am->Prop}(ho:s.heap.get? it=aA o)(hc:o.cls= .type n)(hd:o.data= .fields vs)
    (hn:["enumerate","zip","dict_itemiterator","dict_reverseitemiterator","odict_iterator","itertools.zip_longest","itertools.pairwise"].contains n=aD) (hQ:Q () s):ba M A (letOwnedTupleGo tg (.ref it) u) Q E s:=by
  unfold letOwnedTupleGo;cases tg<;> first
    |exact ag hQ
    | (cases u<;> first
        |exact ag hQ
        | (refine ad (wpAny_load ho ?_)
           rw[hc,hd];show ba M A (if(["enumerate","zip","dict_itemiterator","dict_reverseitemiterator","odict_iterator","itertools.zip_longest","itertools.pairwise"].contains n&&vs[0]? ==aA (rawInt _))=aC then _ else _) Q E s;rw[if_neg (by intro h;rw[hn,Bool.false_and]at h;cases h)];exact ag hQ))
def Itl(K:af)(a:ak):It:=
 ⟨λi H=>∃xs x,Wp K H a xs/\xs[i]? =aA x,λi H x H'=>H'=H/\∀xs,Wp K H a xs->xs[i]? =aA x,λi H=>∃xs,Wp K H a xs/\xs.length<=i⟩
def Itt(K:af)(a:ak):It:=
 ⟨λi H=>∃xs x,Uk K H a xs/\xs[i]? =aA x,λi H x H'=>H'=H/\∀xs,Uk K H a xs->xs[i]? =aA x,λi H=>∃xs,Uk K H a xs/\xs.length<=i⟩
def Itr(lo:Int)(n:Nat):It:=⟨λi _=>i<n,λi H x H'=>H'=H/\x= .int (lo+i),λi _=>n<=i⟩
theorem E9{P:bu}{w:ck}{K:af}{tg:ci}(a it:ak):Turn P w K tg (Itl K a) [it] it (λi h=>h.IsListIter it a i)where
 mem:=by simp
 obj:=λi h st b hb=>by
  have e:b=it:=by simpa using hb
  subst e;obtain⟨o,e,c,d⟩:=st;exact⟨o,e,λv z=>by rw[d]at z;cases z⟩
 keep:=λi h h' st k=>st.at λo e=>k it (by simp) o e
 item:=by intro X hP hw hK hc i pins s σ H E I hf st hg;subst hP hw hK;obtain⟨xs,x,hq,hx⟩:=hg;obtain⟨its,rv,p,hz⟩:=I.list hq;obtain⟨u,hu,ru⟩:=rv.get hx;obtain⟨f0,f1,f2,f3,f4,f5⟩:=hf it (by simp);refine wpAny_pyNext_list_item st p.isList (x:=u) (by simpa using hu) λh' st' sb=>?_;have I1:Inv X pins σ H {s with heap:=h'}:=I.turned (t':=s.toks) (λb o hb e=>(sb.2 b hb).trans e) f0 f1 f3 f4 f5;obtain⟨o,e,c,d⟩:=id st';exact⟨u,rfl,Tl (s:={s with heap:=h'}) e c d (by decide) ⟨x,H,I1,ru,⟨rfl,λys hy=>by rw[I.list_inj hy hq];exact hx⟩,st',λb hb=>(hf b hb).1⟩⟩
 done:=by intro X hP hw hK hc i pins s σ H E I hf st hg;subst hP hw hK;obtain⟨xs,hq,hx⟩:=hg;obtain⟨its,rv,p,hz⟩:=I.list hq;obtain⟨f0,f1,f2,f3,f4,f5⟩:=hf it (by simp);have hl:=rv.length;exact wpAny_pyNext_list_end (I.ok.hd hc) st p.isList (by simp;omega) λh' eb=>⟨rfl,I.turned (t':=s.toks) (λb o hb e=>eb b o hb e) f0 f1 f3 f4 f5⟩
 self:=λ_ _ _ _ _ st h=>wpAny_pyIter_listiter st h
theorem Tm{P:bu}{w:ck}{K:af}{tg:ci}(a it:ak):Turn P w K tg (Itt K a) [it] it (λi h=>h.IsTupleIter it a i)where
 mem:=by simp
 obj:=λi h st b hb=>by
  have e:b=it:=by simpa using hb
  subst e;obtain⟨o,e,c,d⟩:=st;exact⟨o,e,λv z=>by rw[d]at z;cases z⟩
 keep:=λi h h' st k=>st.at λo e=>k it (by simp) o e
 item:=by intro X hP hw hK hc i pins s σ H E I hf st hg;subst hP hw hK;obtain⟨xs,x,hq,hx⟩:=hg;obtain⟨its,rv,p,hz⟩:=I.tuple hq;obtain⟨u,hu,ru⟩:=rv.get hx;obtain⟨f0,f1,f2,f3,f4,f5⟩:=hf it (by simp);refine wpAny_pyNext_tuple_item st (show s.heap.IsTuple a its.toArray from p) (x:=u) (by simpa using hu) λh' st' sb=>?_;have I1:Inv X pins σ H {s with heap:=h'}:=I.turned (t':=s.toks) (λb o hb e=>(sb.2 b hb).trans e) f0 f1 f3 f4 f5;obtain⟨o,e,c,d⟩:=id st';exact⟨u,rfl,Tl (s:={s with heap:=h'}) e c d (by decide) ⟨x,H,I1,ru,⟨rfl,λys hy=>by rw[I.tuple_inj hy hq];exact hx⟩,st',λb hb=>(hf b hb).1⟩⟩
 done:=by intro X hP hw hK hc i pins s σ H E I hf st hg;subst hP hw hK;obtain⟨xs,hq,hx⟩:=hg;obtain⟨its,rv,p,hz⟩:=I.tuple hq;obtain⟨f0,f1,f2,f3,f4,f5⟩:=hf it (by simp);have hl:=rv.length;exact wpAny_pyNext_tuple_end (I.ok.hd hc) st (show s.heap.IsTuple a its.toArray from p) (by simp;omega) λh' eb=>⟨rfl,I.turned (t':=s.toks) (λb o hb e=>eb b o hb e) f0 f1 f3 f4 f5⟩
 self:=λ_ _ _ _ _ st h=>wpAny_pyIter_tupleiter st h
theorem S4{P:bu}{w:ck}{K:af}{tg:ci}(it:ak)(lo:Int)(n:Nat):Turn P w K tg (Itr lo n) [it] it (λi h=>IsRangeIter h it (lo+(i:Nat)*1) ((n:Int)- (i:Nat)) 1)where
 mem:=by simp
 obj:=λi h st b hb=>by
  have e:b=it:=by simpa using hb
  subst e;exact⟨_,st,λv z=>by
   have z':Data.fields _=Data.cell v:=z;cases z'⟩
 keep:=λi h h' st k=>k it (by simp) _ st
 item:=by intro X hP hw hK hc i pins s σ H E I hf st hg;subst hP hw hK;obtain⟨f0,f1,f2,f3,f4,f5⟩:=hf it (by simp);have W:=Walks.range (prog:=X.prog) (w:=X.w) (I.ok.hd hc) it lo 1 n;refine W.item i s _ _ hg st λv h' tk hv st' kk=>?_;obtain⟨t,rfl⟩:=hv;have I1:Inv X pins σ H {s with heap:=h',toks:=tk}:=I.turned (λb o hb e=>kk b o (by simpa using hb) e) f0 f1 f3 f4 f5;refine⟨_,rfl,Tl (s:={s with heap:=h',toks:=tk}) (n:="range_iterator") st' rfl rfl (by decide) ⟨.int (lo+i),H,I1,⟨t,?_⟩,⟨rfl,rfl⟩,st',λb hb=>(hf b hb).1⟩⟩;rw[Int.mul_one]
 done:=by intro X hP hw hK hc i pins s σ H E I hf st hg;subst hP hw hK;obtain⟨f0,f1,f2,f3,f4,f5⟩:=hf it (by simp);exact wpAny_pyNext_range_end (I.ok.hd hc) st (by have:n<=i:=hg;omega) λh' eb=>⟨rfl,I.turned (t':=s.toks) (λb o hb e=>eb b o hb e) f0 f1 f3 f4 f5⟩
 self:=λ_ _ _ _ _ st h=>wpAny_pyIter_rangeiter st h
section
variable{X:Cx}{tg:ci}
def Zw5(K:af)(tl:TE):TI:=λσ H R=>tl σ H λx H1=>∃a,x= .ref a/\(∃xs,Wp K H1 a xs)/\R (Itl K a) H1
def Zzg(K:af)(tl:TE):TI:=λσ H R=>tl σ H λx H1=>∃a,x= .ref a/\(∃xs,Uk K H1 a xs)/\R (Itt K a) H1
theorem Zcj{pins:List (ak×Obj)}{σ:St}{H:Hp}{s:am}{R:It->Hp->Prop}{E:aj->am->Prop}{lo hi:Int}{t u v:Tok}{tk:Nat}(I:Inv X pins σ H s)(h1:-(2^62)<=lo)(h2:lo<2^62)(h3:-(2^62)<=hi)(h4:hi<2^62)
  (q:R (Itr lo (hi- lo).toNat) H):ba (bp X.prog X.w) X.A (pyIter (.ref s.heap.objs.size)) (PIE X pins σ tg R) E {s with heap:=s.heap.push {cls:=.type "range",data:=.fields #[.int lo t,.int hi u,.int 1 v]},toks:=tk}:=by
 refine wpAny_pyIter_range (IsRange.new ..) (small_one h1 h2 h3 h4) ?_;have I1:Inv X pins σ H {s with heap:=s.heap.push {cls:=.type "range",data:=.fields #[.int lo t,.int hi u,.int 1 v]},toks:=tk}:=I.kept λb o e=>aq _ e;refine⟨(s.heap.push {cls:=.type "range",data:=.fields #[.int lo t,.int hi u,.int 1 v]}).objs.size,[(s.heap.push {cls:=.type "range",data:=.fields #[.int lo t,.int hi u,.int 1 v]}).objs.size],_,_,H,rfl,
  I1.kept (t':=tk) λb o e=>aq _ e,S4 _ lo (hi- lo).toNat,?_,λb hb=>?_,q⟩
 ·have e1:lo+((0:Nat):Int)*1=lo:=by simp
  have e2:(((hi- lo).toNat:Nat):Int)- ((0:Nat):Int)=Builtin.Range.rangeSize lo hi 1:=by rw[rangeSize_one];split<;> omega
  show IsRangeIter _ _ (lo+((0:Nat):Int)*1) ((((hi- lo).toNat:Nat):Int)- ((0:Nat):Int)) 1;rw[e1,e2];exact a9 _ rfl
 ·have e:b=(s.heap.push {cls:=.type "range",data:=.fields #[.int lo t,.int hi u,.int 1 v]}).objs.size:=by simpa using hb
  subst e;exact I1.fpOk (a8 _) (I1.hok.fresh (a8 _))
def Zj4(ta:TA):TI:=λσ H R=>ta σ H λvs H1=>∃j:Int,vs=[.int j]/\-(2^62)<=j/\j<2^62/\R (Itr 0 j.toNat) H1
def Zw6(ta:TA):TI:=λσ H R=>ta σ H λvs H1=>∃i j:Int,vs=[.int i,.int j]/\(-(2^62)<=i/\i<2^62/\-(2^62)<=j/\j<2^62)/\R (Itr i (j- i).toNat) H1
theorem Zat{a:ci}{ta:TA}{p pos:Pos}(hg:Gl X "range")(hm:X.mg "range"=aB)(ha:PA X [a] ta)(hs:ay [a] X.env=[(aD,f8 a X.env)]:=by rfl):PI X tg (.Call (.Name "range" p) [a] [] pos) (Zj4 ta):=by
 intro pins s σ H R I h;refine Call_ (Bo I hg hm boot_range (PyProof.Rows.callWith_type1 (Wo (ha pos pins s σ H _ I h) λus s1 ⟨vs,H1,I1,r1,q1⟩=>?_) hs rfl));obtain⟨j,e,q1,q2,q⟩:=q1;subst e;cases r1 with
 |cons r rr=>cases rr;obtain⟨t,rfl⟩:=r;exact call_range_1 (Zcj I1 (by omega) (by omega) q1 q2 (by simpa using q))
def Zau(wi:TI)(g:TG)(tb:TS):TS:=λD σ H=>wi σ H λJ H1=>∃W:Nat->Nat->St->Hp->Prop,(∃m,W 0 m σ H1)/\∀i m σ H,W i m σ H->
 (J.stop i H/\D.nx σ H)\/(J.go i H/\∃N:St->Hp->Prop,(∀σ' H',N σ' H'->∃m',m'<m/\W (i+1) m' σ' H')/\∀x H',J.yld i H x H'->g x σ H' λσ2 H2=>tb {D with nx:=N,ct:=N,bk:=D.nx} σ2 H2)
def Tn(fp:List ak)(h:dq):List (ak×Obj):=fp.filterMap λb=>(h.get? b).map λo=>(b,o)
theorem Oh{fp:List ak}{h:dq}{b:ak}{o:Obj}(hb:b∈fp)(e:h.get? b=aA o):(b,o)∈Tn fp h:=List.mem_filterMap.mpr ⟨b,hb,by rw[e];rfl⟩
theorem Zav{fp:List ak}{h:dq}{p:ak×Obj}(hp:p∈Tn fp h):p.1∈fp/\h.get? p.1=aA p.2:=by
 obtain⟨b,hb,e⟩:=List.mem_filterMap.mp hp;cases q:h.get? b with
 |none=>rw[q]at e;cases e
 |some o=>rw[q]at e;have e':(b,o)=p:=dm.inj e;subst e';exact⟨hb,q⟩
theorem Inv.pinned{pins:List (ak×Obj)}{σ:St}{H:Hp}{s:am}{fp:List ak}(I:Inv X pins σ H s)(hf:∀b∈fp,Jb X pins H b)(ho:∀b∈fp,∃o,s.heap.get? b=aA o/\∀v,o.data≠.cell v):Inv X (pins++Tn fp s.heap) σ H s:=
 I.pins_of λp hp=>(cn.mp hp).elim (λz=>I.pin p (c6 _ z)) λz=>by obtain⟨hb,e⟩:=Zav z;obtain⟨f0,f1,f2,_⟩:=hf p.1 hb;obtain⟨o,e',d⟩:=ho p.1 hb;rw[e]at e';cases e';exact⟨e,f0,f1,f2,d⟩
theorem Inv.unpinned{pins pl:List (ak×Obj)}{σ:St}{H:Hp}{s:am}(I:Inv X (pins++pl) σ H s):Inv X pins σ H s:=I.pins_of λp hp=>I.pin p (c6 _ (List.mem_append_left _ hp))
theorem Zck {iter : ci} {body : List Stmt} {wi : TI} {g : TG} {tb : TS} {pos : Pos} (hp : PassesOwn (bp X.prog X.w) X.A X.env X.xe) (hc : X.calm = aC) (hi : PI X tg iter wi) (hg : PG X tg g) (hb : Gs X body tb)
    (hs : ∀ x, foldedSetIterable iter X.env x = pure x := by intro _; rfl) : PS X (.For tg iter body [] pos) (Zau wi g tb) := by
  intro pins s σ H D I h;refine wpAny_For (Wo (hi pins s σ H _ I h) λv s1 h1 => Wo h1 λitv s2 h2 => ?_) hs;obtain ⟨it, fp, tn, J, H2, e, I2, T, st2, f2, W, ⟨m0, w0⟩, turn⟩ := h2;subst e
  -- what stays aC of the iterator's objects through the loop
  have stat : ∀ {H' : Hp}, (∀ b ∈ fp, H' b = aB) -> ∀ b ∈ fp, Jb X pins H' b := λhn b hb => ⟨hn b hb, (f2 b hb).2⟩
  refine codeAny_forLoop_any (λn s' => ∃ i σ' H', Inv X pins σ' H' s' /\ tn i s'.heap /\ (∀ b ∈ fp, H' b = aB) /\ W i n σ' H') ?_ m0 ⟨0, σ, H2, I2, st2, λb hb => (f2 b hb).1, w0⟩;rintro n s3 ⟨i, σ3, H3, I3, st3, fr3, w3⟩;rcases turn i n σ3 H3 w3 with ⟨stop, qn⟩ | ⟨go, N, hN, step⟩
  · refine wpAny_passesOwn hp (Wo (T.done X rfl rfl rfl hc i pins s3 σ3 H3 X.xe I3 (stat fr3) st3 stop) λr s4 ⟨hr, I4⟩ => ?_)
    subst hr;exact wpAny_execs_nil ⟨σ3, H3, I4, qn⟩
  · refine wpAny_passesOwn hp (Wo (T.item X rfl rfl rfl hc i pins s3 σ3 H3 X.xe I3 (stat fr3) st3 go) λr s4 ⟨u, hr, h4⟩ => ?_)
    subst hr;refine wpAny_passesOwn hp (Wo h4 λ_ s5 zq9 => ?_);obtain ⟨x, H5, I5, r5, y5, st5, fr5⟩ := zq9;have I5' := I5.pinned (stat fr5) (T.obj _ _ st5);refine wpAny_passesOwn hp (Wo (hg _ s5 σ3 H5 x u _ I5' r5 (step x H5 y5)) λ_ s6 zq9 => ?_);obtain ⟨σ6, H6, I6, q6⟩ := zq9;refine wpAny_passesOwn hp (Wo (hb _ s6 σ6 H6 _ I6 q6) λf s7 q7 => ?_);have again : ∀ {σ7 : St} {H7 : Hp}, Inv X (pins ++ Tn fp s5.heap) σ7 H7 s7 -> N σ7 H7 -> ∃ m, m < n /\ ∃ i σ' H', Inv X pins σ' H' s7 /\ tn i s7.heap /\ (∀ b ∈ fp, H' b = aB) /\ W i m σ' H' := λ{σ7 H7} I7 n7 => by obtain ⟨m', hm, w7⟩ := hN σ7 H7 n7;refine ⟨m', hm, i + 1, σ7, H7, I7.unpinned, T.keep _ _ _ st5 λb hb o e => (I7.pin (b, o) (c6 _ (c6 _ (Oh hb e)))).1, λb hb => ?_, w7⟩;obtain ⟨o, e, d⟩ := T.obj _ _ st5 b hb;exact (I7.pin (b, o) (c6 _ (c6 _ (Oh hb e)))).2.1
    cases f with
    | next => obtain ⟨σ7, H7, I7, n7⟩ := q7; exact again I7 n7
    | cont => obtain ⟨σ7, H7, I7, n7⟩ := q7; exact again I7 n7
    | brk => obtain ⟨σ7, H7, I7, q7⟩ := q7; exact ⟨σ7, H7, I7.unpinned, q7⟩
    | ret v => obtain ⟨x7, σ7, H7, I7, r7, q7⟩ := q7; exact ⟨x7, σ7, H7, I7.unpinned, r7, q7⟩
end
abbrev R2:=V->V->Hp->VK->Prop
def Bh(X:Cx)(f:aj->aj->Sem aj)(r:R2):Prop:=
 ∀(pins:List (ak×Obj)) (s:am) (σ:St) (H:Hp) (x y:V) (v u:aj) (Q:VK),Inv X pins σ H s->Zm x v->Zm y u->r x y H Q->
  ba (bp X.prog X.w) X.A (f v u) (EP X pins σ Q) X.xe s
def UnR(X:Cx)(f:aj->Sem aj)(r:V->Hp->VK->Prop):Prop:=
 ∀(pins:List (ak×Obj)) (s:am) (σ:St) (H:Hp) (x:V) (v:aj) (Q:VK),Inv X pins σ H s->Zm x v->r x H Q->
  ba (bp X.prog X.w) X.A (f v) (EP X pins σ Q) X.xe s
def Qd(X:Cx)(f:aj)(r:List V->Hp->VK->Prop):Prop:=
 ∀(pins:List (ak×Obj)) (s:am) (σ:St) (H:Hp) (xs:List V) (us:List aj) (Q:VK),Inv X pins σ H s->Zw xs us->r xs H Q->
  ba (bp X.prog X.w) X.A (call f us) (EP X pins σ Q) X.xe s
def Zzh(X:Cx)(r:V->Hp->(Bool->Hp->Prop)->Prop):Prop:=
 ∀(pins:List (ak×Obj)) (s:am) (σ:St) (H:Hp) (x:V) (v:aj) (Q:Bool->Hp->Prop),Inv X pins σ H s->Zm x v->r x H Q->
  ba (bp X.prog X.w) X.A (truthy v) (TP X pins σ Q) X.xe s
def tOp(r:R2)(ta tb:TE):TE:=λσ H Q=>ta σ H λx H1=>tb σ H1 λy H2=>r x y H2 Q
def tUn(r:V->Hp->VK->Prop)(ta:TE):TE:=λσ H Q=>ta σ H λx H1=>r x H1 Q
def rI(C:Int->Int->Prop)(g:Int->Int->V):R2:=λx y H Q=>∃i j,x= .int i/\y= .int j/\C i j/\Q (g i j) H
def rI0(g:Int->Int->V):R2:=λx y H Q=>∃i j,x= .int i/\y= .int j/\Q (g i j) H
def rU(g:Int->V):V->Hp->VK->Prop:=λx H Q=>∃i,x= .int i/\Q (g i) H
section
variable{X:Cx}{a b c:ci}{ta tb tc:TE}{pos:Pos}
theorem Zl4(ha:PE X a ta)(hb:PE X b tb){pins:List (ak×Obj)}{s:am}{σ:St}{H:Hp}{R:V->V->Hp->Prop}(I:Inv X pins σ H s)
  (h:ta σ H λx H1=>tb σ H1 λy H2=>R x y H2) {Q:aj->am->Prop} {f:aj->aj->Sem aj}
  (hf:∀v u s2 x y H2,Inv X pins σ H2 s2->Zm x v->Zm y u->R x y H2->ba (bp X.prog X.w) X.A (f v u) Q X.xe s2):
  ba (bp X.prog X.w) X.A (f8 a X.env) (λv s₁=>ba (bp X.prog X.w) X.A (f8 b X.env) (λu s₂=>ba (bp X.prog X.w) X.A (f v u) Q X.xe s₂) X.xe s₁) X.xe s:=by
 refine Wo (ha pins s σ H _ I h) λv s1 zq9=>?_;obtain⟨x,H1,I1,r1,q1⟩:=zq9;refine Wo (hb pins s1 σ H1 _ I1 q1) λu s2 zq9=>?_;obtain⟨y,H2,I2,r2,q2⟩:=zq9;exact hf v u s2 x y H2 I2 r1 r2 q2
theorem Zpc{op:Operator}{r:R2}(ho:Bh X (binaryOp op) r)(ha:PE X a ta)(hb:PE X b tb):PE X (.BinOp a op b pos) (tOp r ta tb):=by intro pins s σ H Q I h;exact wpAny_BinOp (Zl4 ha hb I h λv u s2 x y H2 I2 rx ry q=>ho pins s2 σ H2 x y v u Q I2 rx ry q)
theorem opI{f:aj->aj->Sem aj}{C:Int->Int->Prop}{g:Int->Int->Int}
  (rule:∀(i j:Int) (t u:Tok) (s:am) (Q:aj->am->Prop) (E:aj->am->Prop),C i j->Q (.int (g i j) s.toks) {s with toks:=s.toks+1}->ba (bp X.prog X.w) X.A (f (.int i t) (.int j u)) Q E s):
  Bh X f (rI C λi j=>.int (g i j)):=by
 intro pins s σ H x y v u Q I rx ry h;obtain⟨i,j,rfl,rfl,hc,q⟩:=h;obtain⟨t,rfl⟩:=rx;obtain⟨t',rfl⟩:=ry;exact rule i j t t' s _ _ hc ⟨.int (g i j),H,I.tok _,⟨_,rfl⟩,q⟩
theorem Zud{f:aj->aj->Sem aj}{g:Int->Int->Int}
  (rule:∀(i j:Int) (t u:Tok) (s:am) (Q:aj->am->Prop) (E:aj->am->Prop),Q (.int (g i j) s.toks) {s with toks:=s.toks+1}->ba (bp X.prog X.w) X.A (f (.int i t) (.int j u)) Q E s):
  Bh X f (rI0 λi j=>.int (g i j)):=by
 intro pins s σ H x y v u Q I rx ry h;obtain⟨i,j,rfl,rfl,q⟩:=h;obtain⟨t,rfl⟩:=rx;obtain⟨t',rfl⟩:=ry;exact rule i j t t' s _ _ ⟨.int (g i j),H,I.tok _,⟨_,rfl⟩,q⟩
theorem Zpd{f:aj->aj->Sem aj}{g:Int->Int->Bool}
  (rule:∀(i j:Int) (t u:Tok) (s:am) (Q:aj->am->Prop) (E:aj->am->Prop),Q (.bool (g i j)) s->ba (bp X.prog X.w) X.A (f (.int i t) (.int j u)) Q E s):
  Bh X f (rI0 λi j=>.bl (g i j)):=by
 intro pins s σ H x y v u Q I rx ry h;obtain⟨i,j,rfl,rfl,q⟩:=h;obtain⟨t,rfl⟩:=rx;obtain⟨t',rfl⟩:=ry;exact rule i j t t' s _ _ ⟨.bl (g i j),H,I,rfl,q⟩
def Zpe(i j:Int):Prop:=0<j/\j<1073741824
def Zw7(i j:Int):Prop:=j≠0/\j.natAbs<1073741824
def Zzj(i j:Int):Prop:=0<=j/\j<=1000000/\i.natAbs<2^64
def Zcl(i j:Int):Prop:=(-(2^64)<i/\i<2^64)\/(-(2^64)<j/\j<2^64)
theorem Zcl.ok{i j:Int}(h:Zcl i j):IntMulOk i j:=by
 rcases h with⟨h1,h2⟩|⟨h1,h2⟩
 ·exact .of_left (intBits_le_64 h1 h2)
 ·exact .of_right (intBits_le_64 h1 h2)
theorem Zl5:Bh X (binaryOp .Add) (rI0 λi j=>.int (i+j)):=Zud λ_ _ _ _ _ _ _ q=>add_int q
theorem Zl6:Bh X (binaryOp .Mult) (rI Zcl λi j=>.int (i*j)):=opI λ_ _ _ _ _ _ _ hc q=>mul_int q hc.ok
theorem Zhg:Bh X (binaryOp .FloorDiv) (rI Zpe λi j=>.int (i / j)):=opI λi j _ _ _ _ _ hc q=>by have h1:(0:Int)<j:=hc.1;have h2:j<1073741824:=hc.2;exact floordiv_int (by omega) (by rw[Int.fdiv_eq_ediv_of_nonneg i (by omega)];exact q) (.inl (PyProof.noPylong_small (by omega)))
theorem Zl7:Bh X (binaryOp .Mod) (rI (λ_ j=>0<j) λi j=>.int (i % j)):=opI λi j _ _ _ _ _ hc q=>by have h1:(0:Int)<j:=hc;exact mod_int' (by omega) (by rw[Int.fmod_eq_emod_of_nonneg i (by omega)];exact q)
end
def scal:V->V->Bool
 | .non,.non=>aC| .non,.int _=>aC| .int _,.non=>aC| .non,.bl _=>aC| .bl _,.non=>aC| .non,.str _=>aC| .str _,.non=>aC
 | .int _,.int _=>aC| .bl _,.bl _=>aC| .str _,.str _=>aC| .byt _,.byt _=>aC
 | .int _,.str _=>aC| .str _,.int _=>aC| .bl _,.str _=>aC| .str _,.bl _=>aC
 |_,_=>aD
def rEq:R2:=λx y H Q=>scal x y=aC/\Q (.bl (decide (x=y))) H
def rNe:R2:=λx y H Q=>scal x y=aC/\Q (.bl (!decide (x=y))) H
theorem Ha{i j:Int}:decide (V.int i=V.int j)=(i==j):=by rw[Bool.eq_iff_iff];simp
theorem Zcm{i j:Bool}:decide (V.bl i=V.bl j)=(i==j):=by rw[Bool.eq_iff_iff];simp
theorem Hb{i j:Str}:decide (V.str i=V.str j)=(i==j):=by rw[Bool.eq_iff_iff];simp
theorem Hc{i j:Array UInt8}:decide (V.byt i=V.byt j)=(i.toList==j.toList):=by rw[Bool.eq_iff_iff];cases i;cases j;simp
section
variable{X:Cx}{a b c:ci}{ta tb tc:TE}{pos:Pos}
theorem Yf{pins:List (ak×Obj)}{σ:St}{H:Hp}{s:am}{Q:VK}{k k':Bool}(I:Inv X pins σ H s)(q:Q (.bl k) H)(e:k=k'):EP X pins σ Q (.bool k') s:=by subst e;exact⟨.bl k,H,I,rfl,q⟩
theorem Zcn:Bh X (gh .Eq) rEq:=by
 intro pins s σ H x y v u Q I rx ry h;obtain⟨hs,q⟩:=h;cases x with
 |non=>
  cases rx;cases y with
  |non=>cases ry;exact PySem.EqNone.eq_none_none (Yf I q (by simp))
  |bl j=>cases ry;exact PySem.EqNone.eq_none_bool (Yf I q (by simp))
  |int j=>obtain⟨t',rfl⟩:=ry;exact PySem.EqNone.eq_none_int (Yf I q (by simp))
  |str j=>obtain⟨t',rfl⟩:=ry;exact PySem.EqNone.eq_none_str (Yf I q (by simp))
  |_=>exact absurd (show aD=aC from hs) bh
 |bl i=>
  cases rx;cases y with
  |non=>cases ry;exact PySem.EqNone.eq_bool_none (Yf I q (by simp))
  |bl j=>cases ry;exact eq_bool (Yf I q Zcm)
  |str j=>obtain⟨t',rfl⟩:=ry;exact PySem.EqMixed.eq_bool_str (Yf I q (by simp))
  |_=>exact absurd (show aD=aC from hs) bh
 |int i=>
  obtain⟨t,rfl⟩:=rx;cases y with
  |non=>cases ry;exact PySem.EqNone.eq_int_none (Yf I q (by simp))
  |int j=>obtain⟨t',rfl⟩:=ry;exact eq_int (Yf I q Ha)
  |str j=>obtain⟨t',rfl⟩:=ry;exact PySem.EqMixed.eq_int_str (Yf I q (by simp))
  |_=>exact absurd (show aD=aC from hs) bh
 |str i=>
  obtain⟨t,rfl⟩:=rx;cases y with
  |non=>cases ry;exact PySem.EqNone.eq_str_none (Yf I q (by simp))
  |bl j=>cases ry;exact PySem.EqMixed.eq_str_bool (Yf I q (by simp))
  |int j=>obtain⟨t',rfl⟩:=ry;exact PySem.EqMixed.eq_str_int (Yf I q (by simp))
  |str j=>obtain⟨t',rfl⟩:=ry;exact eq_str (Yf I q Hb)
  |_=>exact absurd (show aD=aC from hs) bh
 |byt i=>
  obtain⟨t,rfl⟩:=rx;cases y with
  |byt j=>obtain⟨t',rfl⟩:=ry;exact PySem.W.eq_bytes (Yf I q Hc)
  |_=>exact absurd (show aD=aC from hs) bh
 |_=>cases y<;> exact absurd (show aD=aC from hs) bh
theorem Zj5:Bh X (gh .NotEq) rNe:=by
 intro pins s σ H x y v u Q I rx ry h;obtain⟨hs,q⟩:=h;cases x with
 |non=>
  cases rx;cases y with
  |non=>cases ry;exact PySem.EqNone.ne_none_none (Yf I q (by simp))
  |bl j=>cases ry;exact PySem.EqNone.ne_none_bool (Yf I q (by simp))
  |int j=>obtain⟨t',rfl⟩:=ry;exact PySem.EqNone.ne_none_int (Yf I q (by simp))
  |str j=>obtain⟨t',rfl⟩:=ry;exact PySem.EqNone.ne_none_str (Yf I q (by simp))
  |_=>exact absurd (show aD=aC from hs) bh
 |bl i=>
  cases rx;cases y with
  |non=>cases ry;exact PySem.EqNone.ne_bool_none (Yf I q (by simp))
  |bl j=>cases ry;exact ne_bool (Yf I q (congrArg not Zcm))
  |str j=>obtain⟨t',rfl⟩:=ry;exact PySem.EqMixed.ne_bool_str (Yf I q (by simp))
  |_=>exact absurd (show aD=aC from hs) bh
 |int i=>
  obtain⟨t,rfl⟩:=rx;cases y with
  |non=>cases ry;exact PySem.EqNone.ne_int_none (Yf I q (by simp))
  |int j=>obtain⟨t',rfl⟩:=ry;exact ne_int (Yf I q (congrArg not Ha))
  |str j=>obtain⟨t',rfl⟩:=ry;exact PySem.EqMixed.ne_int_str (Yf I q (by simp))
  |_=>exact absurd (show aD=aC from hs) bh
 |str i=>
  obtain⟨t,rfl⟩:=rx;cases y with
  |non=>cases ry;exact PySem.EqNone.ne_str_none (Yf I q (by simp))
  |bl j=>cases ry;exact PySem.EqMixed.ne_str_bool (Yf I q (by simp))
  |int j=>obtain⟨t',rfl⟩:=ry;exact PySem.EqMixed.ne_str_int (Yf I q (by simp))
  |str j=>obtain⟨t',rfl⟩:=ry;exact ne_str (Yf I q (congrArg not Hb))
  |_=>exact absurd (show aD=aC from hs) bh
 |byt i=>
  obtain⟨t,rfl⟩:=rx;cases y with
  |byt j=>obtain⟨t',rfl⟩:=ry;exact PySem.W.ne_bytes (Yf I q (congrArg not Hc))
  |_=>exact absurd (show aD=aC from hs) bh
 |_=>cases y<;> exact absurd (show aD=aC from hs) bh
theorem Zpf:Bh X (gh .Lt) (rI0 λi j=>.bl (decide (i<j))):=Zpd λ_ _ _ _ _ _ _ q=>lt_int q
theorem Zpg:Bh X (gh .Gt) (rI0 λi j=>.bl (decide (j<i))):=Zpd λ_ _ _ _ _ _ _ q=>gt_int q
theorem Ia:Bh X (gh .In) (λx y H Q=>∃i j,x= .str i/\y= .str j/\Q (.bl (!(c8 j i 0 j.length 1).isEmpty)) H):=by intro pins s σ H x y v u Q I rx ry h;obtain⟨i,j,rfl,rfl,q⟩:=h;obtain⟨t,rfl⟩:=rx;obtain⟨t',rfl⟩:=ry;exact in_str (Yf I q rfl)
def Zw8:HO->Bool
 | .lst _=>aC
 | .ins _ _ _=>aC
 |_=>aD
theorem Bh.or{f:aj->aj->Sem aj}{r r':R2}(h:Bh X f r)(h':Bh X f r'):Bh X f (λx y H Q=>r x y H Q\/r' x y H Q):=by
 intro pins s σ H x y v u Q I rx ry q;rcases q with q|q
 ·exact h pins s σ H x y v u Q I rx ry q
 ·exact h' pins s σ H x y v u Q I rx ry q
theorem C4(b:ci){op:CmpOp}(h:op≠.In:=by decide)(h2:op≠.NotIn:=by decide):behindInMarks op b=aD:=by
 have e1:(op==CmpOp.In)=aD:=by cases op<;> first|rfl|exact absurd rfl h
 have e2:(op==CmpOp.NotIn)=aD:=by cases op<;> first|rfl|exact absurd rfl h2
 cases b<;> simp[behindInMarks,e1,e2]
theorem Zhh{op:CmpOp}{r:R2}(ho:Bh X (gh op) r)(ha:PE X a ta)(hb:PE X b tb)(hm:behindInMarks op b=aD):PE X (.Compare a [op] [b] pos) (tOp r ta tb):=by intro pins s σ H Q I h;exact wpAny_Compare1 (Zl4 ha hb I h λv u s2 x y H2 I2 rx ry q=>ho pins s2 σ H2 x y v u Q I2 rx ry q) hm
def Zj6(t:TE):TT:=λσ H Q=>t σ H λx H'=>∃k,x= .bl k/\Q k H'
theorem Zhi{op:CmpOp}{r:R2}(ho:Bh X (gh op) r)(ha:PE X a ta)(hb:PE X b tb)(hm:behindInMarks op b=aD):PT X (.Compare a [op] [b] pos) (Zj6 (tOp r ta tb)):=by
 intro pins s σ H Q I h;refine wpAny_isTrue_Compare1 (Wo (ha pins s σ H _ I h) λv s1 ⟨x,H1,I1,r1,q1⟩=>Wo (hb pins s1 σ H1 _ I1 q1) λu s2 ⟨y,H2,I2,r2,q2⟩=>
  Wo (ho pins s2 σ H2 x y v u _ I2 r1 r2 q2) λc s3 ⟨z,H3,I3,r3,k,e,q3⟩=>?_) hm
 subst e;cases r3;exact wpAny_truthy_bool ⟨H3,I3,q3⟩
def Zue(r r':R2)(ta tb tc:TE):TE:=λσ H Q=>ta σ H λx H1=>tb σ H1 λy H2=>r x y H2 λz H3=>∃k,z= .bl k/\
 (if k=aC then tc σ H3 λw' H4=>r' y w' H4 Q else Q (.bl aD) H3)
def Zzk(K:af)(x:V)(H:Hp)(k:Bool):Prop:=
 match x with
 | .non=>k=aD
 | .bl b=>k=b
 | .int i=>k=(i !=0)
 | .str y=>y.length<=sizeLine/\k=((y.length:Int) !=0)
 | .byt y=>y.size<=sizeLine/\k=((y.size:Int) !=0)
 | .ref p=>(∃xs,Wp K H p xs/\k= !xs.isEmpty)\/(∃xs,Uk K H p xs/\k= !xs.isEmpty)\/∃kvs,HK H p kvs/\k= !kvs.isEmpty
 |_=>False
theorem To:(sizeLine:Nat)<2^63:=by rw[dr];decide
theorem S5:Bh X (binaryOp .Add) (λx y H Q=>∃i j,x= .str i/\y= .str j/\i.length+j.length<=sizeLine/\Q (.str (i++j)) H):=by intro pins s σ H x y v u Q I rx ry h;obtain⟨i,j,rfl,rfl,hz,q⟩:=h;obtain⟨t,rfl⟩:=rx;obtain⟨t',rfl⟩:=ry;exact add_str (λt' tk=>⟨.str (i++j),H,I.tok _,⟨_,rfl⟩,q⟩) hz
def Zph(b:ci):Prop:=∀o i,subscripted b aD o i=operate [o,i] (getItem o i)
theorem Jt{x:V}{us:List aj}(r:Zw [x] us):∃u,us=[u]/\Zm x u:=by
 cases r with
 |cons r1 r2=>cases r2;exact⟨_,rfl,r1⟩
theorem Zj7{x y:V}{us:List aj}(r:Zw [x,y] us):∃u w',us=[u,w']/\Zm x u/\Zm y w':=by
 cases r with
 |cons r1 r2=>
  cases r2 with
  |cons r3 r4=>cases r4;exact⟨_,_,rfl,r1,r3⟩
theorem Zaw:Qd X (.type "int") (λxs H Q=>(∃i,xs=[.int i]/\Q (.int i) H)\/∃k,xs=[.bl k]/\Q (.int (if k then 1 else 0)) H):=by
 intro pins s σ H xs us Q I r h;rcases h with⟨i,rfl,q⟩|⟨k,rfl,q⟩
 ·obtain⟨u,rfl,t,rfl⟩:=Jt r;exact call_int_int ⟨.int i,H,I,⟨_,rfl⟩,q⟩
 ·obtain⟨u,rfl,r1⟩:=Jt r;cases r1;exact call_int_bool ⟨.int (if k then 1 else 0),H,I.tok _,⟨_,rfl⟩,q⟩
theorem Ki:Qd X (.type "str") (λxs H Q=>∃i,xs=[.int i]/\i.natAbs.log2<1920/\Q (.str (toString i)) H):=by intro pins s σ H xs us Q I r h;obtain⟨i,rfl,hz,q⟩:=h;obtain⟨u,rfl,t,rfl⟩:=Jt r;exact PySem.P.str_of_int hz ⟨.str _,H,I.tok _,⟨_,rfl⟩,q⟩
def Zzl(K:af)(x:V)(H:Hp)(n:Nat):Prop:=
 match x with
 | .str y=>y.length<=sizeLine/\n=y.length
 | .byt y=>y.size<=sizeLine/\n=y.size
 | .ref p=>(∃xs,Wp K H p xs/\n=xs.length)\/∃xs,Uk K H p xs/\n=xs.length
 |_=>False
end
structure ObjM(h:dq)(x dx C:ak)(mA:Str->Option aj):Prop where
 obj:h.get? x=aA (PySem.W.instObj C dx)
 ns:h.Ns1 dx mA
 ne:dx≠x
def Ry(f:Str)(v:V):List (Str×V)->List (Str×V)
  | []=>[(f,v)]
  | (g,x)::r=>if g=f then(g,v)::r else(g,x)::Ry f v r
theorem C3.some_of{v:V}{o:Option aj}(r:C3 (aA v) o):∃u,o=aA u/\Zm v u:=by
 cases o with
 |none=>exact(show False from r).elim
 |some u=>exact⟨u,rfl,r⟩
structure Cls(K:af)(C:ak):Prop where
 pg:PySem.W.plainGet K C Str.empty=aC
 hd:PySem.W.hasDictIn K C=aC
 po:PySem.W.plainOver K C=aC
 sa:PySem.W.findIn K (.ref C) "__setattr__"=aA (aA (.builtin "object.__setattr__"))
def S6(K:af)(C:ak)(f:Str):Prop:=PySem.W.findIn K (.ref C) f=aA aB
structure Con(K:af)(C:ak)(f:Str)(v:V)(u:aj):Prop where
 at_:PySem.W.findIn K (.ref C) f=aA (aA u)
 rel:Zm v u
 get:PySem.W.specialIn K u "__get__"=aA aB
 cp:PySem.W.copiedNames.contains f=aD
structure Meth(K:af)(C:ak)(m:Str)(f:ak):Prop where
 at_:PySem.W.findIn K (.ref C) m=aA (aA (.ref f))
 fn:PySem.W.isFn K (.ref f)=aC
 kp:bq K (.ref f)=aC
def Zzm(K:af)(ta:TE)(f:Str):TE:=λσ H Q=>ta σ H λx H1=>∃a C dx fs v,x= .ref a/\H1 a=aA (.ins C dx fs)/\Cls K C/\S6 K C f/\fs.lookup f=aA v/\Q v H1
def Zzn(K:af)(ta:TE)(f:Str):TE:=λσ H Q=>ta σ H λx H1=>∃a C dx fs v u,x= .ref a/\H1 a=aA (.ins C dx fs)/\Cls K C/\Con K C f v u/\fs.lookup f=aB/\Q v H1
def Zzo(K:af)(ta tv:TE)(f:Str):TS:=λD σ H=>tv σ H λy H1=>ta σ H1 λx H2=>∃a C dx fs,x= .ref a/\H2 a=aA (.ins C dx fs)/\Cls K C/\S6 K C f/\fs.length<1000/\
 D.nx σ (Z5 H2 a (.ins C dx (Ry f y fs)))
def Zzp(X:Cx)(op:Operator)(rd:V->V->Hp->VK->Prop):Prop:=
 ∀(pins:List (ak×Obj)) (s:am) (σ:St) (H:Hp) (x y:V) (u v:aj) (Q:VK),Inv X pins σ H s->Zm x u->Zm y v->rd x y H Q->ba (bp X.prog X.w) X.A (inplaceOp op u v) (EP X pins σ Q) X.xe s
def Zs0(K:af)(ta tv:TE)(rd:V->V->Hp->VK->Prop)(f:Str):TS:=λD σ H=>ta σ H λx H1=>∃a C dx fs v,x= .ref a/\H1 a=aA (.ins C dx fs)/\Cls K C/\S6 K C f/\fs.lookup f=aA v/\
 tv σ H1 λy H2=>rd v y H2 λz H3=>∃dx' fs',H3 a=aA (.ins C dx' fs')/\fs'.length<1000/\D.nx σ (Z5 H3 a (.ins C dx' (Ry f z fs')))
section
variable{X:Cx}{o e value:ci}{f:Str}{pos pos' tpos:Pos}{ta tv:TE}
def Zzq:V->V->Hp->VK->Prop:=λx y H Q=>∃i j,x= .int i/\y= .int j/\Q (.int (i+j)) H
def Zzr:V->V->Hp->VK->Prop:=λx y H Q=>∃i j,x= .int i/\y= .int j/\Q (.int (i- j)) H
end
section
variable{X:Cx}{pins:List (ak×Obj)}{σ:St}{H:Hp}{s:am}{A:cj}{E:aj->am->Prop}{Q:aj->am->Prop}{c:aj}{b:Bool}
inductive TyOf(K:af)(H:Hp):V->aj->Prop where
 |non:TyOf K H .non (.type "NoneType")
 |bl (x:Bool):TyOf K H (.bl x) (.type "bool")
 |int (i:Int):TyOf K H (.int i) (.type "int")
 |str (x:Str):TyOf K H (.str x) (.type "str")
 |flt (x:UInt64):TyOf K H (.flt x) (.type "float")
 |lst {a:ak} {xs:List V} (e:H a=aA (.lst xs)):TyOf K H (.ref a) (.type "list")
 |frz {a:ak} {o:Obj} {xs:List V} (e:H a=aA (.frz o (.lst xs))):TyOf K H (.ref a) (.type "list")
 |tup {a:ak} {xs:List V} (e:H a=aA (.tup xs)):TyOf K H (.ref a) (.type "tuple")
 |dK {a:ak} {kvs:List (Key×V)} {ep:Nat} (e:H a=aA (.dK kvs ep)):TyOf K H (.ref a) (.type "dict")
 |dT {a:ak} {kvs:List (List Key×V)} {ep:Nat} {bs:List ak} (e:H a=aA (.dT kvs ep bs)):TyOf K H (.ref a) (.type "dict")
 |ins {a C dx:ak} {fs:List (Str×V)} (e:H a=aA (.ins C dx fs)) (cl:Cls K C) (ha:PySem.W.findIn K (.ref C) "__class__"=aA (aA (.builtin "object.__class__")))
   (hn:PySem.W.specialIn K (.builtin "object.__class__") "__get__"=aA (aA (.builtin "getset_descriptor.__get__"))) (htk:PySem.W.takesIn K (.builtin "object.__class__")=aA aC)
   (hm:PySem.W.mroIn K C (.type "object")=aA aC):TyOf K H (.ref a) (.ref C)
end
structure Room(k:Nat)(A:cj):Prop where
 hd:A.handled=aB
 dp:A.depth+3*k+5<recursionLimit
 un:A.units+16*k+200<dw
theorem Room.mono{j k:Nat}{A:cj}(r:Room k A)(h:j<=k):Room j A:=⟨r.hd,by have:=r.dp;omega,by have:=r.un;omega⟩
theorem Room.deeper{k:Nat}{A:cj}(r:Room (k+1) A)(env:Env):Room k (A.deeper env):=
 ⟨r.hd,by have:=r.dp;show A.depth+1+3*k+5<_;omega,by have:=r.un;show A.units+3+16*k+200<_;omega⟩
theorem Room.depth{k:Nat}{A:cj}(r:Room k A):A.depth<recursionLimit:=by have:=r.dp;omega
theorem Room.units{k:Nat}{A:cj}(r:Room k A):A.units+64<cLine:=by have:=r.un;omega
def Rz:TA:=λ_ H Q=>Q [] H
def Ju(ta:TE)(tr:TA):TA:=λσ H Q=>ta σ H λx H1=>tr σ H1 λxs H2=>Q (x::xs) H2
section
variable{X:Cx}{e:ci}{es:List ci}{te:TE}{t:TA}{pos:Pos}
theorem Jv:PA X [] Rz:=λ_ _ _ _ H Q I h=>Calls.spliced_nil ⟨[],H,I,.nil,h⟩
theorem W3(ha:PE X e te)(hr:PA X es t)(hs:ay (e::es) X.env=(aD,f8 e X.env)::ay es X.env:=by rfl):PA X (e::es) (Ju te t):=by intro pos pins s σ H Q I h;rw[hs];show ba _ _ (spliced ((aD,f8 e X.env)::f6 pos (ay es X.env))) _ _ s;refine Calls.spliced_cons (Wo (ha pins s σ H _ I h) λu s1 zq9=>?_);obtain⟨x,H1,I1,r1,q1⟩:=zq9;exact Wo (hr pos pins s1 σ H1 _ I1 q1) λus s2 ⟨xs,H2,I2,r2,q2⟩=>⟨x::xs,H2,I2,.cons r1 r2,q2⟩
def Zco(t:TA):TE:=λσ H Q=>t σ H λxs H1=>xs.length<=sizeLine/\∀p,H1 p=aB->Q (.ref p) (Z5 H1 p (.tup xs))
def Zl8(t:TA):TE:=λσ H Q=>t σ H λxs H1=>xs.length<=sizeLine/\∀p,H1 p=aB->Q (.ref p) (Z5 H1 p (.lst xs))
theorem Zcp{x1} (h:PA X es t):PE X (.Tuple es x1 pos) (Zco t):=by intro pins s σ H Q I hq;refine wpAny_Tuple_spliced (Wo (h pos pins s σ H _ I hq) λus s1 ⟨xs,H1,I1,r,z,q⟩=>⟨by rw[<-r.length];exact z,?_⟩);have hf:H1 s1.heap.objs.size=aB:=I1.hok.fresh (a8 _);refine⟨.ref s1.heap.objs.size,Z5 H1 s1.heap.objs.size (.tup xs),I1.laid (t':=s1.toks) (λb u e=>aq _ e) (a8 _) ?_,rfl,q _ hf⟩;exact⟨z,us,r,⟨_,a9 _ rfl,rfl,_,rfl⟩⟩
theorem S7(h:PA X es t):PE X (.List es pos) (Zl8 t):=by intro pins s σ H Q I hq;refine wpAny_List_spliced (Wo (h pos pins s σ H _ I hq) λus s1 ⟨xs,H1,I1,r,z,q⟩=>⟨by rw[<-r.length];exact z,?_⟩);have hf:H1 s1.heap.objs.size=aB:=I1.hok.fresh (a8 _);refine⟨.ref s1.heap.objs.size,Z5 H1 s1.heap.objs.size (.lst xs),I1.laid (t':=s1.toks) (λb u e=>aq _ e) (a8 _) ?_,rfl,q _ hf⟩;exact⟨z,us,0,r,a9 _ rfl⟩
end
abbrev Sp:=List V->Hp->VK->XK->Prop
abbrev CXT:=List Env->Hp->am->XK->aj->am->Prop
structure Env0(P:bu)(w:ck)(K:af)(mg:Str->Option aj)(base:dq)(A:cj)(outer:List Env)(s:am)(H:Hp):Prop where
 frames:A.frames=aA outer
 mod:Mod K mg base
 bs:∀b o,base.get? b=aA o->s.heap.get? b=aA o/\H b=aB
 bsz:base.objs.size<=s.heap.objs.size
 funs:s.heap.FunFrames base outer
 frf:∀b∈frs outer,H b=aB
 hok:Cq P w H s.heap
 bare:AllBare s.gens
def CE(outer:List Env)(P:bu)(w:ck)(H:Hp)(s:am)(Q:VK)(u:aj)(s':am):Prop:=
 ∃v H',s'.os=s.os/\AllBare s'.gens/\Un (frs outer) [] H H' s.heap s'.heap/\Cq P w H' s'.heap/\Zm v u/\Q v H'
def CR(CX:CXT)(outer:List Env)(P:bu)(w:ck)(H:Hp)(s:am)(Q:VK)(E:XK)(r:Result)(s':am):Prop:=
 match r with
 | .ok (.ret u)=>CE outer P w H s Q u s'
 | .ok _=>False
 | .error e=>CX outer H s E e s'
structure FnOk(P:bu)(w:ck)(K:af)(mg:Str->Option aj)(base:dq)(CX:CXT)(k:Nat)(f:ak)(fd:cx)(ps:List Str)(sp:Sp):Prop where
 len:∀vs H Q E,sp vs H Q E->vs.length=ps.length
 run:∀(A:cj) (outer:List Env) (s:am) (H:Hp) (args:Args) (us:List aj) (vs:List V) (Q:VK) (E:XK),Room k A->Env0 P w K mg base A outer s H->BindsTo s fd args (ps.zip us)->Zw vs us->sp vs H Q E->
  codeAny (bp P w) A (.call (.ref f) args) (CR CX outer P w H s Q E) s
section
variable{X:Cx}{pins:List (ak×Obj)}{σ:St}{H:Hp}{s s':am}
theorem Inv.env0(I:Inv X pins σ H s):Env0 X.prog X.w X.K X.mg X.base X.A X.stack s H:=
 ⟨I.ok.frames,I.ok.mod,I.bs,d3 I.ok.bsz I.sz,I.stack,I.stkFree,I.hok,I.bare⟩
theorem Inv.after{Q:VK}{u:aj}(I:Inv X pins σ H s)(h:CE X.stack X.prog X.w H s Q u s'):EP X pins σ Q u s':=by obtain⟨v,H',os,bare,un,hok,r,q⟩:=h;obtain⟨hh,g,d,t,os'⟩:=s';obtain rfl:os'=s.os:=os;exact⟨v,H',I.call (h':=hh) (g':=g) (d':=d) (t':=t) (ch:=[]) un hok bare (λb z=>absurd z (by simp)),r,q⟩
end
def Nn(sp:Sp)(dvs:List V)(E:XK)(t:TA):TE:=λσ H Q=>t σ H λvs H1=>sp (vs++dvs) H1 Q E
def Zw9(C:ak)(m:Str)(sp:Sp)(dvs:List V)(E:XK)(ta:TE)(t:TA):TE:=λσ H Q=>ta σ H λx H1=>∃a dx fs,x= .ref a/\H1 a=aA (.ins C dx fs)/\fs.lookup m=aB/\
 t σ H1 λvs H2=>sp (x::(vs++dvs)) H2 Q E
def Zxa(C:ak)(sp:Sp)(dvs:List V)(E:XK)(t:TA):TE:=λσ H Q=>t σ H λvs H1=>∀x dx,H1 x=aB->H1 dx=aB->dx≠x->
 sp (.ref x::(vs++dvs)) (Z5 (Z5 H1 dx (.own x)) x (.ins C dx [])) (λv H2=>v= .non/\Q (.ref x) H2) E
def Ww(K:af)(fd:cx)(ps:List Str)(ds:List aj):Prop:=
 ∀(s:am) (us:List aj),K.In s.heap->(us++ds).length=ps.length->BindsTo s fd ⟨us,[]⟩ (ps.zip (us++ds))
theorem Ww.all{K:af}{fd:cx}{ps:List Str}(h:∀us:List aj,us.length=ps.length->bindArgs fd ⟨us,[]⟩=pure (ps.zip us)):Ww K fd ps []:=λs us _ hl=>by rw[List.append_nil]at hl⊢;exact .of_eq (h us hl)
def S8(CX:CXT)(X:Cx)(E:XK):Prop:=∀(pins:List (ak×Obj)) (σ:St) (H:Hp) (s:am) (e:aj) (s':am),Inv X pins σ H s->CX X.stack H s E e s'->X.xe e s'
section
variable{X:Cx}{CX:CXT}{k:Nat}{f C:ak}{fd:cx}{ps:List Str}{sp:Sp}{dvs:List V}{ds:List aj}{E:XK}{x m:Str}{p pos apos:Pos}{e o:ci}{es:List ci}{ta:TE}{t:TA}
theorem Zl9{pins:List (ak×Obj)}{σ:St}{H:Hp}{s:am}{Q:VK}{us:List aj}{vs:List V}(F:FnOk X.prog X.w X.K X.mg X.base CX k f fd ps sp)(hr:Room k X.A)(hb:Ww X.K fd ps ds)(hd:Zw dvs ds)(hx:S8 CX X E)
  (I:Inv X pins σ H s) (r:Zw vs us) (h:sp (vs++dvs) H Q E):ba (bp X.prog X.w) X.A (call (.ref f) us) (EP X pins σ Q) X.xe s:=by
 have r2:Zw (vs++dvs) (us++ds):=r.append hd;have hl:(us++ds).length=ps.length:=by rw[<-r2.length];exact F.len _ _ _ _ h
 refine wpAny_call (codeAny_mono (F.run X.A X.stack s H ⟨us,[]⟩ (us++ds) (vs++dvs) Q E hr I.env0 (hb s us I.kIn hl) r2 h) λr s' hq=>?_);cases r with
 |error e=>exact hx pins σ H s e s' I hq
 |ok fl=>
  cases fl with
  |ret u=>exact I.after hq
  |next=>exact False.elim hq
  |brk=>exact False.elim hq
  |cont=>exact False.elim hq
theorem He(F:FnOk X.prog X.w X.K X.mg X.base CX k f fd ps sp)(hr:Room k X.A)(hg:Gl X x)(hm:X.mg x=aA (.ref f))(hk:bq X.K (.ref f)=aC)(hb:Ww X.K fd ps ds)(hd:Zw dvs ds)(hx:S8 CX X E)
  (ha:PA X (e::es) t) (hdb:(x==("__debug__":Str))=aD:=by decide) (he:ay (e::es) X.env=(aD,f8 e X.env)::ay es X.env:=by rfl) (hpl:(f6 pos (ay es X.env)).any (·.1)=aD:=by rfl):
  PE X (.Call (.Name x p) (e::es) [] pos) (Nn sp dvs E t):=by
 intro pins s σ H Q I h;refine wpAny_Call_Name_kw (Zhb I hg hm ?_ hdb);refine PySem.W.callWith_K (h₀:=X.base) I.ok.mod.kin hk (Wo (ha pos pins s σ H _ I h) λus s1 ⟨vs,H1,I1,r,q⟩=>⟨I1.kIn,?_⟩) he hpl;exact Zl9 F hr hb hd hx I1 r q
structure Mk(K:af)(C f:ak):Prop where
 makes:PySem.W.makesIn K C=aC
 init:PySem.W.findIn K (.ref C) "__init__"=aA (aA (.ref f))
 fn:PySem.W.isFn K (.ref f)=aC
 kp:bq K (.ref C)=aC
end
def PK(X:Cx)(kws:List Keyword)(t:TA):Prop:=
 ∀(pos:Pos) (pins:List (ak×Obj)) (s:am) (σ:St) (H:Hp) (Q:List V->Hp->Prop),Inv X pins σ H s->t σ H Q->ba (bp X.prog X.w) X.A (evalAll ((backToKw pos (keywordEach kws X.env)).map (·.2))) (AP X pins σ Q) X.xe s
section
variable{X:Cx}{CX:CXT}{k:Nat}{f C:ak}{fd:cx}{ps ks:List Str}{sp:Sp}{E:XK}{x m:Str}{p pos apos kpos:Pos}{e o:ci}{es:List ci}{kws:List Keyword}{te ta:TE}{t tk:TA}{nm:Option Str}
structure KBinds(K:af)(fd:cx)(ps ks:List Str)(g:List aj->List aj->List aj)(gV:List V->List V->List V):Prop where
 to:∀(s:am) (us ws:List aj),K.In s.heap->(g us ws).length=ps.length->BindsTo s fd ⟨us,ks.zip ws⟩ (ps.zip (g us ws))
 rel:∀{vs:List V} {us:List aj} {zs:List V} {ws:List aj},Zw vs us->Zw zs ws->Zw (gV vs zs) (g us ws)
def Zuf(sp:Sp)(gV:List V->List V->List V)(E:XK)(t tk:TA):TE:=λσ H Q=>t σ H λvs H1=>tk σ H1 λzs H2=>sp (gV vs zs) H2 Q E
variable{g:List aj->List aj->List aj}{gV:List V->List V->List V}
end
structure FnScope(N P:List Str)(sc:Scope):Prop where
 kind:sc.kind= .function
 co:sc.isCoroutine=aD
 gen:sc.isGenerator=aD
 nd:N.Nodup
 pre:N.take P.length=P
 par:∀x∈P,sc.names.lookup x=aA .local\/sc.names.lookup x=aA .cell
 nofree:∀y∈sc.names,y.2≠.free
theorem Ib{kindOf:Str->Option NameKind}{x:Str}:∀{binds:List (Str×aj)} {m:Str->Option aj},(∀v,(x,v)∉binds)->bindL kindOf binds m x=m x
  | [],_,_=>rfl
  | (n,v)::r,m,h=>by
    unfold bindL;rw[Ib λw hw=>h w (ar _ hw)];split
    · have:x≠n:=by rintro rfl;exact h v ah
      simp[this]
    · rfl
theorem Ic{kindOf:Str->Option NameKind}{x:Str}:∀{binds:List (Str×aj)} {m:Str->Option aj},(∀v,(x,v)∉binds)->bindC kindOf binds m x=m x
  | [],_,_=>rfl
  | (n,v)::r,m,h=>by
    unfold bindC;rw[Ic λw hw=>h w (ar _ hw)];split
    · rfl
    · have:x≠n:=by rintro rfl;exact h v ah
      simp[this]
theorem Ie{kindOf:Str->Option NameKind}{x:Str}{v:aj}:∀{P:List Str} {vs:List aj} {i:Nat} {m:Str->Option aj},P.Nodup->P[i]? =aA x->vs[i]? =aA v->kindOf x=aA .local->
  bindL kindOf (P.zip vs) m x=aA v
 | [],_,_,_,_,h,_,_=>by simp at h
 |_::_,[],_,_,_,_,h,_=>by simp at h
 |p::P,w::vs,0,m,nd,h1,h2,hk=>by simp at h1 h2;subst h1;subst h2;show bindL kindOf ((p,w)::P.zip vs) m p=_;unfold bindL;rw[Ib λv hv=>(fq.mp nd).1 (List.of_mem_zip hv).1,if_pos hk];simp
 |p::P,w::vs,i+1,m,nd,h1,h2,hk=>by show bindL kindOf ((p,w)::P.zip vs) m x=_;unfold bindL;exact Ie (i:=i) (fq.mp nd).2 (by simpa using h1) (by simpa using h2) hk
theorem Ig{kindOf:Str->Option NameKind}{x:Str}{v:aj}:∀{P:List Str} {vs:List aj} {i:Nat} {m:Str->Option aj},P.Nodup->P[i]? =aA x->vs[i]? =aA v->kindOf x≠aA .local->
  bindC kindOf (P.zip vs) m x=aA v
 | [],_,_,_,_,h,_,_=>by simp at h
 |_::_,[],_,_,_,_,h,_=>by simp at h
 |p::P,w::vs,0,m,nd,h1,h2,hk=>by simp at h1 h2;subst h1;subst h2;show bindC kindOf ((p,w)::P.zip vs) m p=_;unfold bindC;rw[Ic λv hv=>(fq.mp nd).1 (List.of_mem_zip hv).1,if_neg hk];simp
 |p::P,w::vs,i+1,m,nd,h1,h2,hk=>by show bindC kindOf ((p,w)::P.zip vs) m x=_;unfold bindC;exact Ig (i:=i) (fq.mp nd).2 (by simpa using h1) (by simpa using h2) hk
def Ba(N:List Str)(vs:List V):St:=vs.map aA++List.replicate (N.length- vs.length) aB
def S9(CX:CXT)(P:bu)(w:ck)(K:af)(mg:Str->Option aj)(base:dq)(N:List Str)(qual:Str)(scope:Scope)(f:ak)(cd:aj)(A:cj)(outer:List Env)(s:am)(H:Hp)(E:XK):Cx where
 prog:=P
 w:=w
 K:=K
 mg:=mg
 base:=base
 A:=A.deeper (envOfC qual scope s.heap.objs.size f cd)
 N:=N
 s₀:=s
 H₀:=H
 env:=envOfC qual scope s.heap.objs.size f cd
 outer:=outer
 stack:=envOfC qual scope s.heap.objs.size f cd::outer
 ex:=[]
 calm:=aC
 fn:=λ_=>aC
 pn:=[]
 xe:=λe s'=>ba (bp P w) (A.deeper (envOfC qual scope s.heap.objs.size f cd)) (leaving (envOfC qual scope s.heap.objs.size f cd) e) (λ_ s''=>CX outer H s E e s'') (λe' s''=>CX outer H s E e' s'') s'
theorem Np{sc:Scope}{n:Nat}{x:Str}(h:sc.names.lookup x=aA .cell):∃c,(cellsFrom n sc.names []).lookup x=aA c:=by have q:=PySem.W.cellsFrom_some sc.names n [] (.inl h);exact Option.isSome_iff_exists.mp q
theorem Zay{CX:CXT}{P:bu}{w:ck}{K:af}{mg:Str->Option aj}{base:dq}{N ps:List Str}{qual:Str}{scope:Scope}{f:ak}{cd:aj}{A:cj}{outer:List Env}{s s1:am}{H:Hp}{E:XK}{us:List aj}{vs:List V}
  (S:FnScope N ps scope) (hd:A.handled=aB) (e0:Env0 P w K mg base A outer s H) (hl:vs.length=ps.length) (r:Zw vs us)
  (x:InCallC s s.heap.objs.size (bindL (envOfC qual scope s.heap.objs.size f cd).kindOf (ps.zip us) λ_=>aB) (cellsFrom (s.heap.objs.size+1) scope.names []) (bindC (envOfC qual scope s.heap.objs.size f cd).kindOf (ps.zip us) λ_=>aB) s1):
  Inv (S9 CX P w K mg base N qual scope f cd A outer s H E) [] (Ba N vs) H s1:=by
 have hpl:ps.length<=N.length:=by have:=congrArg List.length S.pre;rw[gm]at this;omega
 obtain⟨h1,tk,rfl,hk⟩:=x.done;have noA:∀b:ak,b∉(S9 CX P w K mg base N qual scope f cd A outer s H E).ex:=λb z=>absurd (show b∈([]:List ak)from z) (by simp);refine⟨⟨e0.mod,S.kind,rfl,rfl,a8 _,λy z c h1 h2=>?_,λy hy=>?_,λy c _ h=>?_,λ_=>hd,Around.frames_deeper e0.frames,.inr ⟨rfl,rfl⟩,λb z=>absurd z (noA b),e0.bs,e0.bsz,λb _ _=>noA b,λb z=>absurd z (noA b),e0.funs,e0.frf⟩,
  rfl,e0.bare,Un.kept hk,⟨_,x.toInCall.ns,λi y v h1 h2 h3=>?_⟩,λy c h=>⟨_,x.cell y c h⟩,e0.hok.fresh (a8 _),λy c h=>?_,λp hp=>absurd (show p∈([]:List (ak×Obj))from hp) (by simp),e0.hok.kept hk,?_⟩
 ·exact name_of_addr x.apart (PySem.mem_of_lookup h1) (PySem.mem_of_lookup h2)
 ·have hy:scope.names.lookup y=aA .cell\/scope.names.lookup y=aA .free:=hy;rcases hy with hy|hy
  ·exact Np hy
  ·exact absurd rfl (S.nofree _ (PySem.mem_of_lookup hy))
 ·exact Nat.le_of_lt (x.above y c (PySem.mem_of_lookup h))
 ·have hi:i<vs.length:=by
   unfold Ba at h2;by_cases hi:i<vs.length
   ·exact hi
   ·rw[List.getElem?_append_right (by simpa using hi)]at h2;rw[List.getElem?_replicate]at h2;split at h2<;> cases h2
  have ha:vs[i]? =aA v:=by
   unfold Ba at h2;rw[List.getElem?_append_left (by simpa using hi),bf]at h2;cases e:vs[i]? with
   |none=>rw[e]at h2;cases h2
   |some a=>rw[e]at h2;cases h2;rfl
  obtain⟨u,hu,rv⟩:=r.get ha;have hp:ps[i]? =aA y:=by rw[<-S.pre,List.getElem?_take_of_lt (by omega)];exact h1
  have ndP:ps.Nodup:=by rw[<-S.pre];exact S.nd.sublist (List.take_sublist _ _)
  refine⟨u,rv,?_⟩;rcases S.par y (cz hp)with k|k
  ·exact .inl ⟨k,Ie ndP hp hu k⟩
  ·obtain⟨c,e⟩:=Np (n:=s.heap.objs.size+1) k;refine .inr ⟨.inl k,c,e,?_⟩;have q:=x.cell y c e;rw[Ig ndP hp hu (by show scope.names.lookup y≠_;rw[k];decide)]at q;exact q
 ·exact e0.hok.fresh (Nat.le_of_lt (x.above y c (PySem.mem_of_lookup h)))
 ·unfold Ba;show _=N.length;rw[bj,ao,List.length_replicate];omega
theorem Zpi{CX:CXT}{P:bu}{w:ck}{K:af}{mg:Str->Option aj}{base:dq}{k:Nat}{f:ak}{name qual:Str}{params:Arguments}{body:List Stmt}{scope:Scope}{dV kV doc pm cdv ct oc:aj}{an od:Option ak}
  {osl:Array (Option aj)} {N ps:List Str} {sp:Sp} (lk:K.lookup f=aA ⟨oc,od,.func (PySem.W.fnOf name qual params body scope dV kV doc pm an cdv ct),osl⟩) (hcd:PySem.W.codeIn K cdv qual=aC) (S:FnScope N ps scope)
  (len:∀vs H Q E,sp vs H Q E->vs.length=ps.length)
  (hbody:∀(A:cj) (outer:List Env) (s:am) (H:Hp) (vs:List V) (Q:VK) (E:XK),Room k (A.deeper (envOfC qual scope s.heap.objs.size f cdv))->sp vs H Q E->
   ∃t,Gs (S9 CX P w K mg base N qual scope f cdv A outer s H E) body t/\t {nx:=λ_ H'=>Q .non H',rt:=Q} (Ba N vs) H):
  FnOk P w K mg base CX (k+1) f (PySem.W.fnOf name qual params body scope dV kV doc pm an cdv ct) ps sp:=by
 refine⟨len,λA outer s H args us vs Q E hr e0 hb r hsp=>?_⟩;have hl:=len _ _ _ _ hsp;have KX:K.In s.heap:=e0.mod.kin.keeps λb o e=>(e0.bs b o e).1;have lim:s.heap.NoLimit:=e0.mod.nolimit.keeps λb o e=>(e0.bs b o e).1;have hkind:∀y∈ps.zip us,scope.names.lookup y.1=aA .local\/(scope.names.lookup y.1=aA .cell/\((cellsFrom (s.heap.objs.size+1) scope.names []).lookup y.1).isSome=aC):=λ⟨n,v⟩ hy=>by
  rcases S.par n (List.of_mem_zip hy).1 with q|q
  ·exact .inl q
  ·exact .inr ⟨q,PySem.W.cellsFrom_some _ _ _ (.inl q)⟩
 refine codeAny_call_function hr.depth (KX _ _ lk) rfl S.co S.gen rfl (PySem.W.codeRec_of KX hcd) (hb _ _ _ _ ?_);refine wpAny_newFunctionEnv_cells S.kind hkind λenv he s1 x=>?_;subst he;refine⟨lim.keeps x.toInCall.keep,codeAny_func ?_⟩;obtain⟨t,ht,hq⟩:=hbody A outer s H vs Q E (hr.deeper _) hsp;have I:Inv (S9 CX P w K mg base N qual scope f cdv A outer s H E) [] (Ba N vs) H s1:=Zay S hr.hd e0 hl r x;refine wpAny_mono (ht [] s1 (Ba N vs) H _ I hq) (λfl s' hs=>?_) λe s' hs=>hs;have fin:∀{σ':St} {H':Hp} {v:V} {u:aj},Inv (S9 CX P w K mg base N qual scope f cdv A outer s H E) [] σ' H' s'->Zm v u->Q v H'->CE outer P w H s Q u s':=
  fun{σ' H' v u} J rv q=>⟨v,H',J.os,J.bare,J.base,J.hok,rv,q⟩
 cases fl with
 |ret u=>obtain⟨v,σ',H',J,rv,q⟩:=hs;exact fin J rv q
 |next=>obtain⟨σ',H',J,q⟩:=hs;exact fin (v:=V.non) (u:=cf) J rfl q
 |brk=>obtain⟨_,_,_,q⟩:=hs;exact False.elim q
 |cont=>obtain⟨_,_,_,q⟩:=hs;exact False.elim q
section
variable{X:Cx}{x:Str}{p pos:Pos}{e:ci}{es:List ci}{t:TA}{id T:String}{r:List V->Hp->VK->Prop}
def tCB(r:List V->Hp->VK->Prop)(t:TA):TE:=λσ H Q=>t σ H λvs H1=>r vs H1 Q
theorem Nq(hc:Qd X (.builtin id) r)(hg:Gl X x)(hm:X.mg x=aB)(hv:bootBuiltins x=aA (.builtin id))(ha:PA X (e::es) t)(hn:x≠"__name__":=by decide)(hdb:(x==("__debug__":Str))=aD:=by decide)
  (he:ay (e::es) X.env=(aD,f8 e X.env)::ay es X.env:=by rfl) (hpl:(f6 pos (ay es X.env)).any (·.1)=aD:=by rfl):PE X (.Call (.Name x p) (e::es) [] pos) (tCB r t):=by
 intro pins s σ H Q I h;refine wpAny_Call_Name_kw (Bo I hg hm hv ?_ hn hdb);exact PyProof.Rows.callWith_builtin1 (Wo (ha pos pins s σ H _ I h) λus s1 ⟨vs,H1,I1,r1,q1⟩=>hc pins s1 σ H1 vs us Q I1 r1 q1) he hpl
theorem Zaz(hc:Qd X (.type T) r)(hg:Gl X x)(hm:X.mg x=aB)(hv:bootBuiltins x=aA (.type T))(ha:PA X (e::es) t)(hn:x≠"__name__":=by decide)(hdb:(x==("__debug__":Str))=aD:=by decide)
  (he:ay (e::es) X.env=(aD,f8 e X.env)::ay es X.env:=by rfl) (hpl:(f6 pos (ay es X.env)).any (·.1)=aD:=by rfl):PE X (.Call (.Name x p) (e::es) [] pos) (tCB r t):=by
 intro pins s σ H Q I h;refine wpAny_Call_Name_kw (Bo I hg hm hv ?_ hn hdb);exact PyProof.Rows.callWith_type1 (Wo (ha pos pins s σ H _ I h) λus s1 ⟨vs,H1,I1,r1,q1⟩=>hc pins s1 σ H1 vs us Q I1 r1 q1) he hpl
end
end L2
namespace HT
open PySem PyProof.Rows
def lexLt:List Int->List Int->Bool
 | [],[]=>aD
 | [],_::_=>aC
 |_::_,[]=>aD
 |x::xs,y::ys=>if x=y then lexLt xs ys else decide (x<y)
theorem Zma(x y:Int)(xs ys:List Int):lexLt (x::xs) (y::ys)=if x=y then lexLt xs ys else decide (x<y):=rfl
theorem Zg4:lexLt [] []=aD:=rfl
theorem Zcq(y:Int)(ys:List Int):lexLt [] (y::ys)=aC:=rfl
theorem Zcr(x:Int)(xs:List Int):lexLt (x::xs) []=aD:=rfl
section
variable{prog:bu}{w:ck}{A:cj}{E:aj->am->Prop}{s:am}
def sIx(n d:Nat):Option Int->Nat
 |none=>d
 |some v=>if v<0 then(v+(n:Int)).toNat else min v.toNat n
theorem Zpj(n d:Nat):sIx n d aB=d:=rfl
theorem sIx_nat(n d k:Nat):sIx n d (aA (k:Int))=min k n:=by show(if(k:Int)<0 then((k:Int)+(n:Int)).toNat else min (k:Int).toNat n)=min k n;rw[if_neg (by omega),Int.toNat_natCast]
end
end HT
namespace L2
open PySem PySem.Spec PyProof.Rows
abbrev TO:=St->Hp->(Option Int->Hp->Prop)->Prop
def PO(X:Cx)(e:Option ci)(t:TO):Prop:=
 ∀(pins:List (ak×Obj)) (s:am) (σ:St) (H:Hp) (Q:Option Int->Hp->Prop),Inv X pins σ H s->t σ H Q->
  ba (bp X.prog X.w) X.A (evalPart e X.env) (λu s'=>∃o H',Inv X pins σ H' s'/\IsPart u o/\Q o H') X.xe s
def Hf:TO:=λ_ H Q=>Q aB H
def Zj8(t:TE):TO:=λσ H Q=>t σ H λx H1=>∃i,x= .int i/\Q (aA i) H1
section
variable{X:Cx}{e:ci}{te:TE}{lo hi:Option ci}{tl th:TO}{pos p2:Pos}
theorem Zhj:PO X aB Hf:=by intro pins s σ H Q I h;rw[evalPart_none];exact ag ⟨aB,H,I,.none,h⟩
theorem Zhk(h:PE X e te):PO X (aA e) (Zj8 te):=by intro pins s σ H Q I hw;rw[evalPart_some];refine Wo (h pins s σ H _ I hw) λu s1 zq9=>?_;obtain⟨x,H1,I1,r1,q1⟩:=zq9;obtain⟨i,rfl,q⟩:=q1;obtain⟨t,rfl⟩:=r1;exact⟨aA i,H1,I1,.int i t,q⟩
def SlR(X:Cx)(r:V->Option Int->Option Int->Hp->VK->Prop):Prop:=
 ∀(pins:List (ak×Obj)) (s:am) (σ:St) (H:Hp) (x:V) (v vl vu:aj) (lo hi:Option Int) (sl:ak) (Q:VK),Inv X pins σ H s->Zm x v->s.heap.IsSliceOf sl vl vu .none->IsPart vl lo->IsPart vu hi->r x lo hi H Q->
  ∃T id,typeLookup (.type T) "__getitem__"=pure (aA (.builtin id))/\s.TypeIs v T/\ba (bp X.prog X.w) X.A (getItem v (.ref sl)) (EP X pins σ Q) X.xe s
theorem SlR.or{r r':V->Option Int->Option Int->Hp->VK->Prop}(h:SlR X r)(h':SlR X r'):SlR X (λx lo hi H Q=>r x lo hi H Q\/r' x lo hi H Q):=by
 intro pins s σ H x v vl vu lo hi sl Q I rx hs pl pu q;rcases q with q|q
 ·exact h pins s σ H x v vl vu lo hi sl Q I rx hs pl pu q
 ·exact h' pins s σ H x v vl vu lo hi sl Q I rx hs pl pu q
def tSl(r:V->Option Int->Option Int->Hp->VK->Prop)(te:TE)(tl th:TO):TE:=λσ H Q=>te σ H λx H1=>tl σ H1 λl H2=>th σ H2 λu H3=>r x l u H3 Q
theorem Zcs{r:V->Option Int->Option Int->Hp->VK->Prop}(hr:SlR X r)(he:PE X e te)(hl:PO X lo tl)(hu:PO X hi th):PE X (.Subscript e (.Slice lo hi aB p2) pos) (tSl r te tl th):=by intro pins s σ H Q I h;refine Subscript_ (Wo (he pins s σ H _ I h) λv s1 zq9=>?_);obtain⟨x,H1,I1,r1,q1⟩:=zq9;refine wpAny_Slice (Wo (hl pins s1 σ H1 _ I1 q1) λvl s2 ⟨l,H2,I2,pl,q2⟩=>Wo (hu pins s2 σ H2 _ I2 q2) λvu s3 zq9=>?_);obtain⟨u,H3,I3,pu,q3⟩:=zq9;rw[evalPart_none];refine ag ?_;have I4:Inv X pins σ H3 {s3 with heap:=s3.heap.push {cls:=.type "slice",data:=.fields #[vl,vu,.none]}}:=I3.kept (t':=s3.toks) λb ob q=>aq _ q;obtain⟨T,id,hT,ht,hg⟩:=hr pins {s3 with heap:=s3.heap.push {cls:=.type "slice",data:=.fields #[vl,vu,.none]}} σ H3 x v vl vu l u s3.heap.objs.size Q I4 r1 (Heap.IsSliceOf.new ..) pl pu q3;show ba (bp X.prog X.w) X.A (subscriptTail e (.Slice lo hi aB p2) v (.ref s3.heap.objs.size)) (EP X pins σ Q) X.xe {s3 with heap:=s3.heap.push {cls:=.type "slice",data:=.fields #[vl,vu,.none]}};exact tail_any (ops:=[.ref s3.heap.objs.size,v]) ht hT hg (by with_unfolding_all rfl)
def Va(xs:List V)(lo hi:Option Int):List V:=(xs.drop (HT.sIx xs.length 0 lo)).take (HT.sIx xs.length xs.length hi- HT.sIx xs.length 0 lo)
theorem Nr(xs:List V)(lo hi:Option Int):(Va xs lo hi).length<=xs.length:=by unfold Va;rw[gm,List.length_drop];omega
def Zzs(K:af):V->Option Int->Option Int->Hp->VK->Prop:=λx lo hi H Q=>∃a xs,x= .ref a/\Uk K H a xs/\
 ¬(HT.sIx xs.length 0 lo=0/\HT.sIx xs.length xs.length hi=xs.length)/\∀p,H p=aB->Q (.ref p) (Z5 H p (.tup (Va xs lo hi)))
def Zzt(K:af):R2:=λx y H Q=>∃a b ns ms,x= .ref a/\y= .ref b/\Uk K H a (ns.map V.int)/\Uk K H b (ms.map V.int)/\Q (.bl (HT.lexLt ns ms)) H
def Zxc(K:af):R2:=λx y H Q=>∃a b xs ys,x= .ref a/\y= .ref b/\Uk K H a xs/\Uk K H b ys/\xs≠[]/\xs.length+ys.length<=sizeLine/\
 (ys=[]->Q (.ref a) H)/\(ys≠[]->∀p,H p=aB->Q (.ref p) (Z5 H p (.tup (xs++ys))))
end
def ixN(n:Nat)(i:Int):Option Nat:=if 0<=i then(if i<n then aA i.toNat else aB)else if-(n:Int)<=i then aA (i+n).toNat else aB
def atI{α:Type}(xs:List α)(i:Int):Option α:=(ixN xs.length i).bind λj=>xs[j]?
theorem Zhl{n:Nat}{i:Int}{j:Nat}(h:ixN n i=aA j):seqIndex? i n=aA j/\j<n/\-(n:Int)<=i/\i<n:=by
 unfold ixN at h;by_cases h0:0<=i
 ·rw[if_pos h0]at h;by_cases h1:i<n
  ·rw[if_pos h1]at h;have e:i.toNat=j:=dm.inj h;exact⟨by rw[seqIndex_of h0 h1,e],by omega,by omega,h1⟩
  ·rw[if_neg h1]at h;cases h
 ·rw[if_neg h0]at h;by_cases h1:-(n:Int)<=i
  ·rw[if_pos h1]at h;have e:(i+n).toNat=j:=dm.inj h;exact⟨by rw[seqIndex_neg (by omega) h1,e],by omega,h1,by omega⟩
  ·rw[if_neg h1]at h;cases h
theorem Kj{α:Type}{xs:List α}{i:Int}{v:α}(h:atI xs i=aA v):∃j,seqIndex? i xs.length=aA j/\xs[j]? =aA v/\j<xs.length/\-(xs.length:Int)<=i/\i<xs.length:=by
 unfold atI at h;cases e:ixN xs.length i with
 |none=>rw[e]at h;cases h
 |some j=>rw[e]at h;obtain⟨h1,h2,h3,h4⟩:=Zhl e;exact⟨j,h1,h,h2,h3,h4⟩
def Kk(b:ci):Prop:=∀o i,subscripted b aD o i=operate [o,i] (getItem o i)
def IxR(X:Cx)(r:R2):Prop:=
 ∀(value slice:ci) (pins:List (ak×Obj)) (s:am) (σ:St) (H:Hp) (x y:V) (v u:aj) (Q:VK),Inv X pins σ H s->Zm x v->Zm y u->r x y H Q->
  subscripted slice aD v u=operate [v,u] (getItem v u)->ba (bp X.prog X.w) X.A (subscriptTail value slice v u) (EP X pins σ Q) X.xe s
def MtR(X:Cx)(id:String)(r:V->List V->Hp->VK->Prop):Prop:=
 ∀(pins:List (ak×Obj)) (s:am) (σ:St) (H:Hp) (x:V) (xs:List V) (v:aj) (us:List aj) (Q:VK),Inv X pins σ H s->Zm x v->Zw xs us->r x xs H Q->
  ba (bp X.prog X.w) X.A (call (.builtin id) (v::us)) (EP X pins σ Q) X.xe s
section
variable{X:Cx}{a b:ci}{ta tb:TE}{pos:Pos}
theorem IxR.or{r r':R2}(h:IxR X r)(h':IxR X r'):IxR X (λx y H Q=>r x y H Q\/r' x y H Q):=by
 intro value slice pins s σ H x y v u Q I rx ry q hs;rcases q with q|q
 ·exact h value slice pins s σ H x y v u Q I rx ry q hs
 ·exact h' value slice pins s σ H x y v u Q I rx ry q hs
theorem Hg{r:R2}(hr:IxR X r)(ha:PE X a ta)(hb:PE X b tb)(hs:Kk b):PE X (.Subscript a b pos) (tOp r ta tb):=by intro pins s σ H Q I h;exact Subscript_ (Zl4 ha hb I h λv u s2 x y H2 I2 rx ry q=>hr a b pins s2 σ H2 x y v u Q I2 rx ry q (hs _ _))
def Zmc(K:af):R2:=λx y H Q=>∃p xs i v,x= .ref p/\y= .int i/\Wp K H p xs/\atI xs i=aA v/\Q v H
def Zpk(K:af):R2:=λx y H Q=>∃p xs i v,x= .ref p/\y= .int i/\Uk K H p xs/\atI xs i=aA v/\Q v H
def Zpl:R2:=λx y H Q=>∃z i c,x= .str z/\y= .int i/\z.length<=sizeLine/\atI z.cps.toList i=aA c/\Q (.str ⟨#[c]⟩) H
theorem Zhn:IxR X (Zmc X.K):=by
 intro value slice pins s σ H x y v u Q I rx ry h hs;obtain⟨p,xs,i,z,rfl,rfl,hq,he,q⟩:=h;cases rx;obtain⟨t,rfl⟩:=ry;obtain⟨its,r,pl,hz⟩:=I.list hq;obtain⟨j,h1,h2,h3,h4,h5⟩:=Kj he;obtain⟨w,ew,rw'⟩:=r.get h2;have hl:=r.length;have hn:=To;have fin:EP X pins σ Q w s:=⟨z,H,I,rw',q⟩
 by_cases h0:0<=i
 ·have hj:i.toNat=j:=by rw[seqIndex_of h0 h5]at h1;exact dm.inj h1
  exact item_listR pl.isList h0 (by omega) (by rw[hj];simpa using ew) fin hs
 ·have hj:(i+(its.toArray.size:Int)).toNat=j:=by rw[seqIndex_neg (by omega) h4]at h1;rw[bi,<-hl];exact dm.inj h1
  exact subscriptTail_builtinR (x:=w) pl.isList.typeIs slot_list_getitem.lookup
   (wpAny_getItem_list_neg (Q:=λr s'=>r=w/\EP X pins σ Q r s') pl.isList (by omega) (by rw[bi]<;> omega) (by omega) (by rw[hj];simpa using ew) ⟨rfl,fin⟩) hs
theorem Zmd:IxR X (Zpk X.K):=by
 intro value slice pins s σ H x y v u Q I rx ry h hs;obtain⟨p,xs,i,z,rfl,rfl,hq,he,q⟩:=h;cases rx;obtain⟨t,rfl⟩:=ry;obtain⟨its,r,pl,hz⟩:=I.tuple hq;obtain⟨j,h1,h2,h3,h4,h5⟩:=Kj he;obtain⟨w,ew,rw'⟩:=r.get h2;have hl:=r.length;have hn:=To;have fin:EP X pins σ Q w s:=⟨z,H,I,rw',q⟩
 exact subscriptTail_builtinR (x:=w) pl.typeIs slot_tuple_getitem.lookup
  (getItem_tuple (j:=j) (Q:=λr s'=>r=w/\EP X pins σ Q r s') pl (by omega) (by omega) (by rw[bi,<-hl];exact h1) (by simpa using ew) ⟨rfl,fin⟩) hs
theorem Zme:IxR X Zpl:=by
 intro value slice pins s σ H x y v u Q I rx ry h hs;obtain⟨z,i,c,rfl,rfl,hz,he,q⟩:=h;obtain⟨t,rfl⟩:=rx;obtain⟨t',rfl⟩:=ry;obtain⟨j,h1,h2,h3,h4,h5⟩:=Kj he;have hl:z.cps.toList.length=z.length:=by simp[Str.length]
 rw[hl]at h1 h4 h5;have hn:=To;exact tail_any (typeIs_str s z t) slot_str_getitem.lookup (getItem_str (c:=c) (by
  have e1:decide (i< -(2^63:Int))=aD:=decide_eq_false (by omega);have e2:decide (i>=2^63)=aD:=decide_eq_false (by omega);rw[e1,e2,Bool.or_false]) (by rw[h1];simpa using h2) ⟨.str ⟨#[c]⟩,H,I.tok _,⟨_,rfl⟩,q⟩) hs
def rIx(K:af):R2:=λx y H Q=>Zmc K x y H Q\/Zpk K x y H Q\/Zpl x y H Q
theorem Kl:IxR X (rIx X.K):=Zhn.or (Zmd.or Zme)
def Zxd:V->V->V->Hp->(Hp->Prop)->Prop:=λo i v H Q=>∃p xs k j,o= .ref p/\i= .int k/\H p=aA (.lst xs)/\ixN xs.length k=aA j/\Q (Z5 H p (.lst (xs.set j v)))
theorem Km(lo hi:Option Int)(n:Nat):(sliceBounds lo hi aB n).1=((HT.sIx n 0 lo:Nat):Int)/\(sliceBounds lo hi aB n).2.1=((HT.sIx n n hi:Nat):Int)/\(sliceBounds lo hi aB n).2.2=1:=by
 refine⟨?_,?_,rfl⟩
 ·cases lo with
  |none=>simp[sliceBounds,HT.sIx]
  |some i=>
   simp only[sliceBounds,HT.sIx,Option.getD_none,show(1:Int) > 0 by decide,if_true];by_cases h:i<0
   ·simp only[h,if_true]<;> omega
   ·simp only[h,if_false]<;> omega
 ·cases hi with
  |none=>simp[sliceBounds,HT.sIx]
  |some i=>
   simp only[sliceBounds,HT.sIx,Option.getD_none,show(1:Int) > 0 by decide,if_true];by_cases h:i<0
   ·simp only[h,if_true]<;> omega
   ·simp only[h,if_false]<;> omega
theorem Es(its:List aj)(lo hi:Option Int):slicePick its.toArray lo hi aB=((its.drop (HT.sIx its.length 0 lo)).take (HT.sIx its.length its.length hi- HT.sIx its.length 0 lo)).toArray:=by obtain⟨h1,h2,h3⟩:=Km lo hi its.toArray.size;unfold slicePick;rw[h1,h2,h3];simp only[sliceRange_one,pick_run,bi]<;> rfl
def Zpn(K:af):V->Option Int->Option Int->Hp->VK->Prop:=λx lo hi H Q=>∃a xs,x= .ref a/\Wp K H a xs/\∀p,H p=aB->Q (.ref p) (Z5 H p (.lst (Va xs lo hi)))
theorem Zho:SlR X (Zpn X.K):=by intro pins s σ H x v vl vu lo hi sl Q I rx hs pl pu h;obtain⟨a,xs,rfl,hx,q⟩:=h;cases rx;obtain⟨its,r,ht,hz⟩:=I.list hx;have hlen:=r.length;refine⟨"list",_,slot_list_getitem.lookup,ht.isList.typeIs,?_⟩;refine wpAny_getItem_list_slice ht.isList hs pl pu .none (by simp) ?_ (by rw[bi]<;> omega);rw[Es,<-hlen];refine⟨.ref s.heap.objs.size,_,I.laid (t':=s.toks) (o:=.lst (Va xs lo hi)) (λb ob q=>aq _ q) (a8 _) ?_,rfl,q _ (I.hok.fresh (a8 _))⟩;exact⟨d3 (Nr xs lo hi) hz,_,0,(r.drop (HT.sIx xs.length 0 lo)).take (HT.sIx xs.length xs.length hi- HT.sIx xs.length 0 lo),a9 _ rfl⟩
def Yd:V->Bool
 | .non=>aC
 | .bl _=>aC
 | .int _=>aC
 | .str _=>aC
 |_=>aD
def Nt:V->V->Bool
 | .non,.non=>aC
 | .bl a,.bl b=>a==b
 | .bl a,.int b=>(if a then 1 else 0)==b
 | .int a,.bl b=>a==(if b then 1 else 0)
 | .int a,.int b=>a==b
 | .str a,.str b=>a==b
 |_,_=>aD
theorem Vb{A:cj}{s:am}{y x:V}{u v:aj}(ry:Zm y u)(rx:Zm x v)(fy:Yd y=aC)(fx:Yd x=aC):SeqAt.EqAt A s u v (Nt y x):=by
 cases y with
 |non=>
  cases ry;cases x with
  |non=>cases rx;exact SeqAt.EqAt.same _
  |bl b=>cases rx;exact SeqAt.EqAt.none_bool b
  |int b=>obtain⟨t,rfl⟩:=rx;exact SeqAt.EqAt.none_int b t
  |str b=>obtain⟨t,rfl⟩:=rx;exact SeqAt.EqAt.none_str b t
  |_=>exact absurd (show aD=aC from fx) bh
 |bl a=>
  cases ry;cases x with
  |non=>cases rx;exact SeqAt.EqAt.bool_none a
  |bl b=>cases rx;exact SeqAt.EqAt.bool_bool a b
  |int b=>obtain⟨t,rfl⟩:=rx;exact SeqAt.EqAt.bool_int a b t
  |str b=>obtain⟨t,rfl⟩:=rx;exact SeqAt.EqAt.bool_str a b t
  |_=>exact absurd (show aD=aC from fx) bh
 |int a=>
  obtain⟨t',rfl⟩:=ry;cases x with
  |non=>cases rx;exact SeqAt.EqAt.int_none a t'
  |bl b=>cases rx;exact SeqAt.EqAt.int_bool a t' b
  |int b=>obtain⟨t,rfl⟩:=rx;exact SeqAt.EqAt.int_int a t' b t
  |str b=>obtain⟨t,rfl⟩:=rx;exact SeqAt.EqAt.int_str a t' b t
  |_=>exact absurd (show aD=aC from fx) bh
 |str a=>
  obtain⟨t',rfl⟩:=ry;cases x with
  |non=>cases rx;exact SeqAt.EqAt.str_none a t'
  |bl b=>cases rx;exact SeqAt.EqAt.str_bool a t' b
  |int b=>obtain⟨t,rfl⟩:=rx;exact SeqAt.EqAt.str_int a t' b t
  |str b=>obtain⟨t,rfl⟩:=rx;exact SeqAt.EqAt.str_str a t' b t
  |_=>exact absurd (show aD=aC from fx) bh
 |_=>exact absurd (show aD=aC from fy) bh
def Vc(x:V)(u:aj):Bool:=match u with
 | .none=>Nt .non x
 | .bool b=>Nt (.bl b) x
 | .int i _=>Nt (.int i) x
 | .str z _=>Nt (.str z) x
 |_=>aD
theorem Zct{x y:V}{u:aj}(r:Zm y u)(f:Yd y=aC):Vc x u=Nt y x:=by
 cases y with
 |non=>cases r;rfl
 |bl b=>cases r;rfl
 |int i=>obtain⟨t,rfl⟩:=r;rfl
 |str z=>obtain⟨t,rfl⟩:=r;rfl
 |_=>exact absurd (show aD=aC from f) bh
theorem Gu{x:V}:∀{xs:List V} {us:List aj},Zw xs us->xs.all Yd=aC->us.any (Vc x)=xs.any λy=>Nt y x
 |_,_,.nil,_=>rfl
 |y::xs,u::us,.cons r t,f=>by rw[List.all_cons,Bool.and_eq_true]at f;rw[List.any_cons,List.any_cons,Zct r f.1,Gu t f.2]
theorem Bq{A:cj}{s:am}{x:V}{v:aj}(rx:Zm x v)(fx:Yd x=aC):∀{xs:List V} {us:List aj},Zw xs us->xs.all Yd=aC->∀u∈us,SeqAt.EqAt A s u v (Vc x u)
 |_,_,.nil,_=>λu hu=>by cases hu
 |y::xs,u::us,.cons r t,f=>λu' hu=>by
  rw[List.all_cons,Bool.and_eq_true]at f;rcases bo.mp hu with rfl|hu
  ·rw[Zct r f.1];exact Vb r rx f.1 fx
  ·exact Bq rx fx t f.2 u' hu
def inV(x:V)(xs:List V):Bool:=xs.any λy=>Nt y x
def rIn(K:af)(neg:Bool):R2:=λx y H Q=>∃p xs,y= .ref p/\(Wp K H p xs\/Uk K H p xs)/\Yd x=aC/\xs.all Yd=aC/\Q (.bl (if neg then !inV x xs else inV x xs)) H
theorem Ih:Bh X (gh .In) (rIn X.K aD):=by
 intro pins s σ H x y v u Q I rx ry h;obtain⟨p,xs,rfl,hq,fx,fs,q⟩:=h;cases ry;rcases hq with hq|hq
 ·obtain⟨its,r,pl,hz⟩:=I.list hq;refine SeqAt.in_listAt (Vc x) pl.isList (λw hw=>Bq rx fx r fs w (by simpa using hw)) ⟨.bl _,H,I,rfl,?_⟩;rw[show its.toArray.any (Vc x)=its.any (Vc x) by simp,Gu r fs];exact q
 ·obtain⟨its,r,pl,hz⟩:=I.tuple hq;refine SeqAt.in_tupleAt (Vc x) pl (λw hw=>Bq rx fx r fs w (by simpa using hw)) ⟨.bl _,H,I,rfl,?_⟩;rw[show its.toArray.any (Vc x)=its.any (Vc x) by simp,Gu r fs];exact q
theorem Ko:Bh X (gh .NotIn) (rIn X.K aC):=by
 intro pins s σ H x y v u Q I rx ry h;obtain⟨p,xs,rfl,hq,fx,fs,q⟩:=h;cases ry;rcases hq with hq|hq
 ·obtain⟨its,r,pl,hz⟩:=I.list hq;refine SeqAt.notIn_listAt (Vc x) pl.isList (λw hw=>Bq rx fx r fs w (by simpa using hw)) ⟨.bl _,H,I,rfl,?_⟩;rw[show its.toArray.any (Vc x)=its.any (Vc x) by simp,Gu r fs];exact q
 ·obtain⟨its,r,pl,hz⟩:=I.tuple hq;refine SeqAt.notIn_tupleAt (Vc x) pl (λw hw=>Bq rx fx r fs w (by simpa using hw)) ⟨.bl _,H,I,rfl,?_⟩;rw[show its.toArray.any (Vc x)=its.any (Vc x) by simp,Gu r fs];exact q
theorem Kq:Bh X (gh .NotIn) (λx y H Q=>∃i j,x= .str i/\y= .str j/\Q (.bl (!(!(c8 j i 0 j.length 1).isEmpty))) H):=by intro pins s σ H x y v u Q I rx ry h;obtain⟨i,j,rfl,rfl,q⟩:=h;obtain⟨t,rfl⟩:=rx;obtain⟨t',rfl⟩:=ry;exact notIn_str ⟨.bl _,H,I,rfl,q⟩
theorem Kr:Qd X (.builtin "len") (λxs H Q=>∃p ys,xs=[.ref p]/\(Wp X.K H p ys\/Uk X.K H p ys)/\Q (.int ys.length) H):=by
 intro pins s σ H xs us Q I r h;obtain⟨p,ys,rfl,hq,q⟩:=h;obtain⟨u,rfl,rx⟩:=Jt r;cases rx;have hn:=To;rcases hq with hq|hq
 ·obtain⟨its,r',pl,hz⟩:=I.list hq;have hlen:=r'.length;exact Calls.call_len_list pl.isList (by simp only[bi]<;> omega) ⟨.int ys.length,H,I.tok _,⟨s.toks+1,by rw[bi,hlen]⟩,q⟩
 ·obtain⟨its,r',pl,hz⟩:=I.tuple hq;have hlen:=r'.length;exact len_tuple pl (by simp only[bi]<;> omega) ⟨.int ys.length,H,I.tok _,⟨s.toks+1,by rw[bi,hlen]⟩,q⟩
theorem Ks:Qd X (.builtin "len") (λxs H Q=>∃z,xs=[.str z]/\z.length<=sizeLine/\Q (.int z.length) H):=by intro pins s σ H xs us Q I r h;obtain⟨z,rfl,hz,q⟩:=h;obtain⟨u,rfl,t,rfl⟩:=Jt r;have hn:=To;exact len_str (by omega) ⟨.int z.length,H,I.tok _,⟨_,rfl⟩,q⟩
theorem Qd.or{f:aj}{r r':List V->Hp->VK->Prop}(h:Qd X f r)(h':Qd X f r'):Qd X f (λxs H Q=>r xs H Q\/r' xs H Q):=by
 intro pins s σ H xs us Q I rs q;rcases q with q|q
 ·exact h pins s σ H xs us Q I rs q
 ·exact h' pins s σ H xs us Q I rs q
theorem Et:Qd X (.type "tuple") (λxs H Q=>∃p ys,xs=[.ref p]/\((Wp X.K H p ys/\∀l,H l=aB->Q (.ref l) (Z5 H l (.tup ys)))\/(Uk X.K H p ys/\Q (.ref p) H))):=by
 intro pins s σ H xs us Q I r h;obtain⟨p,ys,rfl,h⟩:=h;obtain⟨u,rfl,rx⟩:=Jt r;cases rx;rcases h with⟨hq,q⟩|⟨hq,q⟩
 ·obtain⟨its,r',pl,hz⟩:=I.list hq;have hlen:=r'.length;refine call_tuple_list pl.isList (λh' kp=>?_) (by simp only[bi]<;> omega);have I1:Inv X pins σ H {s with heap:=h'}:=I.kept (t':=s.toks) kp;have I2:Inv X pins σ (Z5 H h'.objs.size (.tup ys)) {s with heap:=h'.push {cls:=.type "tuple",data:=.seq its.toArray}}:=
   I1.laid (t':=s.toks) (λb o e=>aq _ e) (a8 _) (show Z9 X.prog X.w _ _ _ (.tup ys)from⟨hz,its,r',IsTup.new _ _⟩)
  exact⟨.ref h'.objs.size,_,I2,rfl,q _ (I1.hok.fresh (a8 _))⟩
 ·obtain⟨its,r',pl,hz⟩:=I.tuple hq;exact call_tuple_same pl ⟨.ref p,H,I,rfl,q⟩
def tyV(K:af)(T:String)(x:V)(H:Hp):Prop:=match x with
 | .str _=>T="str"
 | .int _=>T="int"
 | .ref p=>(T="list"/\∃xs,Wp K H p xs)\/(T="tuple"/\∃o,K.lookup p=aA o/\o.cls= .type "tuple"/\o.dict=aB)\/
   (T="dict"/\((∃kvs,HK H p kvs)\/∃kvs,HTt H p kvs))\/(T="set"/\∃S n,H p=aA (.set S n))
 |_=>False
theorem Zcu{pins:List (ak×Obj)}{σ:St}{H:Hp}{s:am}{T:String}{x:V}{v:aj}(I:Inv X pins σ H s)(r:Zm x v)(ty:tyV X.K T x H):
  s.TypeIs v T/\∀a,v= .ref a->∃ob,s.heap.get? a=aA ob/\ob.dict=aB:=by
 cases x with
 |str z=>obtain⟨t,rfl⟩:=r;cases(show T="str"from ty);exact⟨typeIs_str s z t,λ_ e=>nomatch e⟩
 |int i=>obtain⟨t,rfl⟩:=r;cases(show T="int"from ty);exact⟨typeIs_int s i t,λ_ e=>nomatch e⟩
 |ref p=>
  cases r;rcases ty with⟨rfl,xs,hq⟩|⟨rfl,o,hk,hc,hd⟩|⟨rfl,hk⟩|⟨rfl,S,n,hk⟩
  ·obtain⟨its,_,pl,_⟩:=I.list hq;refine⟨pl.isList.typeIs,λa e=>?_⟩;cases e;obtain⟨o,n,e,c,hd,_⟩:=pl;exact⟨o,e,hd⟩
  ·refine⟨⟨o,I.kIn p o hk,hc⟩,λa e=>?_⟩;cases e;exact⟨o,I.kIn _ o hk,hd⟩
  ·have z:∃o,s.heap.get? p=aA o/\o.ExactDict:=by
    rcases hk with⟨kvs,ep,hk⟩|⟨kvs,ep,bs,hk⟩
    ·obtain⟨_,_,_,_,o,_,e,ex,_⟩:=I.hok p _ hk;exact⟨o,e,ex⟩
    ·obtain⟨_,_,_,_,o,_,e,ex,_⟩:=I.hok p _ hk;exact⟨o,e,ex⟩
   obtain⟨o,e,ex⟩:=z;refine⟨⟨o,e,ex.1⟩,λa e2=>?_⟩;cases e2;exact⟨o,e,ex.2.1⟩
  ·obtain⟨o,_,_,_,e,ex,_⟩:=I.hok p _ hk;refine⟨⟨o,e,ex.1⟩,λa e2=>?_⟩;cases e2;exact⟨o,e,ex.2.1⟩
 |_=>exact False.elim ty
def Zcv(K:af)(T:String)(r:V->List V->Hp->VK->Prop)(to:TE):TE:=λσ H Q=>to σ H λx H1=>tyV K T x H1/\r x [] H1 Q
def tBM(K:af)(T:String)(r:V->List V->Hp->VK->Prop)(to:TE)(t:TA):TE:=λσ H Q=>to σ H λx H1=>tyV K T x H1/\t σ H1 λxs H2=>r x xs H2 Q
variable{o e:ci}{es:List ci}{to:TE}{t:TA}{name:Str}{apos cpos:Pos}{T id:String}{r:V->List V->Hp->VK->Prop}
theorem Zcw(pa:PlainAttrs T)(slot:Slot T name id)(hty:typeOf (.builtin id)=pure (.type "method_descriptor"))(hm:MtR X id r)(ho:PE X o to)
  (hbase:attributeBase o name X.env (f8 o X.env)=f8 o X.env:=by rfl) (hline:(apos.endLine==cpos.line)=aC:=by rfl):PE X (.Call (.Attribute o name apos) [] [] cpos) (Zcv X.K T r to):=by
 intro pins s σ H Q I h;refine wpAny_Call_method0_late hbase hline (Wo (ho pins s σ H _ I h) λv s1 zq9=>?_);obtain⟨x,H1,I1,r1,ty,q1⟩:=zq9;obtain⟨h1,h2⟩:=Zcu I1 r1 ty;exact⟨T,id,pa,slot,hty,h1,h2,Calls.callWith_builtin rfl (PySem.evalArgs_none (hm pins s1 σ H1 x [] v [] Q I1 r1 .nil q1))⟩
theorem Ii(pa:PlainAttrs T)(slot:Slot T name id)(hty:typeOf (.builtin id)=pure (.type "method_descriptor"))(hm:MtR X id r)(ho:PE X o to)(ha:PA X (e::es) t)
  (hbase:attributeBase o name X.env (f8 o X.env)=f8 o X.env:=by rfl)
  (hfew:((f6 cpos (ay (e::es) X.env)).all (λx=>!x.1)&&(backToKw cpos (keywordEach [] X.env)).all (λx=>x.1.isSome)
   &&decide ((e::es).length+([]:List Keyword).length+(if([]:List Keyword).isEmpty then 0 else 1)<30))=aC:=by rfl)
  (hline:(apos.endLine==cpos.line)=aC:=by rfl) (hs:ay (e::es) X.env=(aD,f8 e X.env)::ay es X.env:=by rfl) (hplain:(f6 cpos (ay es X.env)).any (·.1)=aD:=by rfl):
  PE X (.Call (.Attribute o name apos) (e::es) [] cpos) (tBM X.K T r to t):=by
 intro pins s σ H Q I h;refine wpAny_Call_method_late hbase hfew hline rfl (Wo (ho pins s σ H _ I h) λv s1 zq9=>?_);obtain⟨x,H1,I1,r1,ty,q1⟩:=zq9;obtain⟨h1,h2⟩:=Zcu I1 r1 ty;refine⟨T,id,pa,slot,hty,h1,h2,?_⟩;have hA:=ha cpos pins s1 σ H1 _ I1 q1;rw[hs]at hA⊢;refine Calls.callWith_builtin (by show(aD|| (f6 cpos (ay es X.env)).any (·.1))=aD;rw[hplain]<;> rfl) (Calls.evalArgs_plain ?_);exact Wo hA λus s2 ⟨vs,H2,I2,r2,q2⟩=>hm pins s2 σ H2 x vs v us Q I2 r1 r2 q2
end
def MtM(X:Cx)(id:String)(r:V->List V->Hp->VK->Prop):Prop:=
 ∀(pins:List (ak×Obj)) (s:am) (σ:St) (H:Hp) (x:V) (xs:List V) (v:aj) (us:List aj) (Q:VK),Inv X pins σ H s->Zm x v->Zw xs us->r x xs H Q->
  ba (bp X.prog X.w) X.A (call (.builtin id) (v::us)) (EP X pins σ Q) X.xe s
theorem Zw.one{x:V}{us:List aj}(h:Zw [x] us):∃u,us=[u]/\Zm x u:=by
 cases h with
 |cons r t=>cases t;exact⟨_,rfl,r⟩
theorem Zw.zero:∀{us:List aj},Zw [] us->us=[]
 |_,.nil=>rfl
theorem Zw.dropLast{xs:List V}{us:List aj}(h:Zw xs us):Zw xs.dropLast us.dropLast:=by
 induction h with
 |nil=>exact .nil
 |cons r t ih=>
  cases t with
  |nil=>exact .nil
  |cons q t'=>exact .cons r ih
theorem Vd{α:Type}(l:List α):l.eraseIdx (l.length- 1)=l.dropLast:=by
 induction l with
 |nil=>rfl
 |cons a r ih=>
  cases r with
  |nil=>rfl
  |cons b r=>
   have e:(a::b::r).length- 1=((b::r).length- 1)+1:=by have h1:(a::b::r).length=r.length+2:=rfl;have h2:(b::r).length=r.length+1:=rfl;omega
   rw[e,List.eraseIdx_cons_succ,ih]
   all_goals rfl
section
variable{X:Cx}{pins:List (ak×Obj)}{σ:St}{H:Hp}{s:am}{l b:ak}{xs ys zs:List V}
theorem Inv.lset{its its':List aj}{n:Nat}{f:Array aj->Array aj}{t':Nat}(I:Inv X pins σ H s)(hH:H l=aA (.lst xs))
  (e:s.heap.get? l=aA {cls:=.type "list",data:=.seq its.toArray n}) (hf:f its.toArray=its'.toArray) (hv:Zw ys its') (hz:ys.length<=sizeLine):
  Inv X pins σ (Z5 H l (.lst ys)) {s with heap:=s.heap.update l (c9 f),toks:=t'}:=by
 have q:=PySem.IsL.update e f;rw[hf]at q;refine I.write (x:=l) (e:=l) (by rw[hH];exact trivial) (.inl rfl) (λb' u hb hu=>(Heap.get?_update_other s.heap (c9 f) (Ne.symm hb)).trans hu) ⟨_,q⟩ ?_;exact⟨hz,its',_,hv,q⟩
theorem Inv.lnew{its:List aj}{t':Nat}(I:Inv X pins σ H s)(hv:Zw ys its)(hz:ys.length<=sizeLine):
  Inv X pins σ (Z5 H s.heap.objs.size (.lst ys)) {s with heap:=s.heap.push {cls:=.type "list",data:=.seq its.toArray},toks:=t'}:=
 I.laid (λ_ _ q=>aq _ q) (a8 _) ⟨hz,its,0,hv,a9 _ rfl⟩
theorem Inv.fresh(I:Inv X pins σ H s):H s.heap.objs.size=aB:=I.hok.fresh (a8 _)
theorem Inv.lstM(I:Inv X pins σ H s)(hH:H l=aA (.lst xs)):xs.length<=sizeLine/\∃(its:List aj) (n:Nat),Zw xs its/\xs.length=its.length/\s.heap.get? l=aA {cls:=.type "list",data:=.seq its.toArray n}:=by obtain⟨z,its,n,r,e⟩:=I.hok l _ hH;exact⟨z,its,n,r,r.length,e⟩
theorem Zcx{n:Nat}(h:n<=sizeLine):Builtin.List.listTooLong n=aD:=by unfold Builtin.List.listTooLong;exact decide_eq_false (by omega)
end
section
variable{X:Cx}
def Qy:V->List V->Hp->VK->Prop:=λx vs H Q=>∃l xs y,x= .ref l/\vs=[y]/\H l=aA (.lst xs)/\xs.length<sizeLine/\Q .non (Z5 H l (.lst (xs++[y])))
theorem Cc:MtM X "list.append" Qy:=by intro pins s σ H x vs v us Q I rx rv h;obtain⟨l,xs,y,rfl,rfl,hH,hz,q⟩:=h;cases rx;obtain⟨u,rfl,ru⟩:=rv.one;obtain⟨z,its,n,r,hl,e⟩:=I.lstM hH;refine call_meets F.slot_list_append ⟨_,e,rfl⟩ F.entry_list_append (F.args_list_append_2 _ _) (PySem.list_append l its.toArray n u (by rw[bi];omega)) ⟨e,?_⟩;refine⟨.non,_,I.lset (its':=its++[u]) hH e (by simp) (r.append (.cons ru .nil)) ?_,rfl,q⟩;rw[bj,List.length_singleton];omega
def Zs6:V->List V->Hp->VK->Prop:=λx vs H Q=>∃l b xs zs,x= .ref l/\vs=[.ref b]/\H l=aA (.lst xs)/\H b=aA (.lst zs)/\xs.length+zs.length<=sizeLine/\Q .non (Z5 H l (.lst (xs++zs)))
def Zpo:V->List V->Hp->VK->Prop:=λx vs H Q=>∃l xs y,x= .ref l/\vs=[]/\H l=aA (.lst xs)/\xs[xs.length- 1]? =aA y/\Q y (Z5 H l (.lst xs.dropLast))
theorem Zmf:MtM X "list.pop" Zpo:=by
 intro pins s σ H x vs v us Q I rx rv h;obtain⟨l,xs,y,rfl,rfl,hH,hy,q⟩:=h;cases rx;have hus:=rv.zero;subst hus;obtain⟨z,its,n,r,hl,e⟩:=I.lstM hH;obtain⟨u,hu,ru⟩:=r.get hy;have hy':its.toArray[its.toArray.size- 1]? =aA u:=by show its.toArray[its.length- 1]? =aA u;rw[<-b5,<-hl];exact hu
 refine call_meets F.slot_list_pop ⟨_,e,rfl⟩ F.entry_list_pop (F.args_list_pop_1 _) (MeetsSeq.list_pop_last l its.toArray n u hy' (by rw[bi];omega)) ⟨e,?_⟩;refine⟨y,_,I.lset (its':=its.dropLast) hH e ?_ r.dropLast ?_,ru,q⟩
 ·show its.toArray.eraseIdxIfInBounds (its.toArray.size- 1)=its.dropLast.toArray;rw[bi,List.eraseIdxIfInBounds_toArray,Vd]
 ·rw[List.length_dropLast];omega
def Zuh:V->List V->Hp->VK->Prop:=λx vs H Q=>∃l xs i k y,x= .ref l/\vs=[.int i]/\H l=aA (.lst xs)/\-(2^63)<=i/\i<2^63/\seqIndex? i xs.length=aA k/\xs[k]? =aA y/\Q y (Z5 H l (.lst (xs.eraseIdx k)))
def Zpp:V->List V->Hp->VK->Prop:=λx vs H Q=>∃l xs,x= .ref l/\vs=[]/\H l=aA (.lst xs)/\Q .non (Z5 H l (.lst xs.reverse))
def Kt:V->List V->Hp->VK->Prop:=λx vs H Q=>∃l xs,x= .ref l/\vs=[]/\H l=aA (.lst xs)/\Q .non (Z5 H l (.lst []))
theorem Zcy:MtM X "list.clear" Kt:=by intro pins s σ H x vs v us Q I rx rv h;obtain⟨l,xs,rfl,rfl,hH,q⟩:=h;cases rx;have hus:=rv.zero;subst hus;obtain⟨z,its,n,r,hl,e⟩:=I.lstM hH;refine call_meets F.slot_list_clear ⟨_,e,rfl⟩ F.entry_list_clear (F.args_list_clear_1 _) (AutoSeq1.list_clear_list_0 l its.toArray n (by rw[bi];omega)) ⟨e,?_⟩;exact⟨.non,_,I.lset (its':=[]) (ys:=[]) hH e rfl .nil (dn _),rfl,q⟩
def Zzu:R2:=λx y H Q=>∃l b xs zs,x= .ref l/\y= .ref b/\H l=aA (.lst xs)/\H b=aA (.lst zs)/\xs.length+zs.length<=sizeLine/\∀p,H p=aB->Q (.ref p) (Z5 H p (.lst (xs++zs)))
def Zzv:R2:=λx y H Q=>∃l k xs,x= .ref l/\y= .int k/\H l=aA (.lst xs)/\-(2^63)<=k/\k<2^63/\xs.length*k.toNat<=sizeLine/\
 ∀p,H p=aB->Q (.ref p) (Z5 H p (.lst (List.replicate k.toNat xs).flatten))
end
section
variable{κ:Type}[DecidableEq κ]
def Wy(kvs:List (κ×V))(k:κ):Option V:=(kvs.find? λkv=>decide (kv.1=k)).map (·.2)
def Qa(kvs:List (κ×V))(k:κ)(v:V):List (κ×V):=
 if(kvs.any λkv=>decide (kv.1=k))=aC then kvs.map (λkv=>if kv.1=k then(kv.1,v)else kv)else kvs++[(k,v)]
def Jw(kvs:List (κ×V))(k:κ):List (κ×V):=kvs.filter λkv=>decide (kv.1≠k)
theorem Zcz{k:κ}:Wy ([]:List (κ×V)) k=aB:=rfl
theorem U6{p:κ×V}{r:List (κ×V)}{k:κ}(e:p.1=k):Wy (p::r) k=aA p.2:=by simp[Wy,List.find?_cons,e]
theorem Jx{p:κ×V}{r:List (κ×V)}{k:κ}(e:¬p.1=k):Wy (p::r) k=Wy r k:=by simp[Wy,List.find?_cons,e]
theorem Tp(k:κ):∀kvs:List (κ×V),(kvs.any λkv=>decide (kv.1=k))=(Wy kvs k).isSome
 | []=>rfl
 |p::r=>by
  rw[List.any_cons];by_cases e:p.1=k
  ·simp only[U6 e,decide_eq_true e,Bool.true_or,Option.isSome_some]
  ·rw[Jx e,decide_eq_false e,Bool.false_or];exact Tp k r
theorem Br(kvs:List (κ×V))(k:κ)(v:V):(Qa kvs k v).length<=kvs.length+1:=by
 unfold Qa;split
 ·rw[ao];omega
 ·rw[bj,bn,List.length_nil];omega
theorem C3.isSome_eq{o:Option V}{u:Option aj}(r:C3 o u):o.isSome=u.isSome:=by
 cases o with
 |none=>cases u with
  |none=>rfl
  |some _=>exact(show False from r).elim
 |some _=>cases u with
  |none=>exact(show False from r).elim
  |some _=>rfl
theorem C3.getD{o:Option V}{u:Option aj}{d:V}{d':aj}(r:C3 o u)(rd:Zm d d'):Zm (o.getD d) (u.getD d'):=by
 cases o with
 |none=>cases u with
  |none=>exact rd
  |some _=>exact(show False from r).elim
 |some _=>cases u with
  |none=>exact(show False from r).elim
  |some _=>exact r
theorem KV.val{kvs:List (κ×V)}{vs:List (κ×aj)}(r:KV kvs vs)(k:κ):C3 (Wy kvs k) (valueAt vs k):=by
 unfold KV at r;induction r with
 |nil=>exact True.intro
 | @cons p q ps qs h t ih=>
  obtain⟨h1,h2⟩:=h;by_cases e:p.1=k
  ·have e':q.1=k:=h1.symm.trans e;have b:valueAt (q::qs) k=aA q.2:=by simp[valueAt,List.find?_cons,e']
   rw[U6 e,b];exact h2
  ·have e':¬q.1=k:=λz=>e (h1.trans z);have b:valueAt (q::qs) k=valueAt qs k:=by simp[valueAt,List.find?_cons,e']
   rw[Jx e,b];exact ih
theorem KV.any{kvs:List (κ×V)}{vs:List (κ×aj)}(r:KV kvs vs)(k:κ):(kvs.any λkv=>decide (kv.1=k))=vs.any λkv=>decide (kv.1=k):=by
 unfold KV at r;induction r with
 |nil=>rfl
 |cons h t ih=>rw[List.any_cons,List.any_cons,ih,h.1]
theorem KV.repl{kvs:List (κ×V)}{vs:List (κ×aj)}(r:KV kvs vs)(k:κ){y:V}{u:aj}(ry:Zm y u):
  KV (kvs.map λkv=>if kv.1=k then(kv.1,y)else kv) (vs.map λkv=>if kv.1=k then(kv.1,u)else kv):=by
 unfold KV at r⊢;induction r with
 |nil=>exact .nil
 | @cons p q ps qs h t ih=>
  rw[av,av];refine .cons ?_ ih;obtain⟨h1,h2⟩:=h;by_cases e:p.1=k
  ·rw[if_pos e,if_pos (h1.symm.trans e)];exact⟨h1,ry⟩
  ·rw[if_neg e,if_neg (λz=>e (h1.trans z))];exact⟨h1,h2⟩
theorem KV.put{kvs:List (κ×V)}{vs:List (κ×aj)}(r:KV kvs vs)(k:κ){y:V}{u:aj}(ry:Zm y u):KV (Qa kvs k y) (stored vs k u):=by
 unfold Qa stored;rw[r.any k];by_cases e:(vs.any λkv=>decide (kv.1=k))=aC
 ·rw[if_pos e,if_pos e];exact r.repl k ry
 ·rw[if_neg e,if_neg e];exact Paired.snoc r ⟨rfl,ry⟩
theorem KV.drop{kvs:List (κ×V)}{vs:List (κ×aj)}(r:KV kvs vs)(k:κ):KV (Jw kvs k) (without vs k):=by
 unfold KV at r⊢;unfold Jw without;induction r with
 |nil=>exact .nil
 | @cons p q ps qs h t ih=>
  obtain⟨h1,h2⟩:=h;rw[List.filter_cons,List.filter_cons];by_cases e:p.1=k
  ·have a:¬decide (p.1≠k)=aC:=by simp[e]
   have b:¬decide (q.1≠k)=aC:=by simp[h1.symm.trans e]
   rw[if_neg a,if_neg b];exact ih
  ·have e':¬q.1=k:=λz=>e (h1.trans z);have a:decide (p.1≠k)=aC:=by simp[e]
   have b:decide (q.1≠k)=aC:=by simp[e']
   rw[if_pos a,if_pos b];exact .cons ⟨h1,h2⟩ ih
theorem KV.length{kvs:List (κ×V)}{vs:List (κ×aj)}(r:KV kvs vs):kvs.length=vs.length:=gu r
theorem Zc0(kvs:List (κ×V))(k:κ):(Jw kvs k).length<=kvs.length:=List.length_filter_le _ _
end
theorem Gv{P:bu}{w:ck}{k:Key}{u:aj}(r:Zm (kV k) u):(Zk P w).is k u=aC:=by
 cases k with
 |inl i=>obtain⟨t,e⟩:=(show∃t,u=Value.int i t from r);subst e;exact Ni P w i t
 |inr x=>obtain⟨t,e⟩:=(show∃t,u=Value.str x t from r);subst e;exact Nj P w x t
theorem Ij{P:bu}{w:ck}:∀{ks:List Key} {us:List aj},Zw (ks.map kV) us->ItemsAre (Zk P w) ks us
 | [],_,r=>by rw[List.map_nil]at r;cases r;exact .nil
 |k::ks,_,r=>by
  rw[av]at r;cases r with
  |cons h t=>exact .cons (Gv h) (Ij t)
abbrev KT(H:Hp):List (List Key×V)->List (List Key×ak×aj)->Prop:=Paired λp q=>p.1=q.1/\H q.2.1=aA (.tup (p.1.map kV))/\Zm p.2 q.2.2
theorem KT.val{H:Hp}{kvs:List (List Key×V)}{xs:List (List Key×ak×aj)}(r:KT H kvs xs)(k:List Key):C3 (Wy kvs k) ((atKey xs k).map (·.2)):=by
 induction r with
 |nil=>exact True.intro
 | @cons p q ps qs h t ih=>
  obtain⟨h1,_,h2⟩:=h;by_cases e:p.1=k
  ·have e':q.1=k:=h1.symm.trans e;have b:atKey (q::qs) k=aA q.2:=by simp[atKey,List.find?_cons,e']
   rw[U6 e,b];exact h2
  ·have e':¬q.1=k:=λz=>e (h1.trans z);have b:atKey (q::qs) k=atKey qs k:=by simp[atKey,List.find?_cons,e']
   rw[Jx e,b];exact ih
theorem KT.repl{H:Hp}{kvs:List (List Key×V)}{xs:List (List Key×ak×aj)}(r:KT H kvs xs)(k:List Key){y:V}{u:aj}(ry:Zm y u):
  KT H (kvs.map λkv=>if kv.1=k then(kv.1,y)else kv) (xs.map (putAt k u)):=by
 induction r with
 |nil=>exact .nil
 | @cons p q ps qs h t ih=>
  rw[av,av];refine .cons ?_ ih;obtain⟨h1,h2,h3⟩:=h;unfold putAt;by_cases e:p.1=k
  ·rw[if_pos e,if_pos (h1.symm.trans e)];exact⟨h1,h2,ry⟩
  ·rw[if_neg e,if_neg (λz=>e (h1.trans z))];exact⟨h1,h2,h3⟩
theorem KT.put{H:Hp}{kvs:List (List Key×V)}{xs:List (List Key×ak×aj)}(r:KT H kvs xs)(k:List Key){b:ak}{y:V}{u:aj}(hb:H b=aA (.tup (k.map kV)))(ry:Zm y u):
  KT H (Qa kvs k y) (storedH xs k b u):=by
 have e:(kvs.any λkv=>decide (kv.1=k))=(atKey xs k).isSome:=by rw[Tp,(r.val k).isSome_eq,Option.isSome_map]
 unfold Qa storedH;rw[e];by_cases q:(atKey xs k).isSome=aC
 ·rw[if_pos q,if_pos q];exact r.repl k ry
 ·rw[if_neg q,if_neg q];exact Paired.snoc r ⟨rfl,hb,ry⟩
theorem KT.keeps{H H':Hp}{kvs:List (List Key×V)}{xs:List (List Key×ak×aj)}(r:KT H kvs xs)(ht:∀b ys,H b=aA (.tup ys)->H' b=aA (.tup ys)):KT H' kvs xs:=
 Paired.mapP r λ_ _ z=>⟨z.1,ht _ _ z.2.1,z.2.2⟩
section
variable{P:bu}{w:ck}{H:Hp}{h:dq}{a:ak}
theorem Zc1{u:HO}(ok:Cq P w H h)(e:Rd H a u):Z9 P w H h a u:=e.ok ok
theorem Bt{kvs:List (Key×V)}(ok:Cq P w H h)(e:RdK H a kvs):kvs.length<=sizeLine/\(a==d8)=aD/\∃vs,KV kvs vs/\h.DictOf (Zk P w) a vs:=
 let⟨ep,e⟩:=e;let⟨z,y,vs,r,d⟩:=(show Z9 P w H h a (.dK kvs ep)from Zc1 ok e);⟨z,y,vs,r,d.dictOf⟩
theorem Hh{kvs:List (Key×V)}(ok:Cq P w H h)(e:HK H a kvs):kvs.length<=sizeLine/\(a==d8)=aD/\∃vs,KV kvs vs/\h.DictOf (Zk P w) a vs:=Bt ok e.rd
theorem Oi{ks:List Key}(ok:Cq P w H h)(e:H a=aA (.tup (ks.map kV))):(tupleKind (Zk P w)).is h ks a:=by
 obtain⟨_,its,r,o,h1,h2,n,h3⟩:=(show Z9 P w H h a (.tup (ks.map kV))from ok a _ e)
 exact⟨o,its.toArray,n,h1,h2,h3,by simpa using Ij r⟩
theorem Mn{kvs:List (List Key×V)}(ok:Cq P w H h)(e:RdT H a kvs):kvs.length<=sizeLine/\(a==d8)=aD/\
  ∃xs,KT H kvs xs/\h.DictOfH (tupleKind (Zk P w)) a xs:=by
 obtain⟨ep,bs,e⟩:=e;obtain⟨z,y,xs,r,o,es,h1,h2,h3,h4,h5,_⟩:=(show Z9 P w H h a (.dT kvs ep bs)from Zc1 ok e)
 refine⟨z,y,xs,r,o,es,ep,h1,h2,h3,h4,λx hx=>?_,h5⟩;have all:∀{l:List (List Key×V)} {m:List (List Key×ak×aj)},KT H l m->∀x∈m,(tupleKind (Zk P w)).is h x.1 x.2.1:=by
  intro l m q;induction q with
  |nil=>intro x hx;exact nomatch hx
  | @cons p q ps qs hq t ih=>
   intro x hx;rcases bo.mp hx with e|hx
   ·subst e;exact Oi ok (by rw[<-hq.1];exact hq.2.1)
   ·exact ih x hx
 exact all r x hx
theorem Zpq{kvs:List (List Key×V)}(ok:Cq P w H h)(e:HTt H a kvs):kvs.length<=sizeLine/\(a==d8)=aD/\
  ∃xs,KT H kvs xs/\h.DictOfH (tupleKind (Zk P w)) a xs:=Mn ok e.rd
end
def Jc(H:Hp)(a:ak)(y:V)(r:Option V):Prop:=
 (∃kvs k,RdK H a kvs/\y=kV k/\r=Wy kvs k)\/∃kvs k b,RdT H a kvs/\y= .ref b/\H b=aA (.tup (k.map kV))/\r=Wy kvs k
def Eu(H:Hp)(a:ak)(y v:V)(R:Hp->Prop):Prop:=
 (∃kvs k,HK H a kvs/\y=kV k/\kvs.length<sizeLine/\∀ep,R (Z5 H a (.dK (Qa kvs k v) ep)))\/
 ∃kvs k b,HTt H a kvs/\y= .ref b/\H b=aA (.tup (k.map kV))/\kvs.length<sizeLine/\∀ep ep0 bs,H a=aA (.dT kvs ep0 bs)->R (Z5 H a (.dT (Qa kvs k v) ep (Nk kvs bs k b)))
theorem Jc.k{H:Hp}{a:ak}{kvs:List (Key×V)}{k:Key}(e:HK H a kvs):Jc H a (kV k) (Wy kvs k):=.inl ⟨kvs,k,e.rd,rfl,rfl⟩
theorem Jc.t{H:Hp}{a b:ak}{kvs:List (List Key×V)}{k:List Key}(e:HTt H a kvs)(eb:H b=aA (.tup (k.map kV))):Jc H a (.ref b) (Wy kvs k):=.inr ⟨kvs,k,b,e.rd,rfl,eb,rfl⟩
theorem Eu.k{H:Hp}{a:ak}{kvs:List (Key×V)}{k:Key}{v:V}{R:Hp->Prop}(e:HK H a kvs)(hl:kvs.length<sizeLine)(h:∀ep,R (Z5 H a (.dK (Qa kvs k v) ep))):Eu H a (kV k) v R:=.inl ⟨kvs,k,e,rfl,hl,h⟩
theorem Eu.t{H:Hp}{a b:ak}{kvs:List (List Key×V)}{k:List Key}{v:V}{R:Hp->Prop}(e:HTt H a kvs)(eb:H b=aA (.tup (k.map kV)))(hl:kvs.length<sizeLine)(h:∀ep ep0 bs,H a=aA (.dT kvs ep0 bs)->R (Z5 H a (.dT (Qa kvs k v) ep (Nk kvs bs k b)))):
  Eu H a (.ref b) v R:=.inr ⟨kvs,k,b,e,rfl,eb,hl,h⟩
section
variable{X:Cx}{pins:List (ak×Obj)}{σ:St}{H:Hp}{s:am}{a:ak}{y v:V}{u r:aj}{o:Option V}{A:cj}{E:aj->am->Prop}
theorem Inv.big(I:Inv X pins σ H s):d8<s.heap.objs.size:=by have h:b6<s.heap.objs.size:=(I.mod.glob.keeps I.bk).lt;exact Nat.lt_trans (by decide) h
theorem Za0{Q:aj->am->Prop}(hu:A.units+1<dw)(I:Inv X pins σ H s)(g:Jc H a y (aA v))(ry:Zm y u)(h:∀w' s',Inv X pins σ H s'->Zm v w'->Q w' s'):
  ba (bp X.prog X.w) A (getItem (.ref a) u) Q E s:=by
 rcases g with⟨kvs,k,e,ey,l⟩|⟨kvs,k,b,e,ey,eb,l⟩
 ·subst ey;obtain⟨z,hd,vs,rel,dd⟩:=Bt I.hok e;obtain⟨w',hw,rw'⟩:=C3.some_of (v:=v) (o:=valueAt vs k) (by rw[l];exact rel.val k);exact wpAny_getItem_of (Gv ry) dd.mapOf hw (h w' _ (I.tok _) rw')
 ·subst ey;cases(show u=bv b from ry);obtain⟨z,hd,xs,rel,dd⟩:=Mn I.hok e;obtain⟨w',hw,rw'⟩:=C3.some_of (v:=v) (o:=(atKey xs k).map (·.2)) (by rw[l];exact rel.val k);obtain⟨p,hp,hp2⟩:=cm.mp hw;refine wpAny_getItem_heap (tupleKind_room_in1 hu) (Oi I.hok eb) dd hp ?_;rw[hp2];exact h w' _ (I.tok _) rw'
theorem Zui{Q:aj->am->Prop}(hu:A.units+1<dw)(I:Inv X pins σ H s)(g:Jc H a y o)(ry:Zm y u)(h:∀s',Inv X pins σ H s'->Q (.bool o.isSome) s'):
  ba (bp X.prog X.w) A (gh .In u (.ref a)) Q E s:=by
 rcases g with⟨kvs,k,e,ey,l⟩|⟨kvs,k,b,e,ey,eb,l⟩
 ·subst ey;obtain⟨z,hd,vs,rel,dd⟩:=Bt I.hok e;refine wpAny_in_of (Gv ry) hd dd.mapOf ?_;rw[<-(rel.val k).isSome_eq,<-l];exact h _ (I.tok _)
 ·subst ey;cases(show u=bv b from ry);obtain⟨z,hd,xs,rel,dd⟩:=Mn I.hok e;refine wpAny_in_heap (tupleKind_room_in1 hu) (Oi I.hok eb) hd dd ?_;have q:=(rel.val k).isSome_eq;rw[Option.isSome_map]at q;rw[<-q,<-l];exact h _ (I.tok _)
theorem Zhp{Q:aj->am->Prop}(hu:A.units+1<dw)(I:Inv X pins σ H s)(g:Jc H a y o)(ry:Zm y u)(h:∀s',Inv X pins σ H s'->Q (.bool (!o.isSome)) s'):
  ba (bp X.prog X.w) A (gh .NotIn u (.ref a)) Q E s:=by
 rcases g with⟨kvs,k,e,ey,l⟩|⟨kvs,k,b,e,ey,eb,l⟩
 ·subst ey;obtain⟨z,hd,vs,rel,dd⟩:=Bt I.hok e;refine wpAny_notIn_of (Gv ry) hd dd.mapOf ?_;rw[<-(rel.val k).isSome_eq,<-l];exact h _ (I.tok _)
 ·subst ey;cases(show u=bv b from ry);obtain⟨z,hd,xs,rel,dd⟩:=Mn I.hok e;refine wpAny_notIn_heap (tupleKind_room_in1 hu) (Oi I.hok eb) hd dd ?_;have q:=(rel.val k).isSome_eq;rw[Option.isSome_map]at q;rw[<-q,<-l];exact h _ (I.tok _)
theorem Gw{h':dq}{t':Nat}{ob:HO}(I:Inv X pins σ H s)(mu:Mut (H a))(hs:g7 a s.heap h')(he:∃q,h'.get? a=aA q)(new:Z9 X.prog X.w (Z5 H a ob) h' a ob):
  Inv X pins σ (Z5 H a ob) {s with heap:=h',toks:=t'}:=
 I.write (x:=a) (e:=a) mu (.inl rfl) (λb q hb z=>(hs.2 b hb).trans z) he new
theorem Ku{P:bu}{w:ck}{h':dq}{kvs:List (Key×V)}{vs:List (Key×aj)}(z:kvs.length<=sizeLine)(hd:(a==d8)=aD)(rel:KV kvs vs)(dd:h'.DictOf (Zk P w) a vs):
  ∃ep,∀H':Hp,Z9 P w H' h' a (.dK kvs ep):=let⟨ep,dd⟩:=dd.dictAt;⟨ep,λ_=>⟨z,hd,vs,rel,dd⟩⟩
theorem Za1{R:Hp->Prop}{Q:Unit->am->Prop}(hu:A.units+1<dw)(I:Inv X pins σ H s)(g:Eu H a y v R)(ry:Zm y u)(rv:Zm v r)(h:∀H' s',R H'->Inv X pins σ H' s'->Q () s'):
  ba (bp X.prog X.w) A (setItem (.ref a) u r) Q E s:=by
 rcases g with⟨kvs,k,e,ey,l,eH⟩|⟨kvs,k,b,e,ey,eb,l,eH⟩
 ·subst ey;obtain⟨z,hd,vs,rel,dd⟩:=Hh I.hok e;have hz:vs.length<=sizeLine:=by rw[<-rel.length];exact z
  have hl:(Qa kvs k v).length<=sizeLine:=by have:=Br kvs k v;omega
  refine wpAny_setItem_pairs (hsz:=hz) (Gv ry) dd λh' dd' hs=>?_;have he:∃q,h'.get? a=aA q:=let⟨q,_,_,hq,_⟩:=dd';⟨q,hq⟩
  obtain⟨ep,ok⟩:=Ku hl hd (rel.put k rv) dd';exact h _ _ (eH ep) (Gw I (by obtain⟨e0,e⟩:=e;rw[e];exact True.intro) hs he (ok _))
 ·subst ey;cases(show u=bv b from ry);obtain⟨z,hd,xs,rel,dd⟩:=Zpq I.hok e;have hz:xs.length<=sizeLine:=by rw[<-gu rel];exact z
  have hl:(Qa kvs k v).length<=sizeLine:=by have:=Br kvs k v;omega
  refine wpAny_setItem_heap (hsz:=hz) (tupleKind_room_in1 hu) (Oi I.hok eb) dd λh' dd' hs=>?_;obtain⟨q,es,ep,hq,h2,h3,h4,_,h5⟩:=dd';obtain⟨e0,bs,e⟩:=e;have hb:(xs.map λx=>x.2.1)=bs:=by
   obtain⟨_,_,xs',r',_,_,w1,_,w3,w4,_,w6⟩:=(show Z9 X.prog X.w H s.heap a (.dT kvs e0 bs)from I.hok a _ e)
   obtain⟨_,_,_,y1,_,y3,y4,_⟩:=dd;rw[w1]at y1;cases y1;rw[w3]at y3;cases y3;have:xs'.map (λx=>x.2.1)=xs.map λx=>x.2.1:=by
    have z:=congrArg (List.map DictEntry.key) (w4.symm.trans y4);rw[bx,bx]at z;have inj:∀{l m:List (List Key×ak×aj)},l.map (DictEntry.key∘entryOfKey (tupleKind (Zk X.prog X.w)))=m.map (DictEntry.key∘entryOfKey (tupleKind (Zk X.prog X.w)))->(l.map λx=>x.2.1)=m.map λx=>x.2.1:=by
     intro l;induction l with
     |nil=>intro m z;cases m with
      |nil=>rfl
      |cons _ _=>cases z
     |cons x l ih=>intro m z;cases m with
      |nil=>cases z
      |cons y m=>rw[av,av]at z⊢;injection z with z1 z2;have z1':bv x.2.1=bv y.2.1:=z1;injection z1' with z1';rw[z1',ih z2]
    exact inj z
   rw[<-this];exact w6
  have hb2:((storedH xs k b r).map λx=>x.2.1)=Nk kvs bs k b:=by
   have ee:(kvs.any λkv=>decide (kv.1=k))=(atKey xs k).isSome:=by rw[Tp,(rel.val k).isSome_eq,Option.isSome_map]
   unfold Nk storedH;rw[ee];by_cases qq:(atKey xs k).isSome=aC
   ·rw[if_pos qq,if_pos qq,bx,<-hb];refine fg λx _=>?_;show(putAt k r x).2.1=x.2.1;unfold putAt;split<;> rfl
   ·rw[if_neg qq,if_neg qq,cq,hb];rfl
  refine h _ _ (eH ep e0 bs e) (Gw I (by rw[e];exact True.intro) hs ⟨q,hq⟩ ⟨hl,hd,_,(rel.put k eb rv).keeps λc ys ec=>?_,q,es,hq,h2,h3,h4,h5,hb2⟩);rw[Zn (Ti ec e (λz=>nomatch z))];exact ec
end
section
variable{X:Cx}{pins:List (ak×Obj)}{σ:St}{H:Hp}{s:am}{a:ak}{kvs:List (Key×V)}{k:Key}{u:aj}{A:cj}{E:aj->am->Prop}
theorem Zpr{v:V}{more:List aj}{Q:aj->am->Prop}(I:Inv X pins σ H s)(e:HK H a kvs)(ry:Zm (kV k) u)(l:Wy kvs k=aA v)(hm:more=[]\/∃x,more=[x])
  (h:∀ep w' s',Inv X pins σ (Z5 H a (.dK (Jw kvs k) ep)) s'->Zm v w'->Q w' s'):ba (bp X.prog X.w) A (call (.builtin "dict.pop") (.ref a::u::more)) Q E s:=by
 obtain⟨z,hd,vs,rel,dd⟩:=Hh I.hok e;obtain⟨w',hw,rw'⟩:=C3.some_of (v:=v) (o:=valueAt vs k) (by rw[<-l];exact rel.val k);have hp:(keyPart u).isSome=aC:=by
  cases k with
  |inl i=>obtain⟨t,q⟩:=(show∃t,u=Value.int i t from ry);subst q;rfl
  |inr x=>obtain⟨t,q⟩:=(show∃t,u=Value.str x t from ry);subst q;rfl
 have ha:argsOk "dict.pop" ⟨.ref a::u::more,[]⟩:=by
  rcases hm with q|⟨x,q⟩
  ·subst q;exact PySem.F.args_dict_pop_2 _ _
  ·subst q;exact PySem.F.args_dict_pop_3 _ _ _
 refine call_meetsIn PySem.F.slot_dict_pop dd.typeIs PySem.F.entry_dict_pop ha (meets_dict_pop_there (Zk X.prog X.w) a (Gv ry) more hm hp)
  ⟨vs,w',dd,by rw[<-rel.length];exact z,hw,λh' dd' hs=>?_⟩
 have he:∃q,h'.get? a=aA q:=let⟨q,_,_,hq,_⟩:=dd';⟨q,hq⟩
 obtain⟨ep,ok⟩:=Ku (d3 (Zc0 kvs k) z) hd (rel.drop k) dd';exact h ep w' _ (Gw I (by obtain⟨e0,e⟩:=e;rw[e];exact True.intro) hs he (ok _)) rw'
end
def Zmg(i:ci):Prop:=∀ov iv,subscripted i aD ov iv=operate [ov,iv] (getItem ov iv)
theorem Hi{prog:bu}{w:ck}{A:cj}{E:aj->am->Prop}{s:am}{env:Env}{value slice:ci}{pos:Pos}{T id:String}{Q:aj->am->Prop}
  (hl:typeLookup (.type T) "__getitem__"=pure (aA (.builtin id))) (hs:Zmg slice)
  (h:ba (bp prog w) A (f8 value env) (λo s₁=>ba (bp prog w) A (f8 slice env) (λi s₂=>s₂.TypeIs o T/\ba (bp prog w) A (getItem o i) Q E s₂) E s₁) E s):
  ba (bp prog w) A (f8 (.Subscript value slice pos) env) Q E s:=by
 refine Subscript_ (wpAny_mono h (λo s₁ h₁=>wpAny_mono h₁ (λi s₂ h₂=>?_) λ_ _ x=>x) λ_ _ x=>x);obtain⟨hT,h₂⟩:=h₂;unfold subscriptTail;refine ad ?_;rw[getitemInPython_of_ne hT.not_modules];refine ad (wpAny_specialOf hT hl ?_);have fin:ba (bp prog w) A (subscripted slice aD o i) (λr s₃=>ba (bp prog w) A (letTemporaryGo value o r >>=λ_=>pure r) Q E s₃) E s₂:=by rw[hs o i];exact wpAny_operating (wpAny_mono h₂ (λr s₃ h₃=>ad (wpAny_letTemporaryGo (ag h₃))) λ_ _ x=>x)
 first
  |exact ag (ad fin)
  |exact ad (ag (ad fin))
  |exact ad fin
theorem Nu{X:Cx}{pins:List (ak×Obj)}{σ:St}{H:Hp}{s:am}{a:ak}{y:V}{o:Option V}(I:Inv X pins σ H s)(g:Jc H a y o):s.TypeIs (.ref a) "dict":=by
 rcases g with⟨kvs,k,e,_,_⟩|⟨kvs,k,b,e,_,_,_⟩
 ·obtain⟨_,_,vs,_,dd⟩:=Bt I.hok e;exact dd.typeIs
 ·obtain⟨_,_,xs,_,dd⟩:=Mn I.hok e;exact dd.typeIs
def Zka(td ty:TE):TE:=λσ H Q=>td σ H λx H1=>ty σ H1 λy H2=>∃a v,x= .ref a/\Jc H2 a y (aA v)/\Q v H2
def Zzw(ty td:TE):TE:=λσ H Q=>ty σ H λy H1=>td σ H1 λx H2=>∃a o,x= .ref a/\Jc H2 a y o/\Q (.bl o.isSome) H2
def Zs7(ty td:TE):TE:=λσ H Q=>ty σ H λy H1=>td σ H1 λx H2=>∃a o,x= .ref a/\Jc H2 a y o/\Q (.bl (!o.isSome)) H2
def Zkb(td ty tv:TE):TS:=λD σ H=>tv σ H λv H1=>td σ H1 λx H2=>ty σ H2 λy H3=>∃a,x= .ref a/\Eu H3 a y v (D.nx σ)
def Zxe(td ty tv:TE)(rd:V->V->Hp->VK->Prop):TS:=λD σ H=>td σ H λx H1=>ty σ H1 λy H2=>∃a v,x= .ref a/\Jc H2 a y (aA v)/\
 tv σ H2 λy2 H3=>rd v y2 H3 λz H4=>Eu H4 a y z (D.nx σ)
def Zxf(td ty:TE):TS:=λD σ H=>td σ H λx H1=>ty σ H1 λy H2=>∃a kvs k,x= .ref a/\HK H2 a kvs/\y=kV k/\(Wy kvs k).isSome=aC/\∀ep,D.nx σ (Z5 H2 a (.dK (Jw kvs k) ep))
section
variable{X:Cx}{o i e value:ci}{pos pos' tpos:Pos}{td ty tv:TE}
theorem Zhq(hu:X.A.units+1<dw)(ho:PE X o td)(hi:PE X i ty)(hs:Zmg i):PE X (.Subscript o i pos) (Zka td ty):=by intro pins s σ H Q I h;refine Hi PySem.F.slot_dict_getitem.lookup hs (Wo (ho pins s σ H _ I h) λu s1 ⟨x,H1,I1,rx,q1⟩=>Wo (hi pins s1 σ H1 _ I1 q1) λiv s2 zq9=>?_);obtain⟨y,H2,I2,ry,a,v,ex,g,q2⟩:=zq9;subst ex;obtain rfl:u=bv a:=rx;exact⟨Nu I2 g,Za0 hu I2 g ry λw' s3 I3 rw'=>⟨v,H2,I3,rw',q2⟩⟩
theorem Zhr(hu:X.A.units+1<dw)(ho:PE X o td)(hi:PE X i ty)(hv:PE X value tv)(hs:swapsWith value (aA (.Subscript o i pos')) pos.line X.env=pure aD):
  PS X (.Assign [.Subscript o i pos'] value pos) (Zkb td ty tv):=by
 intro pins s σ H D I h;refine wpAny_Assign_Subscript (Wo (hv pins s σ H _ I h) λr s1 ⟨v,H1,I1,rv,q1⟩=>Wo (ho pins s1 σ H1 _ I1 q1) λu s2 ⟨x,H2,I2,rx,q2⟩=>Wo (hi pins s2 σ H2 _ I2 q2) λiv s3 ⟨y,H3,I3,ry,a,ex,g⟩=>?_) hs;subst ex;obtain rfl:u=bv a:=rx;exact Za1 hu I3 g ry rv λH4 s4 q3 I4=>⟨σ,H4,I4,q3⟩
end
theorem Nv{P:bu}{w:ck}{H:Hp}(h:dq)(hb:d8<h.objs.size):Z9 P w H (h.push {cls:=.type "dict",data:=.dict #[]}) h.objs.size (.dK [] 0):=
 ⟨dn _,beq_eq_false_iff_ne.mpr (Ne.symm (b4 hb)),[],.nil,_, #[],a9 _ rfl,⟨rfl,rfl,rfl⟩,rfl,λ_ he=>by simp at he,Pairs.nil,c7⟩
def Zc2:TE:=λ_ H Q=>∀p,H p=aB->Q (.ref p) (Z5 H p (.dK [] 0))
def Zuj:TE:=λ_ H Q=>∀p,H p=aB->Q (.ref p) (Z5 H p (.dT [] 0 []))
section
variable{X:Cx}{pos:Pos}
theorem Zc3:PE X (.Dict [] [] pos) Zc2:=λpins s σ H Q I h=>
 wpAny_Dict_empty ⟨.ref s.heap.objs.size,_,I.laid (a:=s.heap.objs.size) (o:=.dK [] 0) (t':=s.toks) (λ_ _ q=>aq _ q) (a8 _) (Nv s.heap I.big),rfl,h _ (I.hok.fresh (a8 _))⟩
end
def Kv:List (TE×TE)->St->Hp->(List (V×V)->Hp->Prop)->Prop
  | [],_,H,Q=>Q [] H
  | (tk,tv)::r,σ,H,Q=>tk σ H λx H1=>tv σ H1 λy H2=>Kv r σ H2 λps H3=>Q ((x,y)::ps) H3
abbrev VV:List (V×V)->List (aj×aj)->Prop:=Paired λp q=>Zm p.1 q.1/\Zm p.2 q.2
def PPs(X:Cx)(pos:Pos)(keys:List (Option ci))(values:List ci)(trs:List (TE×TE)):Prop:=
 ∀(pins:List (ak×Obj)) (s:am) (σ:St) (H:Hp) (Q:List (V×V)->Hp->Prop),Inv X pins σ H s->Kv trs σ H Q->
  ba (bp X.prog X.w) X.A (evalPairs (pairTrees keys values X.env pos)) (λvs s'=>∃ps H',Inv X pins σ H' s'/\VV ps vs/\Q ps H') X.xe s
theorem Zhs{X:Cx}{pos:Pos}:PPs X pos [] [] []:=λpins s σ H Q I h=>pairTrees_nil_walk ⟨[],H,I,.nil,h⟩
theorem Zc4{X:Cx}{pos:Pos}{k v:ci}{ks:List (Option ci)}{vs:List ci}{tk tv:TE}{trs:List (TE×TE)}(hk:PE X k tk)(hv:PE X v tv)(hr:PPs X pos ks vs trs):
  PPs X pos (aA k::ks) (v::vs) ((tk,tv)::trs):=λpins s σ H Q I h=>
 pairTrees_cons_walk (Wo (hk pins s σ H _ I h) λu s1 ⟨x,H1,I1,rx,q1⟩=>Wo (hv pins s1 σ H1 _ I1 q1) λw2 s2 ⟨y,H2,I2,ry,q2⟩=>
  Wo (hr pins s2 σ H2 _ I2 q2) λws s3 ⟨ps,H3,I3,rel,q3⟩=>⟨(x,y)::ps,H3,I3,.cons ⟨rx,ry⟩ rel,q3⟩)
def Uw(kvs more:List (Key×V)):List (Key×V):=more.foldl (λacc kv=>Qa acc kv.1 kv.2) kvs
theorem KV.merge:∀{more:List (Key×V)} {rs:List (Key×aj)} {kvs:List (Key×V)} {vs:List (Key×aj)},KV more rs->KV kvs vs->KV (Uw kvs more) (merged vs rs):=by
 intro more rs kvs vs r;unfold KV at r;induction r generalizing kvs vs with
 |nil=>intro q;exact q
 | @cons p q ps qs h t ih=>
  intro r0;have e:KV (Qa kvs p.1 p.2) (stored vs q.1 q.2):=by have:=r0.put p.1 h.2;rw[<-h.1];exact this
  exact ih e
theorem Cr:∀(more kvs:List (Key×V)),(Uw kvs more).length<=kvs.length+more.length
 | [],kvs=>by show kvs.length<=kvs.length+0;omega
 |p::r,kvs=>by have h1:=Cr r (Qa kvs p.1 p.2);have h2:=Br kvs p.1 p.2;show(Uw (Qa kvs p.1 p.2) r).length<=_;rw[bn];omega
theorem Tq{P:bu}{w:ck}:∀{kvs:List (Key×V)} {ws:List (aj×aj)},VV (kvs.map λkv=>(kV kv.1,kv.2)) ws->∃rs,Carries (Zk P w) ws rs/\KV kvs rs
 | [],_,r=>by rw[List.map_nil]at r;cases r;exact⟨[],True.intro,.nil⟩
 |p::kvs,_,r=>by
  rw[av]at r;cases r with
  | @cons a b as bs h t=>obtain⟨rs,c,q⟩:=Tq (P:=P) (w:=w) t;obtain⟨b1,b2⟩:=b;exact⟨(p.1,b2)::rs,⟨Gv h.1,rfl,c⟩,.cons ⟨rfl,h.2⟩ q⟩
def Zxg(trs:List (TE×TE)):TE:=λσ H Q=>∀p,H p=aB->Kv trs σ (Z5 H p (.dK [] 0)) λps H2=>H2 p=aA (.dK [] 0)/\∃kvs:List (Key×V),ps=kvs.map (λkv=>(kV kv.1,kv.2))/\kvs.length<=15/\∀ep,Q (.ref p) (Z5 H2 p (.dK (Uw [] kvs) ep))
structure M1(X:Cx)(o:ci)(m:Str)(apos:Pos)(e:ci)(cpos:Pos):Prop where
 base:attributeBase o m X.env (f8 o X.env)=f8 o X.env
 few:((f6 cpos (ay [e] X.env)).all (λx=>!x.1)&&(backToKw cpos (keywordEach [] X.env)).all (λx=>x.1.isSome)
  &&decide (([e]:List ci).length+([]:List Keyword).length+(if([]:List Keyword).isEmpty then 0 else 1)<30))=aC
 line:(apos.endLine==cpos.line)=aC
 trees:f6 cpos (ay [e] X.env)=[(aD,f8 e X.env)]
structure M2(X:Cx)(o:ci)(m:Str)(apos:Pos)(e f:ci)(cpos:Pos):Prop where
 base:attributeBase o m X.env (f8 o X.env)=f8 o X.env
 few:((f6 cpos (ay [e,f] X.env)).all (λx=>!x.1)&&(backToKw cpos (keywordEach [] X.env)).all (λx=>x.1.isSome)
  &&decide (([e,f]:List ci).length+([]:List Keyword).length+(if([]:List Keyword).isEmpty then 0 else 1)<30))=aC
 line:(apos.endLine==cpos.line)=aC
 trees:f6 cpos (ay [e,f] X.env)=[(aD,f8 e X.env),(aD,f8 f X.env)]
def IsD(H:Hp)(a:ak):Prop:=(∃kvs,RdK H a kvs)\/∃kvs,RdT H a kvs
theorem Zmh{X:Cx}{pins:List (ak×Obj)}{σ:St}{H:Hp}{s:am}{a:ak}(I:Inv X pins σ H s)(d:IsD H a):
  s.TypeIs (.ref a) "dict"/\(∀b,bv a= .ref b->∃ob,s.heap.get? b=aA ob/\ob.dict=aB)/\(a==d8)=aD:=by
 rcases d with⟨kvs,e⟩|⟨kvs,e⟩
 ·obtain⟨_,hd,vs,_,dd⟩:=Bt I.hok e;refine⟨dd.typeIs,λb q=>?_,hd⟩;cases q;obtain⟨ob,_,_,h1,h2,_⟩:=dd;exact⟨ob,h1,h2.2.1⟩
 ·obtain⟨_,hd,xs,_,dd⟩:=Mn I.hok e;refine⟨dd.typeIs,λb q=>?_,hd⟩;cases q;obtain⟨ob,_,_,h1,h2,_⟩:=dd;exact⟨ob,h1,h2.2.1⟩
section
variable{X:Cx}{pins:List (ak×Obj)}{σ:St}{H:Hp}{s:am}{a:ak}{y d:V}{u r:aj}{o:Option V}{A:cj}{E:aj->am->Prop}
theorem Zmi{Q:aj->am->Prop}(hu:A.units+1<dw)(I:Inv X pins σ H s)(g:Jc H a y o)(ry:Zm y u)(h:∀w' s',Inv X pins σ H s'->Zm (o.getD .non) w'->Q w' s'):
  ba (bp X.prog X.w) A (call (.builtin "dict.get") [.ref a,u]) Q E s:=by
 rcases g with⟨kvs,k,e,ey,l⟩|⟨kvs,k,b,e,ey,eb,l⟩
 ·subst ey;obtain⟨z,hd,vs,rel,dd⟩:=Bt I.hok e;refine call_meetsIn PySem.F.slot_dict_get dd.typeIs PySem.F.entry_dict_get (PySem.F.args_dict_get_2 _ _) (meets_dict_get (Zk X.prog X.w) a (Gv ry) hd) ⟨_,dd.mapOf,h _ _ (I.tok _) ?_⟩;rw[l];exact(rel.val k).getD rfl
 ·subst ey;cases(show u=bv b from ry);obtain⟨z,hd,xs,rel,dd⟩:=Mn I.hok e;refine call_meetsIn PySem.F.slot_dict_get dd.typeIs PySem.F.entry_dict_get (PySem.F.args_dict_get_2 _ _) (meetsH_dict_get (tupleKind (Zk X.prog X.w)) a b hd) ⟨tupleKind_room_in1 hu,k,xs,Oi I.hok eb,dd,h _ _ (I.tok _) ?_⟩;rw[l];exact(rel.val k).getD rfl
theorem Zmj{Q:aj->am->Prop}(hu:A.units+1<dw)(I:Inv X pins σ H s)(g:Jc H a y o)(ry:Zm y u)(rd:Zm d r)(h:∀w' s',Inv X pins σ H s'->Zm (o.getD d) w'->Q w' s'):
  ba (bp X.prog X.w) A (call (.builtin "dict.get") [.ref a,u,r]) Q E s:=by
 rcases g with⟨kvs,k,e,ey,l⟩|⟨kvs,k,b,e,ey,eb,l⟩
 ·subst ey;obtain⟨z,hd,vs,rel,dd⟩:=Bt I.hok e;refine call_meetsIn PySem.F.slot_dict_get dd.typeIs PySem.F.entry_dict_get (PySem.F.args_dict_get_3 _ _ _) (meets_dict_get_default (Zk X.prog X.w) a (Gv ry) hd r) ⟨_,dd.mapOf,h _ _ (I.tok _) ?_⟩;rw[l];exact(rel.val k).getD rd
 ·subst ey;cases(show u=bv b from ry);obtain⟨z,hd,xs,rel,dd⟩:=Mn I.hok e;refine call_meetsIn PySem.F.slot_dict_get dd.typeIs PySem.F.entry_dict_get (PySem.F.args_dict_get_3 _ _ _) (meetsH_dict_get_default (tupleKind (Zk X.prog X.w)) a b hd r) ⟨tupleKind_room_in1 hu,k,xs,Oi I.hok eb,dd,h _ _ (I.tok _) ?_⟩;rw[l];exact(rel.val k).getD rd
end
def Zuk(td ty:TE):TE:=λσ H Q=>td σ H λx H1=>∃a,x= .ref a/\IsD H1 a/\ty σ H1 λy H2=>∃o,Jc H2 a y o/\Q (o.getD .non) H2
def Zul(td ty tx:TE):TE:=λσ H Q=>td σ H λx H1=>∃a,x= .ref a/\IsD H1 a/\ty σ H1 λy H2=>tx σ H2 λz H3=>∃o,Jc H3 a y o/\Q (o.getD z) H3
def Zc5(td ty:TE):TE:=λσ H Q=>td σ H λx H1=>∃a,x= .ref a/\IsD H1 a/\ty σ H1 λy H2=>∃kvs k v,HK H2 a kvs/\y=kV k/\Wy kvs k=aA v/\∀ep,Q v (Z5 H2 a (.dK (Jw kvs k) ep))
def Zum(td ty tx:TE):TE:=λσ H Q=>td σ H λx H1=>∃a,x= .ref a/\IsD H1 a/\ty σ H1 λy H2=>tx σ H2 λz H3=>∃kvs k,HK H3 a kvs/\y=kV k/\
 (∀v ep,Wy kvs k=aA v->Q v (Z5 H3 a (.dK (Jw kvs k) ep)))/\(Wy kvs k=aB->Q z H3)
section
variable{X:Cx}{o e f:ci}{apos cpos:Pos}{td ty tx:TE}
theorem Zc6(ho:PE X o td)(he:PE X e ty)(m:M1 X o "pop" apos e cpos):PE X (.Call (.Attribute o "pop" apos) [e] [] cpos) (Zc5 td ty):=by intro pins s σ H Q I h;refine wpAny_Call_method m.base m.few m.line PySem.F.plainAttrs_dict PySem.F.slot_dict_pop PySem.F.type_dict_pop (Wo (ho pins s σ H _ I h) λu s1 zq9=>?_);obtain⟨x,H1,I1,rx,a,ex,d,q1⟩:=zq9;subst ex;obtain rfl:u=bv a:=rx;obtain⟨t1,t2,_⟩:=Zmh I1 d;refine⟨t1,t2,?_⟩;rw[m.trees];refine Calls.callWith_builtin rfl (Calls.evalArgs_plain (Calls.spliced_cons (Wo (he pins s1 σ H1 _ I1 q1) λiv s2 ⟨y,H2,I2,ry,kvs,k,v,ea,ey,l,q2⟩=>Calls.spliced_nil ?_)));subst ey;exact Zpr I2 ea ry l (.inl rfl) λep w' s3 I3 rw'=>⟨v,_,I3,rw',q2 ep⟩
end
section
variable{X:Cx}{pins:List (ak×Obj)}{σ:St}{H:Hp}{s:am}{a:ak}{kvs:List (Key×V)}{A:cj}{E:aj->am->Prop}
theorem Zc7{Q:aj->am->Prop}(I:Inv X pins σ H s)(e:RdK H a kvs)(h:∀p ep s',H p=aB->Inv X pins σ (Z5 H p (.dK kvs ep)) s'->Q (.ref p) s'):ba (bp X.prog X.w) A (call (.type "dict") [.ref a]) Q E s:=by obtain⟨z,hd,vs,rel,dd⟩:=Bt I.hok e;refine kt_call_dict hd dd (by rw[<-rel.length];exact z) λh' dd' hs=>?_;obtain⟨ep,ok⟩:=Ku z (beq_eq_false_iff_ne.mpr (Ne.symm (b4 I.big))) rel dd';refine h _ ep _ (I.hok.fresh (a8 _)) (I.laid (a:=s.heap.objs.size) (o:=.dK kvs ep) (t':=s.toks) (λb q hq=>?_) (a8 _) (ok _));exact(hs.2 b (b4 (bc hq))).trans (aq _ hq)
end
end L2
namespace Att
open PySem PySem.W PySem.Calls PyProof.Rows
theorem M0{P:Params}{h:dq}:∀(ns:List Int) (vs:List aj),WellAll P h vs (ns.map WData.int)->IntsAre vs ns:=by
 intro ns;induction ns with
 |nil=>intro vs w;rw[List.map_nil]at w;cases w;exact .nil
 |cons n ns ih=>
  intro vs w;rw[av]at w;cases w with
  |cons a b=>cases a;exact .cons _ _ (ih _ b)
theorem Za2{l:OpenLaw}{n:Nat}(hn:l.most=aA n){P:Params}{h:dq}{args:List WData}{vals:List aj}
  (hpre:l.row.toRowW.claim.pre args=aC) (hwl:WellAll P h vals args):
  ∃a vs ns,vals=[bv a]/\args=[WData.list (ns.map WData.int)]/\h.get? a=aA {cls:=.type "list",data:=.seq vs.toArray}/\IntsAre vs ns/\ns.length<=n:=by
 have hsh:WShape.hasAll [] args [.list .int]=aC:=(pre_splitW hpre).1;have hc:l.pre.holds [] {args:=args}=aC:=(pre_splitW hpre).2;obtain⟨d,r,rfl,h1,h2⟩:=hasAllW_cons hsh;obtain rfl:=hasAllW_nil h2;obtain⟨xs,rfl,h3⟩:=hasW_list h1;obtain⟨ns,rfl⟩:=items_int h3;have hlen:ns.length<=n:=by
  unfold OpenLaw.pre at hc;have h4:(WTm.not (.lt (.lit (.int (n:Int))) (.len (.arg 0)))).holds [] {args:=[.list (ns.map .int)]}=aC:=by have h4:=(holds_andW hc).1;rw[hn]at h4;exact h4
  have h5:=condW_of h4 (w_not (w_lt w_lit (w_len_list (w_arg rfl))));rw[ao]at h5;refine Nat.le_of_not_lt λq=>?_;have q':(n:Int)<((ns.length:Nat):Int):=by omega
  first
   | (rw[decide_eq_true q']at h5;exact absurd h5 (by decide))
   | (simp at h5;omega)
 cases hwl with
 |cons w1 w2=>
  cases w2;cases w1 with
  |list ho hall=>exact⟨_,_,ns,rfl,rfl,ho,M0 ns _ hall,hlen⟩
theorem Za3(l:OpenLaw)(args:List WData):l.row.toRowW.claim.post args (.bool aC) args=aC:=
 postW_of (r:=l.row.toRowW) (X:=(aC==aC))
  (show WShape.has [] (.bool aC) .bool=aC by first|rfl|decide|simp[WShape.has,WShape.arms,WShape.armsAll])
  (show(WTm.eq .res (.lit (.bool aC))).value [] {args:=args,res:=aA (.bool aC),after:=args}=aA (.bool (aC==aC))from w_eq_bool (w_res rfl) w_lit) rfl
theorem attach_call{l:OpenLaw}{n:Nat}{q:bu}{loose:List Str}{XP:(Str->Option aj)->dq->Prop}{YP:ck->dq->Prop}{d:DefRec}
  (hn:l.most=aA n) (hdf:d.params.defaults=[])
  (call:∀(w:ck) (s₀ s₁:am) (mg mb:Str->Option aj) (fa:ak) (o:Obj) (pm cd doc:aj) (a:ak) (vs:List aj) (ns:List Int),
   Ground q loose [] XP w s₀ mg mb s₁.heap->YP w s₁.heap->
   s₁.heap.get? fa=aA o->o.data= .func (docDef d.name d.params d.body d.scope pm cd doc)->s₁.heap.CodeRec cd d.name->mg d.name=aA (.ref fa)->
   s₁.heap.get? a=aA {cls:=.type "list",data:=.seq vs.toArray}->IntsAre vs ns->ns.length<=n->s₁.gens= #[]->
   codeAny (bp l.prog w) callerA (.call (.ref fa) ⟨[.ref a],[]⟩) (λr s'=>r= .ok (.ret (.bool aC))/\OldK s₁.heap s'.heap/\s'.os=s₁.os/\AllBare s'.gens) s₁):
  WalkO q loose XP YP l.row.toRowW d [] (λf vs=>PySem.call f vs):=by
 intro w s₀ s₁ mg mb G Y fa o pm cd doc dV kV ho hd hcd hD hmg hg args vals as hpre hlay hrd hwl hlo;obtain rfl:dV= .none:=Dflts.none hD hdf;obtain rfl:kV= .none:=Dflts.noKw hD;obtain⟨a,vs,ns,rfl,rfl,hobj,hints,hlen⟩:=Za2 hn hpre hwl;refine enter_call (codeAny_mono (call w s₀ s₁ mg mb fa o pm cd doc a vs ns G Y ho (fd_plain hd) hcd hmg hobj hints hlen hg) λr s' hq=>?_);obtain⟨rfl,h2,h3,h4⟩:=hq;exact⟨.inl ⟨.bool aC,.bool aC,[],rfl,λ_=>rfl,.bool aC,Za3 l _,λ_=>⟨List.Pairwise.nil,λ_ hm=>(nomatch hm)⟩⟩,h2,h3,h4⟩
section
variable{prog:bu}{w:ck}{A:cj}{E:aj->am->Prop}{s:am}{K:Frag}
def Zun(h:dq):Heap:={h with objs:= #[]}
def Zuo(h:dq)(L d:ak):List (ak×Obj):=(cr h.objs.size).filterMap λa=>if a=L\/a=d then aB else(h.get? a).map λo=>(a,o)
end
end Att
namespace L2
open PySem PySem.Spec PyProof.Rows
theorem Ik:∀{vs:List aj} {ns:List Int},IntsAre vs ns->Zw (ns.map V.int) vs
 |_,_,.nil=>.nil
 |_,_,.cons n t h=>.cons ⟨t,rfl⟩ (Ik h)
def Zc8(H:Hp):Prop:=∀b,H b=aB\/∃o xs,H b=aA (.frz o (.lst xs))
theorem Zc9 {P : bu} {w : ck} {K : af} {mg mb : Str -> Option aj} {CX : CXT} {k : Nat} {fa a : ak} {fd : cx} {x : Str} {sp : Sp} {s₁ : am} {vs : List aj} {ns : List Int}
    (KX : K.In s₁.heap) (hns : s₁.heap.Ns b6 mg) (hb : s₁.heap.Ns builtinsNs mb) (hbb : ∀ x : Str, x ≠ "__name__" -> mb x = bootBuiltins x) (hlim : s₁.heap.NoLimit) (hg : s₁.gens = #[])
    (ha : s₁.heap.get? a = aA { cls := .type "list", data := .seq vs.toArray }) (hi : IntsAre vs ns) (hl : ns.length <= sizeLine) (hr : Room k callerA)
    (F : ∀ base : dq, K.In base -> base.Ns b6 mg -> FnOk P w K mg base CX k fa fd [x] sp) (hbind : ∀ (s : am) (u : aj), BindsTo s fd ⟨[u], []⟩ [(x, u)])
    (hsp : ∀ H : Hp, Zc8 H -> Wp K H a (ns.map V.int) -> sp [.ref a] H (λv _ => v = .bl aC) λ_ _ _ => False)
    (hCX : ∀ H e s', CX [] H s₁ (λ_ _ _ => False) e s' -> False) :
    codeAny (bp P w) callerA (.call (.ref fa) ⟨[.ref a], []⟩) (λr s' => r = .ok (.ret (.bool aC)) /\ OldK s₁.heap s'.heap /\ s'.os = s₁.os /\ AllBare s'.gens) s₁ := by
  have rv := Ik hi;have lenV := hi.length
  -- from an abstract heap in which nothing but the script may be tracked
  have core : ∀ H : Hp, Zc8 H -> Wp K H a (ns.map V.int) -> Cq P w H s₁.heap -> (∀ b, H b ≠ aB -> b = a) -> (H a ≠ aB -> K.lookup a = aB) ->
      codeAny (bp P w) callerA (.call (.ref fa) ⟨[.ref a], []⟩) (λr s' => r = .ok (.ret (.bool aC)) /\ OldK s₁.heap s'.heap /\ s'.os = s₁.os /\ AllBare s'.gens) s₁ := by
    intro H hO hS hok hA hK;have base_of : ∀ {b : ak} {o : Obj}, s₁.heap.get? b = aA o -> H b = aB -> (Kf s₁.heap H).get? b = aA o := λe n => Zcd e n;have noA : ∀ {b : ak} {o : Obj} {es : Array DictEntry} {ep : Nat}, s₁.heap.get? b = aA o -> o.data = .dict es ep -> H b = aB := λ{b o es ep} e d => by
      cases q : H b with
      | none => rfl
      | some u =>have e' : b = a := hA b (by rw [q]; simp);subst e';rw [ha] at e; cases e;have d' : Data.seq vs.toArray _ = Data.dict es ep := d;cases d'
    have nsK : ∀ {b : ak} {m : Str -> Option aj}, s₁.heap.Ns b m -> (Kf s₁.heap H).Ns b m := λ{b m} ⟨o, es, ep, e, d, r⟩ => ⟨o, es, ep, base_of e (noA e d), d, r⟩
    have hKb : K.In (Kf s₁.heap H) := λb o e => base_of (KX b o e) (by
      cases q : H b with
      | none => rfl
      | some u =>
        have e' : b = a := hA b (by rw [q]; simp);subst e';rw [hK (by rw [q]; simp)] at e; cases e)
    have hM : Mod K mg (Kf s₁.heap H) := ⟨hKb, nsK hns, ⟨mb, nsK hb, hbb⟩, let ⟨mc, h1, h2⟩ := hlim; ⟨mc, nsK h1, h2⟩⟩
    have e0 : Env0 P w K mg (Kf s₁.heap H) callerA [] s₁ H := ⟨rfl, hM, λb o e => Zg9 e, Nat.le_of_eq (Zaq _ _), trivial, λb hb => absurd (show b ∈ ([] : List ak) from hb) (by simp), hok, .of_eq hg⟩
    refine codeAny_mono ((F _ hKb (nsK hns)).run callerA [] s₁ H ⟨[.ref a], []⟩ [.ref a] [.ref a] _ _ hr e0 (hbind s₁ (.ref a)) (.cons rfl .nil) (hsp H hO hS)) λr s' h => ?_;cases r with
    | error e => exact (hCX H e s' h).elim
    | ok fl =>
      cases fl with
      | next => exact False.elim h
      | brk => exact False.elim h
      | cont => exact False.elim h
      | ret u =>
        obtain ⟨v, H', os, bare, un, hok', r', q⟩ := h;have q' : v = .bl aC := q;subst q';obtain rfl : u = Value.bool aC := r';refine ⟨rfl, OldK.of_keep λb o e => ?_, os, bare⟩;cases q : H b with
        | none => exact un.keep b o e q (by intro z; exact absurd (show b ∈ ([] : List ak) from z) (by simp)) (by simp)
        | some u =>
          rcases hO b with z | ⟨ob, xs, z⟩
          · rw [q] at z; cases z
          · have z2 := un.frzs b ob _ z
            obtain ⟨e1, _⟩ := hok b _ z;obtain ⟨e2, _⟩ := hok' b _ z2;rw [e] at e1; cases e1;exact e2
  cases hk : K.lookup a with
  | some o =>
    -- the script is one of the module's own objects
    have e := KX a o hk;rw [ha] at e;cases e;refine core (λ_ => aB) (λ_ => .inl rfl) (.inr ⟨_, vs.toArray, _, hk, rfl, rfl, rfl, by rw [bi, lenV]; exact hl, by simpa using rv⟩) (λb u z => by have z' : (aB : Option HO) = aA u := z; cases z') (λb z => absurd rfl z) λz => absurd rfl z
  | none =>
    refine core (λb => if b = a then aA (.frz { cls := .type "list", data := .seq vs.toArray } (.lst (ns.map V.int))) else aB) (λb => ?_) (.inl (.inr ⟨{ cls := .type "list", data := .seq vs.toArray }, if_pos rfl⟩)) (λb u z => ?_) (λb z => ?_) λ_ => hk
    · by_cases hb : b = a
      · exact .inr ⟨_, _, if_pos hb⟩
      · exact .inl (if_neg hb)
    · by_cases hb : b = a
      · have z' := (if_pos hb).symm.trans z
        cases z';subst hb;exact ⟨ha, by rw [ao]; exact hl, vs, _, rv, ha⟩
      · have z' := (if_neg hb).symm.trans z
        cases z'
    · by_cases hb : b = a
      · exact hb
      · exact absurd (if_neg hb) z
abbrev KOf{K:af}{h:dq}(_:K.In h):PySem.W.Frag:=K
theorem Zht{l:PySem.W.OpenLaw}{n k:Nat}{q:bu}{loose:List Str}{XP:(Str->Option aj)->dq->Prop}{YP:ck->dq->Prop}{d:DefRec}{K:Params->af}{CX:ck->CXT}{sp:ck->Sp}{x:Str}
  (hn:l.most=aA n) (hn2:n<=sizeLine) (hdf:d.params.defaults=[]) (hr:Room k callerA)
  (hY:∀(w:ck) (h:dq),YP w h->(K w.params).In h)
  (F:∀(w:ck) (mg:Str->Option aj) (fa:ak) (h:dq),(K w.params).In h->h.Ns b6 mg->mg d.name=aA (.ref fa)->
   ∃fd:cx,(∀(s:am) (u:aj),BindsTo s fd ⟨[u],[]⟩ [(x,u)])/\
    ∀base:dq,(K w.params).In base->base.Ns b6 mg->FnOk l.prog w (K w.params) mg base (CX w) k fa fd [x] (sp w))
  (hsp:∀(w:ck) (H:Hp) (a:ak) (ns:List Int),ns.length<=n->Zc8 H->Wp (K w.params) H a (ns.map V.int)->sp w [.ref a] H (λv _=>v= .bl aC) λ_ _ _=>False)
  (hCX:∀(w:ck) (H:Hp) (s:am) (e:aj) (s':am),CX w [] H s (λ_ _ _=>False) e s'->False):
  PySem.W.WalkO q loose XP YP l.row.toRowW d [] (λf vs=>PySem.call f vs):=by
 refine Att.attach_call hn hdf λw s₀ s₁ mg mb fa o pm cd doc a vs ns G Y ho hd hcd hmg hobj hints hlen hg=>?_;have KX:=hY w _ Y;obtain⟨fd,hb,hF⟩:=F w mg fa _ KX G.T.g hmg;exact Zc9 KX G.T.g G.T.b G.T.builtins G.T.nolimit hg hobj hints (d3 hlen hn2) hr hF hb (λH hO hS=>hsp w H a ns hlen hO hS) λH e s'=>hCX w H s₁ e s'
theorem Zda{l:PySem.W.OpenLaw}{n k:Nat}{q:bu}{loose:List Str}{XP:(Str->Option aj)->dq->Prop}{YP:ck->dq->Prop}{d:DefRec}{K:Params->af}{CX:CXT}{sp:af->Sp}{x:Str}
  (hn:l.most=aA n) (hn2:n<=sizeLine) (hdf:d.params.defaults=[]) (hr:Room k callerA)
  (hY:∀(w:ck) (h:dq),YP w h->(K w.params).In h)
  (F:∀(w:ck) (mg:Str->Option aj) (fa:ak) (h:dq),(K w.params).In h->h.Ns b6 mg->mg d.name=aA (.ref fa)->
   ∃fd:cx,(∀(s:am) (u:aj),BindsTo s fd ⟨[u],[]⟩ [(x,u)])/\
    ∀base:dq,(K w.params).In base->base.Ns b6 mg->FnOk l.prog w (K w.params) mg base CX k fa fd [x] (sp (K w.params)))
  (hsp:∀(K:af) (H:Hp) (a:ak) (ns:List Int),ns.length<=n->Zc8 H->Wp K H a (ns.map V.int)->sp K [.ref a] H (λv _=>v= .bl aC) λ_ _ _=>False)
  (hCX:∀(H:Hp) (s:am) (e:aj) (s':am),CX [] H s (λ_ _ _=>False) e s'->False):
  PySem.W.WalkO q loose XP YP l.row.toRowW d [] (λf vs=>PySem.call f vs):=
 Zht (K:=K) (CX:=λ_=>CX) (sp:=λw=>sp (K w.params)) hn hn2 hdf hr hY F (λw H a ns h1 h2 h3=>hsp (K w.params) H a ns h1 h2 h3) λ_ H s e s'=>hCX H s e s'
def Zs9(s:Stmt)(j:Nat):Stmt:=match s with
 | .ClassDef _ _ _ body _ _ _ _ _ _ _=>body.getD j (.Pass ⟨0,0,0,0⟩)
 |_=>.Pass ⟨0,0,0,0⟩
def Oj(s:Stmt):Arguments:=match s with
 | .FunctionDef _ a _ _ _ _ _ _ _ _=>a
 |_=>{posonlyargs:=[],args:=[],vararg:=aB,kwonlyargs:=[],kw_defaults:=[],kwarg:=aB,defaults:=[]}
def Jj(s:Stmt):List Stmt:=match s with
 | .FunctionDef _ _ b _ _ _ _ _ _ _=>b
 |_=>[]
def Zx(s:Stmt):Scope:=match s with
 | .FunctionDef _ _ _ _ _ _ sc _ _ _=>sc
 |_=>{kind:=.function,names:=[],isGenerator:=aD,isCoroutine:=aD}
abbrev Oe:CXT:=λ_ _ _ _ _ _=>False
abbrev E0:XK:=λ_ _ _=>False
theorem Zkc{X:Cx}:S8 Oe X E0:=λ_ _ _ _ _ _ _ h=>h.elim
structure Fun(K:af)(x qual:Str)(st:Stmt)(f:ak)(fd:cx):Prop where
 ex:∃(oc:aj) (od:Option ak) (kV doc pm:aj) (an:Option ak) (cdv ct:aj) (osl:Array (Option aj)),
  fd=PySem.W.fnOf x qual (Oj st) (Jj st) (Zx st) .none kV doc pm an cdv ct/\K.lookup f=aA ⟨oc,od,.func fd,osl⟩/\PySem.W.codeIn K cdv qual=aC
 kp:bq K (.ref f)=aC
section
variable{P:bu}{w:ck}{K:af}{mg:Str->Option aj}{base:dq}
theorem Fun.ok{x qual:Str}{st:Stmt}{f:ak}{fd:cx}{N ps:List Str}{k:Nat}{sp:Sp}(F:Fun K x qual st f fd)(S:FnScope N ps (Zx st))(len:∀vs H Q E,sp vs H Q E->vs.length=ps.length)
  (hbody:∀(cdv:aj) (A:cj) (outer:List Env) (s:am) (H:Hp) (vs:List V) (Q:VK) (E:XK),Room k (A.deeper (envOfC qual (Zx st) s.heap.objs.size f cdv))->sp vs H Q E->
   ∃t,Gs (S9 Oe P w K mg base N qual (Zx st) f cdv A outer s H E).nox (Jj st) t/\t {nx:=λ_ H'=>Q .non H',rt:=Q} (Ba N vs) H):FnOk P w K mg base Oe (k+1) f fd ps sp:=by
 obtain⟨oc,od,kV,doc,pm,an,cdv,ct,osl,rfl,lk,hcd⟩:=F.ex;refine Zpi lk hcd S len λA outer s H vs Q E hr hsp=>?_;obtain⟨t,h,q⟩:=hbody cdv A outer s H vs Q E hr hsp;exact⟨t,h.nox,q⟩
theorem Fun.binds{x qual:Str}{st:Stmt}{f:ak}{fd:cx}{ps:List Str}(F:Fun K x qual st f fd)
  (h:∀(kV doc pm:aj) (an:Option ak) (cdv ct:aj) (us:List aj),us.length=ps.length->bindArgs (PySem.W.fnOf x qual (Oj st) (Jj st) (Zx st) .none kV doc pm an cdv ct) ⟨us,[]⟩=pure (ps.zip us)):Ww K fd ps []:=by
 obtain⟨oc,od,kV,doc,pm,an,cdv,ct,osl,rfl,lk,hcd⟩:=F.ex;exact .all (h kV doc pm an cdv ct)
theorem W4{x qual:Str}{st:Stmt}{f:ak}{oc:aj}{od an:Option ak}{osl:Array (Option aj)}{kV doc pm cdv ct:aj}(l:K.lookup f=aA ⟨oc,od,.func (PySem.W.fnOf x qual (Oj st) (Jj st) (Zx st) .none kV doc pm an cdv ct),osl⟩)
  (c:PySem.W.codeIn K cdv qual=aC) (k:bq K (.ref f)=aC):Fun K x qual st f (PySem.W.fnOf x qual (Oj st) (Jj st) (Zx st) .none kV doc pm an cdv ct):=⟨⟨oc,od,kV,doc,pm,an,cdv,ct,osl,rfl,l,c⟩,k⟩
end
theorem Zps{A:cj}{k:Nat}(hr:Room k A):A.units+1<cLine:=Nat.lt_of_le_of_lt (Nat.add_le_add_left (by decide:1<=64) _) hr.units
def Ze(H H':Hp):Prop:=∀b o,H b=aA o->H' b=aA o
theorem Ze.refl(H:Hp):Ze H H:=λ_ _ h=>h
theorem Ze.trans{H H1 H2:Hp}(a:Ze H H1)(b:Ze H1 H2):Ze H H2:=λc o h=>b c o (a c o h)
theorem Ze.free{H H':Hp}(e:Ze H H'){l:ak}(h:H' l=Option.none):H l=Option.none:=by
 cases q:H l with
 |none=>rfl
 |some o=>rw[e l o q]at h;cases h
theorem PE.imp{X:Cx}{e:ci}{t t':TE}(h:PE X e t)(w:∀σ H Q,t' σ H Q->t σ H Q):PE X e t':=λpins s σ H Q I q=>h pins s σ H Q I (w σ H Q q)
theorem PT.imp{X:Cx}{e:ci}{t t':TT}(h:PT X e t)(w:∀σ H Q,t' σ H Q->t σ H Q):PT X e t':=λpins s σ H Q I q=>h pins s σ H Q I (w σ H Q q)
theorem PW.imp{X:Cx}{e:ci}{t t':TT}(h:PW X e t)(w:∀σ H Q,t' σ H Q->t σ H Q):PW X e t':=λwh pins s σ H Q I q=>h wh pins s σ H Q I (w σ H Q q)
theorem PA.imp{X:Cx}{e:List ci}{t t':TA}(h:PA X e t)(w:∀σ H Q,t' σ H Q->t σ H Q):PA X e t':=λpos pins s σ H Q I q=>h pos pins s σ H Q I (w σ H Q q)
theorem PS.imp{X:Cx}{e:Stmt}{t t':TS}(h:PS X e t)(w:∀D σ H,t' D σ H->t D σ H):PS X e t':=λpins s σ H D I q=>h pins s σ H D I (w D σ H q)
theorem Gs.imp{X:Cx}{e:List Stmt}{t t':TS}(h:Gs X e t)(w:∀D σ H,t' D σ H->t D σ H):Gs X e t':=λpins s σ H D I q=>h pins s σ H D I (w D σ H q)
theorem PG.imp{X:Cx}{e:ci}{t t':TG}(h:PG X e t)(w:∀v σ H Q,t' v σ H Q->t v σ H Q):PG X e t':=λpins s σ H v u Q I r q=>h pins s σ H v u Q I r (w v σ H Q q)
theorem PGs.imp{X:Cx}{e:List ci}{t t':TGs}(h:PGs X e t)(w:∀v σ H Q,t' v σ H Q->t v σ H Q):PGs X e t':=λpins s σ H vs us Q I r q=>h pins s σ H vs us Q I r (w vs σ H Q q)
theorem PI.imp{X:Cx}{tg e:ci}{t t':TI}(h:PI X tg e t)(w:∀σ H R,t' σ H R->t σ H R):PI X tg e t':=λpins s σ H R I q=>h pins s σ H R I (w σ H R q)
def R0(cells:List (Str×ak)):List (Str×NameKind)->List (Str×ak)->List (Str×ak)
 | [],cs=>cs
 | (n,k)::r,cs=>R0 cells r (if k= .free then(n,(cells.lookup n).getD 0)::cs else cs)
theorem C5{env:Env}:∀(names:List (Str×NameKind)) (cs:List (Str×ak)),(∀y∈names,y.2= .free->∃c,env.cells.lookup y.1=aA c)->
    (forIn names cs (λx r=>if(x.2==gw)=aC then do let a<-cellOf env x.1;pure (ForInStep.yield ((x.1,a)::r))else pure (ForInStep.yield r)):Sem (List (Str×ak)))=pure (R0 env.cells names cs)
  | [],cs,_=>by rw[List.forIn_nil];rfl
  | (n,k)::r,cs,h=>by
    rw[List.forIn_cons];by_cases hk:k= .free
    · obtain⟨c,hc⟩:=h (n,k) ah hk
      subst hk;have e1:cellOf env n=pure c:=by unfold cellOf;rw[hc]
      show((if(gw==gw)=aC then(cellOf env n >>=λa=>pure (ForInStep.yield ((n,a)::cs)))else pure (ForInStep.yield cs)) >>=λs=>_)=_;rw[if_pos (show(gw==gw)=aC by decide),e1];show(forIn r ((n,c)::cs) _:Sem (List (Str×ak)))=_;rw[C5 r _ λy hy=>h y (ar _ hy)];show _=pure (R0 env.cells r (if gw=gw then(n,(env.cells.lookup n).getD 0)::cs else cs));rw[if_pos rfl,hc];rfl
    · have hb:(k==gw)=aD:=by simpa using hk
      show((if(k==gw)=aC then(cellOf env n >>=λa=>pure (ForInStep.yield ((n,a)::cs)))else pure (ForInStep.yield cs)) >>=λs=>_)=_;rw[hb,if_neg bh];show(forIn r cs _:Sem (List (Str×ak)))=_;rw[C5 r _ λy hy=>h y (ar _ hy)];show _=pure (R0 env.cells r (if k=gw then _ else cs));rw[if_neg hk]
theorem Cs{scope:Scope}{env:Env}(h:∀y∈scope.names,y.2= .free->∃c,env.cells.lookup y.1=aA c):closureFor scope env=pure (R0 env.cells scope.names []):=by simp only[closureFor];rw[C5 scope.names [] h];rfl
theorem Nw{cells:List (Str×ak)}{x:Str}{c:ak}:∀{names:List (Str×NameKind)} {cs:List (Str×ak)},(∀y∈names,y.2= .free->∃c,cells.lookup y.1=aA c)->
    (cs.lookup x=aA c->cells.lookup x=aA c)->(R0 cells names cs).lookup x=aA c->cells.lookup x=aA c
  | [],_,_,h0,e=>h0 e
  | (n,k)::r,cs,h,h0,e=>by
    refine Nw (names:=r) (λy hy=>h y (ar _ hy)) ?_ e;intro e';by_cases hk:k= .free
    · rw[if_pos hk]at e'
      obtain⟨c',hc⟩:=h (n,k) ah hk;rw[hc]at e';by_cases hx:x==n
      · simp only[gz,hx]at e'
        cases e';have:x=n:=by simpa using hx
        rw[this];exact hc
      · have hx':(x==n)=aD:=by simpa using hx
        simp only[gz,hx']at e';exact h0 e'
    · rw[if_neg hk]at e';exact h0 e'
theorem Il{cells:List (Str×ak)}{x:Str}:∀{names:List (Str×NameKind)} {cs:List (Str×ak)},(∃c,cs.lookup x=aA c)->∃c,(R0 cells names cs).lookup x=aA c
  | [],_,h=>h
  | (n,k)::r,cs,⟨c,h⟩=>by
    refine Il (names:=r) ?_;by_cases hk:k= .free
    · rw[if_pos hk]
      by_cases hx:x==n
      · exact⟨(cells.lookup n).getD 0,by simp only[gz,hx]⟩
      · have hx':(x==n)=aD:=by simpa using hx
        exact⟨c,by simp only[gz,hx'];exact h⟩
    · rw[if_neg hk];exact⟨c,h⟩
theorem Gx{cells:List (Str×ak)}{x:Str}:∀{names:List (Str×NameKind)} {cs:List (Str×ak)},(x,gw)∈names->∃c,(R0 cells names cs).lookup x=aA c
  | [],_,h=>nomatch h
  | (n,k)::r,cs,h=>by
    rcases bo.mp h with e|e
    · cases e
      refine Il (names:=r) ⟨(cells.lookup x).getD 0,?_⟩;rw[if_pos rfl];simp[gz]
    · exact Gx (names:=r) e
def rlF(env:Env):Str×NameKind->Str×NameKind:=λ(n,k)=>if(k==gw&&env.scope.kind== .function&&env.kindOf n==aA .cell)then(n,NameKind.cell)else(n,k)
theorem Kw(env:Env)(p:Str×NameKind):(rlF env p).1=p.1:=by obtain⟨n,k⟩:=p;unfold rlF;dsimp only;split<;> rfl
theorem Um{f:Str×NameKind->Str×NameKind}(h:∀p,(f p).1=p.1)(x:Str):∀names:List (Str×NameKind),(names.map f).lookup x=(names.lookup x).map λk=>(f (x,k)).2
  | []=>rfl
  | (n,k)::r=>by
    have ih:=Um h x r;have e:f (n,k)=(n,(f (n,k)).2):=Prod.ext (h (n,k)) rfl;rw[av,e,gz,gz];cases hx:x==n with
    |true=>
      have:x=n:=by simpa using hx
      subst this;rfl
    |false=>exact ih
theorem Tr{x:Str}{k:NameKind}:∀{names:List (Str×NameKind)},names.lookup x=aA k->(x,k)∈names
  | [],h=>by simp at h
  | (n,k')::r,h=>by
    rw[gz]at h;cases hx:x==n with
    |true=>
      rw[hx]at h;have:x=n:=by simpa using hx
      subst this;cases h;exact ah
    |false=>rw[hx]at h;exact ar _ (Tr h)
theorem Ol{env:Env}{names:List (Str×NameKind)}{x:Str}{kk:NameKind}(hn:∀y∈names,y.2≠.cell)(hk:kk= .cell\/kk= .free)(h:(names.map (rlF env)).lookup x=aA kk):(x,gw)∈names:=by
 rw[Um (Kw env)]at h;obtain⟨k,h1,h2⟩:=cm.mp h;have hm:=Tr h1;have hc:k≠.cell:=hn _ hm;by_cases hf:k= .free
 ·subst hf;exact hm
 ·exfalso;have hb:(k==gw)=aD:=by simpa using hf
  unfold rlF at h2;simp only[hb,Bool.false_and,bg,if_false]at h2;rcases hk with e|e
  ·exact hc (h2.trans e)
  ·exact hf (h2.trans e)
inductive BSrc where
 |own|cap (j:Nat)|acc
def Zke(σ:St)(acc:ak):BSrc->Option V
 | .own=>aB
 | .cap j=>(σ[j]?).join
 | .acc=>aA (.ref acc)
def Sv(src:List BSrc)(σ:St)(acc:ak):St:=src.map (Zke σ acc)
abbrev Cx.block(X:Cx)(N':List Str)(scope:Scope)(C:ak)(s₀:am)(H₀:Hp)(ex:List ak):Cx:=
 {X with N:=N',env:=compEnvC scope (R0 X.env.cells scope.names []) C X.env,s₀:=s₀,H₀:=H₀,outer:=X.stack,stack:=X.stack,ex:=ex,fn:=λ_=>aD,pn:=[],xe:=λ_ _=>False}
structure CompScope(X:Cx)(N':List Str)(scope:Scope)(src:List BSrc):Prop where
 kind:scope.kind= .function
 nocell:∀y∈scope.names,y.2≠.cell
 names:∀y∈scope.names,y.2= .local->scope.names.lookup y.1=aA .local
 free:∀y∈scope.names,y.2= .free->X.env.kindOf y.1=aA .cell\/X.env.kindOf y.1=aA .free
 len:src.length=N'.length
 cap:∀(k j:Nat) (x:Str),src[k]? =aA (.cap j)->N'[k]? =aA x->X.N[j]? =aA x/\(X.env.kindOf x=aA .cell\/X.env.kindOf x=aA .free)/\scope.names.lookup x=aA .free
 acc:∀(k:Nat) (x:Str),src[k]? =aA .acc->N'[k]? =aA x->scope.names.lookup x=aB
theorem Ck{env:Env}{names:List (Str×NameKind)}{x:Str}(h:names.lookup x=aB):(names.map (rlF env)).lookup x=aB:=by rw[Um (Kw env),h];rfl
theorem Cl{env:Env}{names:List (Str×NameKind)}{x:Str}(h:names.lookup x=aA .free):(names.map (rlF env)).lookup x=aA .cell\/(names.map (rlF env)).lookup x=aA .free:=by
 rw[Um (Kw env),h];unfold rlF;dsimp only[Option.map];split
 ·exact .inl rfl
 ·exact .inr rfl
section
variable{X:Cx}{N':List Str}{scope:Scope}{src:List BSrc}{pins:List (ak×Obj)}{σ:St}{H:Hp}{s:am}{C acc:ak}{fp:List ak}
theorem Nx{h1:dq}{tk:Nat}(S:CompScope X N' scope src)(I:Inv X pins σ H s)(hC:C=s.heap.objs.size)(hf:∀b∈fp,Jb X pins H b)(hfo:∀b∈fp,∃o,s.heap.get? b=aA o)
  (hns:h1.Ns C λ_=>aB) (hk:∀b o,s.heap.get? b=aA o->h1.get? b=aA o):
  Inv (X.block N' scope C s H fp) [] (Sv src σ acc) H {s with heap:=h1,toks:=tk}:=by
 have cellf:∀y∈scope.names,y.2= .free->∃c,X.env.cells.lookup y.1=aA c:=λy hy e=>I.ok.has y.1 (S.free y hy e);have sub:∀x c,(R0 X.env.cells scope.names []).lookup x=aA c->X.env.cells.lookup x=aA c:=λx c e=>Nw cellf (λh=>by simp at h) e;have gt:∀b,b<s.heap.objs.size->b≠C:=λb hb e=>by rw[e,hC]at hb;exact gv _ hb
 refine⟨⟨I.ok.mod,S.kind,I.ok.glob,I.ok.blt,by rw[hC];exact a8 _,λx y c h1 h2=>I.ok.inj x y c (sub x c h1) (sub y c h2),λx hx=>?_,λx c h=>absurd h bh,I.ok.hd,I.ok.frames,.inl rfl,λb hb=>?_,I.bs,
  d3 I.ok.bsz I.sz,λb o e hb=>?_,λb hb hs=>?_,I.stack,I.stkFree⟩,rfl,I.bare,Un.kept hk,⟨_,hns,λi x v e1 e2 e3=>?_⟩,λx c e=>?_,?_,λx c e=>I.freeC x c (sub x c e),λp hp=>?_,I.hok.kept hk,?_⟩
 ·rcases hx with hx|hx
  ·exact Gx (Ol S.nocell (.inl rfl) hx)
  ·exact Gx (Ol S.nocell (.inr rfl) hx)
 ·obtain⟨f0,f1,f2,f3,f4,f5⟩:=hf b hb;refine⟨?_,λx c e=>f4 x c (sub x c e)⟩;show b≠C;obtain⟨o,ho⟩:=hfo b hb;exact gt b (bc ho)
 ·obtain⟨f0,f1,f2,f3,f4,f5⟩:=hf b hb;rcases f3 with z|z
  ·exact I.ok.noex b o e z
  ·exact absurd (cu (bc e) (d3 I.ok.bsz z)) (gv _)
 ·obtain⟨f0,f1,f2,f3,f4,f5⟩:=hf b hb;rcases bo.mp (I.stkSub b hs)with z|z
  ·exact f1 z
  ·exact f2 z
 ·have hsrc:∃q,src[i]? =aA q:=by
   cases q:src[i]? with
   |some q0=>exact⟨q0,rfl⟩
   |none=>have e2':(Sv src σ acc)[i]? =aA (aA v):=e2;unfold Sv at e2';rw[bf,q]at e2';cases e2'
  obtain⟨q,hq⟩:=hsrc;have e2':(Sv src σ acc)[i]? =aA (aA v):=e2;unfold Sv at e2';rw[bf,hq]at e2';have e2'':Zke σ acc q=aA v:=dm.inj e2';cases q with
  |own=>cases e2''
  |acc=>
   exfalso;have hno:=Ck (env:=X.env) (S.acc i x hq e1);have hno':(relabel scope X.env).names.lookup x=aB:=hno;have e3':Sy (relabel scope X.env) x:=e3;rcases e3' with z|z|z
   ·rw[hno']at z;cases z
   ·rw[hno']at z;cases z
   ·rw[hno']at z;cases z
  |cap j=>
   obtain⟨hj,hkind,hfr⟩:=S.cap i j x hq e1;have hσ:σ[j]? =aA (aA v):=by
    have e4:(σ[j]?).join=aA v:=e2'';cases r:σ[j]? with
    |none=>rw[r]at e4;cases e4
    |some o=>rw[r]at e4;cases o with
     |none=>cases e4
     |some w'=>cases e4;rfl
   obtain⟨m,hn,hl⟩:=I.loc;obtain⟨u,ru,l⟩:=hl j x v hj hσ (by rcases hkind with z|z;exact .inr (.inl z);exact .inr (.inr z));refine⟨u,ru,?_⟩;rcases l with⟨z,_⟩|⟨_,c,hc,hcell⟩
   ·rcases hkind with y|y
    ·rw[y]at z;cases z
    ·rw[y]at z;cases z
   ·have e3':Sy (relabel scope X.env) x:=e3;have fin:∀kk,kk= .cell\/kk= .free->(relabel scope X.env).names.lookup x=aA kk->Zo3 (X.block N' scope C s H fp).env h1 (λ_=>aB) x u:=λkk hkk hx=>by
     obtain⟨c',hc'⟩:=Gx (cells:=X.env.cells) (cs:=[]) (Ol S.nocell hkk hx);have:=sub x c' hc';rw[hc]at this;cases this;obtain⟨oc,hoc,hocd⟩:=hcell;refine .inr ⟨?_,c,hc',oc,hk c oc hoc,hocd⟩;rcases hkk with y|y
     ·subst y;exact .inl hx
     ·subst y;exact .inr hx
    rcases e3' with z|z|z
    ·exfalso;have z':(relabel scope X.env).names.lookup x=aA .local:=z;rcases Cl (env:=X.env) hfr with y|y
     ·have y':(relabel scope X.env).names.lookup x=aA .cell:=y;rw[z']at y';cases y'
     ·have y':(relabel scope X.env).names.lookup x=aA .free:=y;rw[z']at y';cases y'
    ·exact fin .cell (.inl rfl) z
    ·exact fin .free (.inr rfl) z
 ·obtain⟨v,oc,hoc,hocd⟩:=I.cell x c (sub x c e);exact⟨v,oc,hk c oc hoc,hocd⟩
 ·show H C=aB;rw[hC];exact I.hok.fresh (a8 _)
 ·have hp':p∈([]:List (ak×Obj)):=by simpa using hp
  exact nomatch hp'
 ·show(Sv src σ acc).length=N'.length;unfold Sv;rw[ao];exact S.len
def Zdb(src:List BSrc)(wi:TI)(g:TG)(tt:TT)(te:TE):TE:=λσ H Q=>wi σ H λJ H1=>∀acc,H1 acc=aB->
 ∃W:Nat->Nat->St->Hp->Prop,(∃m,W 0 m (Sv src σ acc) (Z5 H1 acc (.lst [])))/\∀i m σ' H,W i m σ' H->(J.stop i H/\Q (.ref acc) H)\/
  (J.go i H/\∀x H',J.yld i H x H'->g x σ' H' λσ2 H2=>tt σ2 H2 λb H3=>if b=aC then te σ2 H3 λy H4=>Qy (.ref acc) [y] H4 λ_ H5=>∃m',m'<m/\W (i+1) m' σ2 H5 else∃m',m'<m/\W (i+1) m' σ2 H3)
def PTs(X:Cx)(ifs:List ci)(t:TT):Prop:=
 ∀(pins:List (ak×Obj)) (s:am) (σ:St) (H:Hp) (Q:Bool->Hp->Prop),Inv X pins σ H s->t σ H Q->
  ba (bp X.prog X.w) X.A (forIn ifs aC λc r=>if r=aC then do let ok<-isTrue c X.env (f8 c X.env);pure (ForInStep.yield ok)else pure (ForInStep.yield r)) (TP X pins σ Q) X.xe s
def Zpt:TT:=λ_ H Q=>Q aC H
theorem Zhv:PTs X [] Zpt:=λ_ s σ H Q I h=>wpAny_tests_nil ⟨H,I,h⟩
theorem Zhw{c:ci}{t:TT}(h:PT X c t):PTs X [c] t:=λpins s σ H Q I q=>wpAny_tests_one (h pins s σ H Q I q)
theorem Za4{prog:bu}{w:ck}{A:cj}{s:am}{elt target iter:ci}{ifs:List ci}{scope:Scope}{pos:Pos}{it acc:aj}{env:Env}{R:Result->am->Prop}(I:Nat->am->Prop)
  (turn:∀n s,I n s->ba (bp prog w) A (pyNext it) (λr s₁=>match r with
   |none=>R (.ok .next) s₁
   |some v=>ba (bp prog w) A (letOwnedTupleGo target it v) (λ_ s₀=>ba (bp prog w) A (assign target env v) (λ_ s₂=>
     ba (bp prog w) A (forIn ifs aC λc r=>if r=aC then do let ok<-isTrue c env (f8 c env);pure (ForInStep.yield ok)else pure (ForInStep.yield r)) (λok s₃=>if ok=aC then ba (bp prog w) A (f8 elt env) (λx s₄=>
      ba (bp prog w) A (call (.builtin "list.append") [acc,x]) (λ_ s₅=>∃m,m<n/\I m s₅) (λ_ _=>False) s₄) (λ_ _=>False) s₃
      else∃m,m<n/\I m s₃) (λ_ _=>False) s₂)
     (λ_ _=>False) s₀) (λ_ _=>False) s₁) (λ_ _=>False) s)
  (n:Nat) (h:I n s):codeAny (bp prog w) A (.compLoop (.ListComp elt [⟨target,iter,ifs,0⟩] scope pos) 0 it acc env) R s:=by
 refine codeAny_loop rfl I (λn s hI=>?_) n h;show ba _ A ((compTurn (.ListComp elt [⟨target,iter,ifs,0⟩] scope pos) 0 it acc env).onRaise (λx=>do noteFrame x env;theTreesLotGoes x)) _ _ s;refine wpAny_noted ?_;rw[compTurn_list];refine ad (wpAny_standAt (ad (wpAny_mono (turn n s hI) (λr s₁ h₁=>?_) λ_ _ f=>f.elim)));cases r with
 |none=>exact ag h₁
 |some v=>
  refine ad (wpAny_mono h₁ (λ_ s₀ h₀'=>?_) λ_ _ f=>f.elim);refine ad (wpAny_mono h₀' (λ_ s₂ h₂=>?_) λ_ _ f=>f.elim);refine ad (wpAny_mono h₂ (λokb s₃ h₃=>?_) λ_ _ f=>f.elim);cases okb with
  |false=>exact ag ⟨rfl,h₃⟩
  |true=>exact ad (ad (wpAny_mono h₃ (λx s₄ h₄=>ad (wpAny_mono h₄ (λ_ s₅ h₅=>ag (ag ⟨rfl,h₅⟩)) λ_ _ f=>f.elim)) λ_ _ f=>f.elim))
theorem Ts{tg elt iter:ci}{ifs:List ci}{pos:Pos}{g:TG}{tt:TT}{te:TE}{it:ak}{tn:Nat->dq->Prop}{J:It}{Q:VK}{RR:aj->ak->Result->am->Prop}{E:aj->am->Prop}
  (hc:X.calm=aC) (S:CompScope X N' scope src)
  (hg:∀(C:ak) (s₀:am) (H₀:Hp) (ex:List ak),PG (X.block N' scope C s₀ H₀ ex) tg g)
  (ht:∀(C:ak) (s₀:am) (H₀:Hp) (ex:List ak),PTs (X.block N' scope C s₀ H₀ ex) ifs tt)
  (he:∀(C:ak) (s₀:am) (H₀:Hp) (ex:List ak),PE (X.block N' scope C s₀ H₀ ex) elt te)
  (I:Inv X pins σ H s) (T:Turn X.prog X.w X.K tg J fp it tn) (st:tn 0 s.heap) (hf:∀b∈fp,Jb X pins H b)
  (q:∀acc,H acc=aB->∃W:Nat->Nat->St->Hp->Prop,(∃m,W 0 m (Sv src σ acc) (Z5 H acc (.lst [])))/\∀i m σ' H,W i m σ' H->(J.stop i H/\Q (.ref acc) H)\/
   (J.go i H/\∀x H',J.yld i H x H'->g x σ' H' λσ2 H2=>tt σ2 H2 λb H3=>if b=aC then te σ2 H3 λy H4=>Qy (.ref acc) [y] H4 λ_ H5=>∃m',m'<m/\W (i+1) m' σ2 H5 else∃m',m'<m/\W (i+1) m' σ2 H3))
  (hRR:∀(acc C:ak) (s':am) (H':Hp) (m:Str->Option aj),Inv X pins σ H' s'->Q (.ref acc) H'->s'.heap.Ns C m->H' C=aB->C≠X.env.locals->X.s₀.heap.objs.size<=C->(∀x c,X.env.cells.lookup x=aA c->c≠C)->(∀p∈X.pn++pins,p.1≠C)->
   RR (.ref acc) C (.ok .next) s'):
  ba (bp X.prog X.w) X.A (newList []) (λacc s₃=>ba (bp X.prog X.w) X.A (newFunctionEnv scope X.env.globals (R0 X.env.cells scope.names []) [] X.env.qual aB .none (aA X.env)) (λcenv s₄=>
   codeAny (bp X.prog X.w) X.A (.compStart (.ListComp elt [⟨tg,iter,ifs,0⟩] scope pos) 0 (.ref it) acc {cenv with scope:=relabel scope X.env}) (RR acc cenv.locals) s₄) E s₃) E s:=by
 have hfo:∀b∈fp,∃o,s.heap.get? b=aA o:=λb hb=>let⟨o,e,_⟩:=T.obj 0 _ st b hb;⟨o,e⟩
 refine dv (wpAny_newFunctionEnv S.nocell (by intro y hy;simp at hy) (λh₁ hns₁ hsb₁=>?_) S.kind);dsimp only at hns₁ hsb₁⊢;have hacc:H s.heap.objs.size=aB:=I.hok.fresh (a8 _);have I3:Inv X pins σ (Z5 H s.heap.objs.size (.lst [])) {s with heap:=s.heap.push {cls:=.type "list",dict:=aB,data:=.seq ([]:List aj).toArray}}:=I.lnew (t':=s.toks) (its:=[]) (ys:=[]) .nil (dn _);have hf3:∀b∈fp,Jb X pins (Z5 H s.heap.objs.size (.lst [])) b:=λb hb=>by obtain⟨f0,f⟩:=hf b hb;obtain⟨o,ho⟩:=hfo b hb;exact⟨by rw[Zn (b4 (bc ho))];exact f0,f⟩
 have hfo3:∀b∈fp,∃o,(s.heap.push {cls:=.type "list",dict:=aB,data:=.seq ([]:List aj).toArray}).get? b=aA o:=λb hb=>let⟨o,e⟩:=hfo b hb;⟨o,aq _ e⟩
 obtain⟨W,⟨m0,w0⟩,turn⟩:=q _ hacc;generalize hH2:s.heap.push {cls:=.type "list",dict:=aB,data:=.seq ([]:List aj).toArray}=H2 at hns₁ hsb₁ I3 hfo3⊢;have keep:∀b o,H2.get? b=aA o->h₁.get? b=aA o:=λb o e=>hsb₁.extBut b o (b4 (bc e)) (aq _ e);have J0:=Nx (N':=N') (scope:=scope) (src:=src) (acc:=s.heap.objs.size) (tk:=s.toks+([]:List (Str×aj)).length) (C:=H2.objs.size) S I3 rfl hf3 hfo3 (show h₁.Ns H2.objs.size (λ_=>aB)from hns₁) keep;have st1:tn 0 h₁:=T.keep 0 s.heap h₁ st λb hb o e=>keep b o (by rw[<-hH2];exact aq _ e);have cne:H2.objs.size≠X.env.locals:=Nat.ne_of_gt I3.lt;have csz:X.s₀.heap.objs.size<=H2.objs.size:=I3.sz;have ccell:∀x c,X.env.cells.lookup x=aA c->c≠H2.objs.size:=λx c e z=>by obtain⟨v,oc,hoc,_⟩:=I3.cell x c e;exact absurd (bc hoc) (by rw[z];exact gv _)
 have cpin:∀p∈X.pn++pins,p.1≠H2.objs.size:=λp hp z=>absurd (bc (I3.pin p hp).1) (by rw[z];exact gv _);have loop:∀s₃:am,s₃={s with heap:=h₁,toks:=s.toks+([]:List (Str×aj)).length}->
   codeAny (bp X.prog X.w) X.A (.compLoop (.ListComp elt [⟨tg,iter,ifs,0⟩] scope pos) 0 (.ref it) (.ref s.heap.objs.size) (compEnvC scope (R0 X.env.cells scope.names []) H2.objs.size X.env)) (RR (.ref s.heap.objs.size) H2.objs.size) s₃:=by
  rintro s₃ rfl;refine Za4 (λn s'=>∃i σ' H',Inv (X.block N' scope H2.objs.size {s with heap:=H2} (Z5 H s.heap.objs.size (.lst [])) fp) [] σ' H' s'/\tn i s'.heap/\(∀b∈fp,H' b=aB)/\W i n σ' H') ?_ m0 ⟨0,_,_,J0,st1,λb hb=>(hf3 b hb).1,w0⟩;rintro n s4 ⟨i,σ4,H4,J4,st4,fr4,w4⟩;have fok:∀{H':Hp},(∀b∈fp,H' b=aB)->∀b∈fp,Jb (X.block N' scope H2.objs.size {s with heap:=H2} (Z5 H s.heap.objs.size (.lst [])) fp) [] H' b:=fun{H'} hn b hb=>by
   obtain⟨f0,f1,f2,f3,f4,f5⟩:=hf3 b hb;refine⟨hn b hb,?_,λz=>J4.ok.exfs b hb z,.inl hb,λx c e=>(J4.ok.exf b hb).2 x c e,λp hp=>?_⟩
   ·exact(J4.ok.exf b hb).1
   ·have hp':p∈([]:List (ak×Obj)):=by simpa using hp
    exact nomatch hp'
  rcases turn i n σ4 H4 w4 with⟨stop,qn⟩|⟨go,step⟩
  ·refine Wo (T.done (X.block N' scope H2.objs.size {s with heap:=H2} (Z5 H s.heap.objs.size (.lst [])) fp) rfl rfl rfl hc i [] s4 σ4 H4 _ J4 (fok fr4) st4 stop) λr s5 ⟨hr,J5⟩=>?_;subst hr;obtain⟨m5,hn5,_⟩:=J5.loc;have I5:Inv X pins σ H4 s5:=I3.call' (ch:=fp) J5.os J5.base J5.hok J5.bare λb hb=>by obtain⟨f0,f1,f2,f3,f4,f5⟩:=hf3 b hb;exact⟨f3,f1,f4,f5⟩
   exact hRR _ _ s5 H4 m5 I5 qn hn5 J5.free cne csz ccell cpin
  ·refine Wo (T.item (X.block N' scope H2.objs.size {s with heap:=H2} (Z5 H s.heap.objs.size (.lst [])) fp) rfl rfl rfl hc i [] s4 σ4 H4 _ J4 (fok fr4) st4 go) λr s5 ⟨u,hr,h5⟩=>?_;subst hr;refine Wo h5 λ_ s6 zq9=>?_;obtain⟨x,H6,J6,r6,y6,st6,fr6⟩:=zq9;have J6':=J6.pinned (fok fr6) (T.obj _ _ st6);have again:∀{σ7:St} {H7:Hp} {s7:am},Inv (X.block N' scope H2.objs.size {s with heap:=H2} (Z5 H s.heap.objs.size (.lst [])) fp) ([]++Tn fp s6.heap) σ7 H7 s7->(∃m',m'<n/\W (i+1) m' σ7 H7)->
     ∃m,m<n/\∃i σ' H',Inv (X.block N' scope H2.objs.size {s with heap:=H2} (Z5 H s.heap.objs.size (.lst [])) fp) [] σ' H' s7/\tn i s7.heap/\(∀b∈fp,H' b=aB)/\W i m σ' H':=fun{σ7 H7 s7} J7 ⟨m',hm,w7⟩=>by
    refine⟨m',hm,i+1,σ7,H7,J7.unpinned,T.keep _ _ _ st6 λb hb o e=>(J7.pin (b,o) (c6 _ (c6 _ (Oh hb e)))).1,λb hb=>?_,w7⟩;obtain⟨o,e,d⟩:=T.obj _ _ st6 b hb;exact(J7.pin (b,o) (c6 _ (c6 _ (Oh hb e)))).2.1
   refine Wo (hg _ _ _ _ _ s6 σ4 H6 x u _ J6' r6 (step x H6 y6)) λ_ s7 zq9=>?_;obtain⟨σ7,H7,J7,q7⟩:=zq9;refine Wo (ht _ _ _ _ _ s7 σ7 H7 _ J7 q7) λb s8 zq9=>?_;obtain⟨H8,J8,q8⟩:=zq9;cases b with
   |false=>rw[if_neg bh]at q8⊢;exact again J8 q8
   |true=>rw[if_pos rfl]at q8⊢;refine Wo (he _ _ _ _ _ s8 σ7 H8 _ J8 q8) λy s9 zq9=>?_;obtain⟨vy,H9,J9,r9,q9⟩:=zq9;refine Wo (Cc _ s9 σ7 H9 (.ref s.heap.objs.size) [vy] (.ref s.heap.objs.size) [y] _ J9 rfl (.cons r9 .nil) q9) λ_ s10 ⟨_,H10,J10,_,q10⟩=>again J10 q10
 exact codeAny_compStart_list (loop _ rfl) (T.self X.A 0 _ _ _ st1 (loop _ rfl))
theorem Zhx{tg elt iter:ci}{ifs:List ci}{pos:Pos}{wi:TI}{g:TG}{tt:TT}{te:TE}(hc:X.calm=aC)(S:CompScope X N' scope src)(hi:PI X tg iter wi)
  (hg:∀(C:ak) (s₀:am) (H₀:Hp) (ex:List ak),PG (X.block N' scope C s₀ H₀ ex) tg g)
  (ht:∀(C:ak) (s₀:am) (H₀:Hp) (ex:List ak),PTs (X.block N' scope C s₀ H₀ ex) ifs tt)
  (he:∀(C:ak) (s₀:am) (H₀:Hp) (ex:List ak),PE (X.block N' scope C s₀ H₀ ex) elt te)
  (hs:∀x,foldedSetIterable iter X.env x=pure x:=by intro _;rfl):PE X (.ListComp elt [⟨tg,iter,ifs,0⟩] scope pos) (Zdb src wi g tt te):=by
 intro pins s σ H Q I h;rw[eval_ListComp];refine wpAny_comprehension_free (use:=aB) rfl hs (Cs λy hy e=>I.ok.has y.1 (S.free y hy e)) S.kind S.names (Wo (hi pins s σ H _ I h) λv s1 h1=>Wo h1 λitv s2 h2=>?_);obtain⟨it,fp,tn,J,H2,e,I2,T,st2,f2,q⟩:=h2;subst e;refine Ts hc S hg ht he I2 T st2 f2 q λacc C s' H' m I' q' hn hC c1 c2 c3 c4=>⟨m,hn,λh' hs'=>?_⟩
 exact⟨.ref acc,H',I'.turned (t':=s'.toks) (λb o hb e=>(hs'.2 b hb).trans e) hC c1 (.inr c2) c3 c4,rfl,q'⟩
theorem Ve{tg elt iter:ci}{ifs:List ci}{pos spos py:Pos}{wi:TI}{g:TG}{tt:TT}{te:TE}{i:Nat}{y:Str}(hc:X.calm=aC)(S:CompScope X N' scope src)(hi:PI X tg iter wi)
  (hg:∀(C:ak) (s₀:am) (H₀:Hp) (ex:List ak),PG (X.block N' scope C s₀ H₀ ex) tg g)
  (ht:∀(C:ak) (s₀:am) (H₀:Hp) (ex:List ak),PTs (X.block N' scope C s₀ H₀ ex) ifs tt)
  (he:∀(C:ak) (s₀:am) (H₀:Hp) (ex:List ak),PE (X.block N' scope C s₀ H₀ ex) elt te)
  (hN:X.N.Nodup) (hiy:X.N[i]? =aA y) (hx:X.env.scope.names.lookup y=aA .local)
  (hsw:swapsWith (.ListComp elt [⟨tg,iter,ifs,0⟩] scope pos) (aA (.Name y py)) spos.line X.env=pure aC)
  (hs:∀x,foldedSetIterable iter X.env x=pure x:=by intro _;rfl):PS X (.Assign [.Name y py] (.ListComp elt [⟨tg,iter,ifs,0⟩] scope pos) spos) (Kh (Zdb src wi g tt te) (Ul i)):=by
 intro pins s σ H D I h;rw[exec_Assign_Name_used _ _ _ _ hsw];refine ad (wpAny_standAt (ad ?_));show ba _ X.A (do let _<-comprehension (.ListComp elt [⟨tg,iter,ifs,0⟩] scope pos) scope X.env _ (newList []) aD (f8 iter X.env) (aA (assign (.Name y py) X.env))) _ _ s;refine ad (wpAny_mono (wpAny_comprehension_free (use:=aA (assign (.Name y py) X.env)) (Q:=λ_ s'=>SP X pins D .next s') rfl hs (Cs λy hy e=>I.ok.has y.1 (S.free y hy e)) S.kind S.names
  (Wo (hi pins s σ H _ I h) λv s1 h1=>Wo h1 λitv s2 h2=>?_)) (λ_ s' hq=>ag (ag hq)) λ_ _ e=>e)
 obtain⟨it,fp,tn,J,H2,e,I2,T,st2,f2,q⟩:=h2;subst e;refine Ts (Q:=λx H1=>Ul i x σ H1 D.nx) hc S hg ht he I2 T st2 f2 q λacc C s' H' m I' q' hn hC c1 c2 c3 c4=>?_;refine wpAny_assign_Name (E8 I' hN hiy (.inl hx) (v:=.ref acc) (u:=.ref acc) rfl (λs'' I'' ⟨a,hsb,ha⟩=>?_) (.inr hx));have hCa:C≠a:=by
  rcases ha with z|z
  ·rw[z];exact c1
  ·exact Ne.symm (c3 _ _ z)
 refine⟨m,hn.sameBut hsb hCa,λh' hs'=>?_⟩;exact⟨_,H',I''.turned (t':=s''.toks) (λb o hb e=>(hs'.2 b hb).trans e) hC c1 (.inr c2) c3 c4,q'⟩
end
def without(h:dq)(xs:List ak):Heap:={objs:=(Array.range h.objs.size).map λa=>if a∈xs then{cls:=.none,data:=.freed}else(h.objs[a]?).getD {cls:=.none,data:=.freed}}
structure Raised(h:dq)(e:ak)(cls:aj)(dx tb:Option ak):Prop where
 obj:∃oe vs,h.get? e=aA oe/\oe.cls=cls/\oe.dict=dx/\oe.data= .fields vs/\vs[1]? =aA (match tb with|none=>.none|some T=>.ref T)
 tr:∀T,tb=aA T->T≠e/\∃oT ts fl,h.get? T=aA oT/\oT.data= .fields ts/\ts[3]? =aA fl
def Zup:Option ak->List ak
 |none=>[]
 |some T=>[T]
structure Noted(l:List ak)(h h':dq)(e:ak)(cls:aj)(dx tb:Option ak)(T:ak):Prop where
 keep:∀b o,b≠e->b∉Zup tb->b∉l->h.get? b=aA o->h'.get? b=aA o
 slot:∀b o,b∈l->h.get? b=aA o->∃sl,h'.get? b=aA {o with slots:=sl}
 new:h.get? T=aB\/aA T=tb
 r:Raised h' e cls dx (aA T)
def CX1(P:bu)(w:ck):CXT:=λouter H s E e s'=>∃(a:ak) (cls:aj) (dx:Option ak) (T:ak) (H':Hp),e= .ref a/\s'.os=s.os/\AllBare s'.gens/\Un (frs outer) [] H H' s.heap s'.heap/\Cq P w H' s'.heap/\
 Raised s'.heap a cls dx (aA T)/\s.heap.get? a=aB/\s.heap.get? T=aB/\H' a=aB/\H' T=aB/\E cls dx H'
def Zuq(X:Cx)(EX:XK):Prop:=∀(pins:List (ak×Obj)) (σ:St) (H:Hp) (s:am) (e:ak) (cls:aj) (dx tb:Option ak),Inv X pins σ H s->Raised s.heap e cls dx tb->X.s₀.heap.get? e=aB->H e=aB->
 (∀T,tb=aA T->X.s₀.heap.get? T=aB/\H T=aB)->EX cls dx H->X.xe (.ref e) s
abbrev VEB:List Value:=[.type "ValueError",.type "Exception",.type "BaseException",.type "object"]
def Zus(EX:XK)(C:ak)(t:TA):TS:=λ_ σ H=>t σ H λvs H1=>vs.length<=sizeLine/\EX (.ref C) aB H1
abbrev EXT:=aj->Option ak->St->Hp->Prop
def Zta(X:Cx)(EX:EXT):Prop:=∀(pins:List (ak×Obj)) (σ:St) (H:Hp) (s:am) (e:ak) (cls:aj) (dx:Option ak) (T:ak),Inv X pins σ H s->Raised s.heap e cls dx (aA T)->X.s₀.heap.get? e=aB->H e=aB->
 X.s₀.heap.get? T=aB->H T=aB->(∀p∈X.pn++pins,p.1≠e/\p.1≠T)->(e≠X.env.locals/\T≠X.env.locals)->(∀x c,X.env.cells.lookup x=aA c->c≠e/\c≠T)->EX cls dx σ H->X.xe (.ref e) s
def Zxh(X:Cx)(EX:EXT):Prop:=∀(pins:List (ak×Obj)) (σ:St) (H:Hp) (s:am) (e:aj) (s':am),Inv X pins σ H s->CX1 X.prog X.w X.stack H s (λcls od H'=>EX cls od σ H') e s'->X.xe e s'
def Zut(sp:Sp)(EX:EXT)(t:TA):TE:=λσ H Q=>t σ H λvs H1=>sp vs H1 Q λcls od H'=>EX cls od σ H'
structure Air(X:Cx)(pins:List (ak×Obj))(H:Hp)(s:am)(e:ak)(cls:aj)(dx:Option ak)(T:ak):Prop where
 r:Raised s.heap e cls dx (aA T)
 e0:X.s₀.heap.get? e=aB
 eH:H e=aB
 t0:X.s₀.heap.get? T=aB
 tH:H T=aB
 pe:∀p∈X.pn++pins,p.1≠e/\p.1≠T
 le:e≠X.env.locals/\T≠X.env.locals
 ce:∀x c,X.env.cells.lookup x=aA c->c≠e/\c≠T
abbrev Cx.inTry(X:Cx)(pn:List (ak×Obj))(xe:aj->am->Prop):Cx:={X with pn:=pn,xe:=xe}
abbrev Cx.inSuite(X:Cx)(a:ak):Cx:={X with A:=X.A.mark (aA (.ref a)),calm:=aD,xe:=λ_ _=>False}
section
variable{X:Cx}{pins:List (ak×Obj)}{σ:St}{H:Hp}{s:am}{e T:ak}{cls:aj}{dx:Option ak}{xe:aj->am->Prop}
def Im(a C:ak)(dx:Option ak):dq->Prop:=λh=>∃o,h.get? a=aA o/\o.cls= .ref C/\o.dict=dx/\PySem.W.notCls o=aC
end
set_option genInjectivity false in
structure Hd where
 x:Str
 np:Pos
 nm:Option (Str×Nat)
 b0:Stmt
 suite:List Stmt
 pos:Pos
 B:ak
 t:TS
def Hd.ast(h:Hd):ExceptHandler:=.ExceptHandler (aA (.Name h.x h.np)) (h.nm.map (·.1)) (h.b0::h.suite) h.pos
def Yq.but(D:Yq)(i:Nat):Yq:={nx:=λσ H=>D.nx (σ.set i aB) H,bk:=λσ H=>D.bk (σ.set i aB) H,ct:=λσ H=>D.ct (σ.set i aB) H,rt:=D.rt}
def Hd.run(h:Hd)(C:ak)(dx:Option ak)(D:Yq)(σ:St)(H:Hp):Prop:=match h.nm with
 |none=>h.t D σ H
 |some (_,i)=>∀a,H a=aB->h.t (D.but i) (σ.set i (aA (.ref a))) (Z5 H a (.ext (Im a C dx)))
def Zkf(K:af)(C:ak):List Hd->Option Hd
 | []=>aB
 |h::r=>match PySem.W.mroIn K C (.ref h.B)with
  |some aC=>aA h
  |some aD=>Zkf K C r
  |none=>aB
set_option genInjectivity false in
structure Hd.Ok(X:Cx)(h:Hd):Prop where
 gl:Gl X h.x
 mg:X.mg h.x=aA (.ref h.B)
 ty:PySem.W.typeIn X.K (.ref h.B)=aA (.type "type")
 cl:PySem.W.isClsIn X.K h.B=aC
 bs:PySem.W.mroIn X.K h.B (.type "BaseException")=aA aC
 db:(h.x==("__debug__":Str))=aD
 nm:∀n i,h.nm=aA (n,i)->X.N.Nodup/\X.N[i]? =aA n/\Loc X.env.scope n/\X.env.kindOf n=aA .local/\X.env.scope.names.lookup n=aA .local
 su:∀a,Gs (X.inSuite a) (h.b0::h.suite) h.t
section
variable{X:Cx}{pins:List (ak×Obj)}{σ:St}{H:Hp}{s:am}{e T C:ak}{dx:Option ak}{D:Yq}
def Zzy(K:af)(tb:EXT->TS)(hs:List Hd):TS:=λD σ H=>tb (λcls dx σ' H'=>∃C h,cls= .ref C/\Zkf K C hs=aA h/\h.run C dx D σ' H') D σ H
end
end L2
namespace L2
open PySem PySem.Spec PySem.Calls PyProof.Rows Builtin.ObjectAttr Builtin.Getset_descriptor
structure ExcKit(K:af)(C:ak):Prop where
 cl:PySem.W.isClsIn K C=aC
 ga:PySem.W.findIn K (.ref C) "__getattribute__"=aA (aA (.builtin "BaseException.__getattribute__"))
 gt:PySem.W.findIn K (.ref C) "__getattr__"=aA aB
 ca:PySem.W.findIn K (.ref C) "__class__"=aA (aA (.builtin "object.__class__"))
 gs:PySem.W.specialIn K (.builtin "object.__class__") "__get__"=aA (aA (.builtin "getset_descriptor.__get__"))
 tk:PySem.W.takesIn K (.builtin "object.__class__")=aA aC
 ob:PySem.W.mroIn K C (.type "object")=aA aC
 be:PySem.W.mroIn K C (.type "BaseException")=aA aC
section
variable{X:Cx}
def Zzz(K:af)(c:V)(cv:aj):List V->Hp->VK->Prop:=λxs H Q=>∃a C dx b,xs=[.ref a,c]/\H a=aA (.ext (Im a C dx))/\ExcKit K C/\PySem.W.kitOne K (.ref C) cv=aA b/\Q (.bl b) H
def Zxi(K:af)(Bs:List ak):List V->Hp->VK->Prop:=λxs H Q=>∃a C dx p b,xs=[.ref a,.ref p]/\H a=aA (.ext (Im a C dx))/\ExcKit K C/\H p=aA (.tup (Bs.map V.ref))/\PySem.W.kitAny K (.ref C) (Bs.map bv)=aA b/\Q (.bl b) H
end
end L2
namespace L2
open PySem PySem.Spec PyProof.Rows
abbrev Cx.blockX(X:Cx)(N':List Str)(scope:Scope)(C:ak)(s₀:am)(H₀:Hp)(ex:List ak)(xe:aj->am->Prop):Cx:=
 {X with N:=N',env:=compEnvC scope (R0 X.env.cells scope.names []) C X.env,s₀:=s₀,H₀:=H₀,outer:=X.stack,stack:=X.stack,ex:=ex,fn:=λ_=>aD,pn:=[],xe:=xe}
section
variable{X:Cx}{N':List Str}{scope:Scope}{src:List BSrc}{pins:List (ak×Obj)}{σ:St}{H:Hp}{s:am}{C acc:ak}{fp:List ak}
def Zuu(src:List BSrc)(wi:TI)(g:TG)(tt:TT)(te:EXT->TE)(EX:EXT):TE:=λσ H Q=>wi σ H λJ H1=>∀acc,H1 acc=aB->
 ∃W:Nat->Nat->St->Hp->Prop,(∃m,W 0 m (Sv src σ acc) (Z5 H1 acc (.lst [])))/\∀i m σ' H,W i m σ' H->(J.stop i H/\Q (.ref acc) H)\/
  (J.go i H/\∀x H',J.yld i H x H'->g x σ' H' λσ2 H2=>tt σ2 H2 λb H3=>if b=aC then te (λcls od _ H'=>EX cls od σ H') σ2 H3 λy H4=>Qy (.ref acc) [y] H4 λ_ H5=>∃m',m'<m/\W (i+1) m' σ2 H5 else∃m',m'<m/\W (i+1) m' σ2 H3)
end
end L2
namespace PySem
open Sem (wp)
end PySem
namespace L2
open PySem PySem.Spec PySem.Calls PyProof.Rows Builtin.ObjectAttr
def Zdc:List aj->Bool
 | .ref _::r=>Zdc r
 |l=>l==VEB
structure ExcSet(K:af)(C:ak)(name:Str):Prop where
 sa:PySem.W.findIn K (.ref C) "__setattr__"=aA (aA (.builtin "object.__setattr__"))
 ob:PySem.W.mroIn K C (.type "object")=aA aC
 na:PySem.W.findIn K (.ref C) name=aA aB
 mr:((PySem.W.clsIn K C).any λcd=>Zdc cd.mro&&cd.hasDict)=aC
def Bu(a C:ak)(dx:Option ak):dq->Prop:=λh=>∃o t,h.get? a=aA o/\o.cls= .ref C/\o.dict=dx/\o.data= .fields #[.ref t,.none,.none,.none,.bool aD,.none]
end L2
namespace L2
open PySem PySem.Spec PyProof.Rows
def Zuv(K:af)(C f:ak):Bool:=match K.lookup C with
 |some ⟨.type "type",_,.cls cd,sl⟩=>(match cd.mro,sl.toList with
  | .ref B::r,[_,_,_,_,aA (.builtin i),_]=>B==C&&i=="ValueError.__new__" && !cd.hasDel&&PySem.W.tailIn K VEB r&&PySem.W.nsOkIn K cd.ns&&cy K cd.ns "__init__"==aA (aA (.ref f))
  |_,_=>aD)
 |_=>aD
def Ztb(C f:ak)(h:dq):Prop:=∃(bm:List aj) (N:ak) (nm q:Str) (bs:List aj) (hdct:Bool) (sn:List Str) (sub:List aj) (ab:Bool) (col:Option Bool) (dd:Option ak) (k0 k1 k2 k3 k5:Option aj) (mN:Str->Option aj),
 h.get? C=aA (excClassObj nm q C N bs bm hdct sn sub ab col dd k0 k1 k2 k3 k5 "ValueError.__new__")/\h.Ns N mN/\mN "__init__"=aA (.ref f)/\OwnTail h VEB bm
def drop(H:Hp)(e:ak):Hp:=λb=>if b=e then aB else H b
structure ExcGet(K:af)(C:ak)(f:Str):Prop where
 kit:ExcKit K C
 na:PySem.W.findIn K (.ref C) f=aA aB
 mr:((PySem.W.clsIn K C).any λcd=>cd.hasDict)=aC
def Zuw(K:af)(ta:TE)(f:Str):TE:=λσ H Q=>ta σ H λx H1=>∃a C dx fs v,x= .ref a/\H1 a=aA (.ext (Im a C (aA dx)))/\H1 dx=aA (.xd fs)/\ExcGet K C f/\fs.lookup f=aA v/\Q v H1
section
variable{X:Cx}{e o value:ci}{f:Str}{pos pos':Pos}{ta tv:TE}
def Zux(K:af)(ta tv:TE)(f:Str):TS:=λD σ H=>tv σ H λy H1=>ta σ H1 λx H2=>∃a C,x= .ref a/\H2 a=aA (.ext (Bu a C aB))/\ExcSet K C f/\
 ∀dx,H2 dx=aB->D.nx σ (Z5 (Z5 H2 dx (.xd [(f,y)])) a (.ext (Bu a C (aA dx))))
end
def Ztc(EX:XK)(C:ak)(sp:Sp)(t:TA):TS:=λ_ σ H=>t σ H λvs H1=>vs.length<=sizeLine/\∀e,H1 e=aB->sp (.ref e::vs) (Z5 H1 e (.ext (Bu e C aB))) (λv H2=>v= .non/\∃dx,H2 e=aA (.ext (Bu e C dx))/\EX (.ref C) dx (drop H2 e)) E0
end L2
namespace DL
open PySem L2
variable{K:af}
inductive D where
 |non|bl (b:Bool)|int (i:Int)|str (x:Str)
 |tup (xs:List D)|lst (xs:List D)
 |dK (ks:List Key) (vs:List D)|dT (ks:List (List Key)) (vs:List D)|dX (ks:List Zj) (vs:List D)
 |exc (c:Str) (ks:List Str) (vs:List D)
def Tt(K:af)(c:Str)(C:ak):Prop:=cy K b6 c=aA (aA (.ref C))
def KB(F:Hp)(kvs:List (List Key×V))(bs:List ak):Prop:=Paired (λ(p:List Key×V) (b:ak)=>F b=aA (.tup (p.1.map kV))) kvs bs
def KN(F:Hp)(kvs:List (Zj×V))(bs:List ak):Prop:=Paired (λ(p:Zj×V) (b:ak)=>Ji F p.1 b) kvs bs
mutual
inductive Rep(K:af)(F:Hp):D->V->Prop where
 |non:Rep K F .non .non
 |bl (b:Bool):Rep K F (.bl b) (.bl b)
 |int (i:Int):Rep K F (.int i) (.int i)
 |str (x:Str):Rep K F (.str x) (.str x)
 |tup {a:ak} {xs:List D} {vs:List V} (h:F a=aA (.tup vs)) (r:Reps K F xs vs):Rep K F (.tup xs) (.ref a)
 |lst {a:ak} {xs:List D} {vs:List V} (h:Wp K F a vs) (o:F a=aA (.lst vs)\/∀d∈xs,∃i,d= .int i) (r:Reps K F xs vs):Rep K F (.lst xs) (.ref a)
 |dK {a:ak} {ks:List Key} {ds:List D} {kvs:List (Key×V)} {ep:Nat} (h:F a=aA (.dK kvs ep)) (e:kvs.map (·.1)=ks) (r:Reps K F ds (kvs.map (·.2))):Rep K F (.dK ks ds) (.ref a)
 |dT {a:ak} {ks:List (List Key)} {ds:List D} {kvs:List (List Key×V)} {ep:Nat} {bs:List ak} (h:F a=aA (.dT kvs ep bs)) (kb:KB F kvs bs) (e:kvs.map (·.1)=ks) (r:Reps K F ds (kvs.map (·.2))):Rep K F (.dT ks ds) (.ref a)
 |dX {a:ak} {ks:List Zj} {ds:List D} {kvs:List (Zj×V)} {ep:Nat} {bs:List ak} (h:F a=aA (.dN kvs ep bs)) (kb:KN F kvs bs) (e:kvs.map (·.1)=ks) (r:Reps K F ds (kvs.map (·.2))):Rep K F (.dX ks ds) (.ref a)
 |exc {a C:ak} {c:Str} (cl:Tt K c C) (h:F a=aA (.ext (Im a C aB))):Rep K F (.exc c [] []) (.ref a)
 |exd {a C dx:ak} {c:Str} {ks:List Str} {ds:List D} {fs:List (Str×V)} (cl:Tt K c C) (h:F a=aA (.ext (Im a C (aA dx)))) (hx:F dx=aA (.xd fs)) (e:fs.map (·.1)=ks) (r:Reps K F ds (fs.map (·.2))):Rep K F (.exc c ks ds) (.ref a)
inductive Reps(K:af)(F:Hp):List D->List V->Prop where
 |nil:Reps K F [] []
 |cons {d:D} {v:V} {ds:List D} {vs:List V} (h:Rep K F d v) (t:Reps K F ds vs):Reps K F (d::ds) (v::vs)
end
theorem KB.mono{F F':Hp}(s:Ze F F'){kvs:List (List Key×V)}{bs:List ak}(h:KB F kvs bs):KB F' kvs bs:=Paired.mapP h λ_ _ z=>s _ _ z
theorem KN.mono{F F':Hp}(s:Ze F F'){kvs:List (Zj×V)}{bs:List ak}(h:KN F kvs bs):KN F' kvs bs:=Paired.mapP h λ_ _ z=>z.mono λ_ _ q=>s _ _ q
theorem Zdd{F F':Hp}(s:Ze F F'){a:ak}{u:HO}(h:Rd F a u):Rd F' a u:=by
 rcases h with h|⟨o,h⟩
 ·exact .inl (s _ _ h)
 ·exact .inr ⟨o,s _ _ h⟩
theorem Y2{F F':Hp}(s:Ze F F'){a:ak}{xs:List V}(h:Wp K F a xs):Wp K F' a xs:=by
 rcases h with h|h
 ·exact .inl (Zdd s h)
 ·exact .inr h
theorem W0{F F':Hp}(s:Ze F F'){a:ak}{xs:List V}(h:Uk K F a xs):Uk K F' a xs:=by
 rcases h with h|h
 ·exact .inl (Zdd s h)
 ·exact .inr h
theorem Bb{F:Hp}{a:ak}{vs:List V}(h:F a=aA (.tup vs)):Uk K F a vs:=.inl (.inl h)
mutual
theorem Rep.mono{F F':Hp}(s:Ze F F'):∀{d:D} {v:V},Rep K F d v->Rep K F' d v
 |_,_,.non=>.non
 |_,_,.bl b=>.bl b
 |_,_,.int i=>.int i
 |_,_,.str x=>.str x
 |_,_,.tup h r=>.tup (s _ _ h) (Reps.mono s r)
 |_,_,.lst h o r=>.lst (Y2 s h) (o.imp (λz=>s _ _ z) id) (Reps.mono s r)
 |_,_,.dK h e r=>.dK (s _ _ h) e (Reps.mono s r)
 |_,_,.dT h kb e r=>.dT (s _ _ h) (kb.mono s) e (Reps.mono s r)
 |_,_,.dX h kb e r=>.dX (s _ _ h) (kb.mono s) e (Reps.mono s r)
 |_,_,.exc cl h=>.exc cl (s _ _ h)
 |_,_,.exd cl h hx e r=>.exd cl (s _ _ h) (s _ _ hx) e (Reps.mono s r)
theorem Reps.mono{F F':Hp}(s:Ze F F'):∀{ds:List D} {vs:List V},Reps K F ds vs->Reps K F' ds vs
 |_,_,.nil=>.nil
 |_,_,.cons h t=>.cons (Rep.mono s h) (Reps.mono s t)
end
theorem Reps.length{F:Hp}{ds:List D}:∀{vs:List V},Reps K F ds vs->ds.length=vs.length:=by
 induction ds with
 |nil=>intro vs h;cases h;rfl
 |cons d ds ih=>
  intro vs h;cases h with
  |cons _ t=>rw[bn,bn,ih t]
theorem Reps.append{F:Hp}{ds es:List D}{vs us:List V}(h:Reps K F ds vs)(q:Reps K F es us):Reps K F (ds++es) (vs++us):=by
 induction ds generalizing vs with
 |nil=>cases h;exact q
 |cons d ds ih=>
  cases h with
  |cons h t=>exact .cons h (ih t)
theorem Reps.snoc{F:Hp}{ds:List D}{vs:List V}{d:D}{v:V}(r:Reps K F ds vs)(h:Rep K F d v):Reps K F (ds++[d]) (vs++[v]):=r.append (.cons h .nil)
theorem Reps.get{F:Hp}:∀{ds:List D} {vs:List V} {i:Nat} {d:D},Reps K F ds vs->ds[i]? =aA d->∃v,vs[i]? =aA v/\Rep K F d v
 |_,_,_,_,.nil,e=>by simp at e
 |_,_,0,_,.cons h t,e=>by simp at e;subst e;exact⟨_,rfl,h⟩
 |_,_,i+1,d,.cons h t,e=>by obtain⟨v,h1,h2⟩:=Reps.get (i:=i) (d:=d) t (by simpa using e);exact⟨v,by simpa using h1,h2⟩
theorem Reps.getV{F:Hp}:∀{ds:List D} {vs:List V} {i:Nat} {v:V},Reps K F ds vs->vs[i]? =aA v->∃d,ds[i]? =aA d/\Rep K F d v
 |_,_,_,_,.nil,e=>by simp at e
 |_,_,0,_,.cons h t,e=>by simp at e;subst e;exact⟨_,rfl,h⟩
 |_,_,i+1,d,.cons h t,e=>by obtain⟨v,h1,h2⟩:=Reps.getV (i:=i) (v:=d) t (by simpa using e);exact⟨v,by simpa using h1,h2⟩
theorem Reps.take{F:Hp}:∀{ds:List D} {vs:List V} (n:Nat),Reps K F ds vs->Reps K F (ds.take n) (vs.take n)
 |_,_,0,_=>.nil
 |_,_,_+1,.nil=>.nil
 |_,_,n+1,.cons h t=>.cons h (t.take n)
theorem Reps.drop{F:Hp}:∀{ds:List D} {vs:List V} (n:Nat),Reps K F ds vs->Reps K F (ds.drop n) (vs.drop n)
 |_,_,0,r=>r
 |_,_,_+1,.nil=>.nil
 |_,_,n+1,.cons h t=>t.drop n
inductive SV where
 |fz (d:D)|ol (xs:List D)|oK (ks:List Key) (vs:List D)|oT (ks:List (List Key)) (vs:List D)|oN (ks:List Key) (xss:List (List D))|oL (pin:Option ak) (xss:List (List D))|oQ (pin:ak) (ks:List Key) (vs:List D)|oX (ks:List Zj) (xss:List (List D))|oD (dss:List (List Key×List D))|oM (ks:List Zj) (vs:List D)
@[simp] def SV.toD:SV->D
 | .fz d=>d
 | .ol xs=>.lst xs
 | .oK ks vs=>.dK ks vs
 | .oT ks vs=>.dT ks vs
 | .oN ks xss=>.dK ks (xss.map D.lst)
 | .oL _ xss=>.lst (xss.map D.lst)
 | .oQ _ ks vs=>.dK ks vs
 | .oX ks xss=>.dX ks (xss.map D.lst)
 | .oD dss=>.lst (dss.map λp=>.dK p.1 p.2)
 | .oM ks vs=>.dX ks vs
abbrev Zo:=List (ak×HO)
inductive Kids(K:af)(F:Hp):List (List D)->List V->Zo->Prop where
 |nil:Kids K F [] [] []
 |cons {xs:List D} {xss:List (List D)} {b:ak} {vs:List V} {ws:List V} {ns:Zo} (r:Reps K F xs vs) (t:Kids K F xss ws ns):Kids K F (xs::xss) (.ref b::ws) ((b,.lst vs)::ns)
inductive KidD(K:af)(F:Hp):List (List Key×List D)->List V->Zo->Prop where
 |nil:KidD K F [] [] []
 |cons {ds:List D} {dss:List (List Key×List D)} {b:ak} {kvs:List (Key×V)} {ep:Nat} {ws:List V} {ns:Zo} (r:Reps K F ds (kvs.map (·.2))) (t:KidD K F dss ws ns):KidD K F ((kvs.map (·.1),ds)::dss) (.ref b::ws) ((b,.dK kvs ep)::ns)
inductive Shape(K:af)(F:Hp):SV->V->Zo->Prop where
 |fz {d:D} {v:V} (h:Rep K F d v):Shape K F (.fz d) v []
 |ol {a:ak} {xs:List D} {vs:List V} (r:Reps K F xs vs):Shape K F (.ol xs) (.ref a) [(a,.lst vs)]
 |oK {a:ak} {ks:List Key} {ds:List D} {kvs:List (Key×V)} {ep:Nat} (e:kvs.map (·.1)=ks) (r:Reps K F ds (kvs.map (·.2))):Shape K F (.oK ks ds) (.ref a) [(a,.dK kvs ep)]
 |oT {a:ak} {ks:List (List Key)} {ds:List D} {kvs:List (List Key×V)} {ep:Nat} {bs:List ak} (kb:KB F kvs bs) (e:kvs.map (·.1)=ks) (r:Reps K F ds (kvs.map (·.2))):Shape K F (.oT ks ds) (.ref a) [(a,.dT kvs ep bs)]
 |oN {a:ak} {ks:List Key} {xss:List (List D)} {kvs:List (Key×V)} {ns:Zo} {ep:Nat} (e:kvs.map (·.1)=ks) (r:Kids K F xss (kvs.map (·.2)) ns):Shape K F (.oN ks xss) (.ref a) ((a,.dK kvs ep)::ns)
 |oL {pin:Option ak} {a:ak} {xss:List (List D)} {ws:List V} {ns:Zo} (hp:∀b,pin=aA b->b=a) (r:Kids K F xss ws ns):Shape K F (.oL pin xss) (.ref a) ((a,.lst ws)::ns)
 |oQ {a:ak} {ks:List Key} {ds:List D} {kvs:List (Key×V)} {ep:Nat} (e:kvs.map (·.1)=ks) (r:Reps K F ds (kvs.map (·.2))):Shape K F (.oQ a ks ds) (.ref a) [(a,.dK kvs ep)]
 |oX {a:ak} {ks:List Zj} {xss:List (List D)} {kvs:List (Zj×V)} {ns:Zo} {ep:Nat} {bs:List ak} (kb:KN F kvs bs) (e:kvs.map (·.1)=ks) (r:Kids K F xss (kvs.map (·.2)) ns):Shape K F (.oX ks xss) (.ref a) ((a,.dN kvs ep bs)::ns)
 |oD {a:ak} {dss:List (List Key×List D)} {ws:List V} {ns:Zo} (r:KidD K F dss ws ns):Shape K F (.oD dss) (.ref a) ((a,.lst ws)::ns)
 |oM {a:ak} {ks:List Zj} {ds:List D} {kvs:List (Zj×V)} {ep:Nat} {bs:List ak} (kb:KN F kvs bs) (e:kvs.map (·.1)=ks) (r:Reps K F ds (kvs.map (·.2))):Shape K F (.oM ks ds) (.ref a) [(a,.dN kvs ep bs)]
theorem KidD.mono{F F':Hp}(s:Ze F F'):∀{dss:List (List Key×List D)} {ws:List V} {ns:Zo},KidD K F dss ws ns->KidD K F' dss ws ns
 |_,_,_,.nil=>.nil
 |_,_,_,.cons r t=>.cons (r.mono s) (t.mono s)
theorem Kids.mono{F F':Hp}(s:Ze F F'){xss:List (List D)}{ws:List V}{ns:Zo}(h:Kids K F xss ws ns):Kids K F' xss ws ns:=by
 induction h with
 |nil=>exact .nil
 |cons r _ ih=>exact .cons (r.mono s) ih
theorem Shape.mono{F F':Hp}(s:Ze F F'){sv:SV}{v:V}{ns:Zo}(h:Shape K F sv v ns):Shape K F' sv v ns:=by
 cases h with
 |fz h=>exact .fz (h.mono s)
 |ol r=>exact .ol (r.mono s)
 |oK e r=>exact .oK e (r.mono s)
 |oT kb e r=>exact .oT (kb.mono s) e (r.mono s)
 |oN e r=>exact .oN e (r.mono s)
 |oL hp r=>exact .oL hp (r.mono s)
 |oQ e r=>exact .oQ e (r.mono s)
 |oX kb e r=>exact .oX (kb.mono s) e (r.mono s)
 |oD r=>exact .oD (r.mono s)
 |oM kb e r=>exact .oM (kb.mono s) e (r.mono s)
def Qb(F:Hp):Zo->Hp
 | []=>F
 |p::r=>Z5 (Qb F r) p.1 p.2
abbrev Cu(ns:Zo):List Addr:=ns.map (·.1)
theorem Q3{F:Hp}{b:ak}:∀{ns:Zo},b∉Cu ns->Qb F ns b=F b
 | [],_=>rfl
 |p::r,h=>by have h1:b≠p.1:=λe=>h (by rw[e];exact ah);have h2:b∉Cu r:=λe=>h (ar _ e);show Z5 (Qb F r) p.1 p.2 b=F b;rw[Zn h1,Q3 h2]
theorem Tu{F:Hp}{p:ak×HO}:∀{ns:Zo},(Cu ns).Nodup->p∈ns->Qb F ns p.1=aA p.2
 | [],_,h=>nomatch h
 |q::r,nd,h=>by
  obtain⟨n1,n2⟩:=fq.mp nd;show Z5 (Qb F r) q.1 q.2 p.1=aA p.2;rcases bo.mp h with e|e
  ·subst e;exact Z3
  ·rw[Zn λz=>n1 (a6.mpr ⟨p,e,z⟩)];exact Tu n2 e
theorem Wt{F:Hp}{ns:Zo}(h:∀p∈ns,F p.1=aB):Ze F (Qb F ns):=λb o e=>by
 by_cases hb:b∈Cu ns
 ·obtain⟨p,hp,ep⟩:=a6.mp hb;subst ep;rw[h p hp]at e;cases e
 ·rw[Q3 hb];exact e
theorem Kx{F H:Hp}{ns:Zo}(nd:(Cu ns).Nodup)(le:Ze F H)(h:∀p∈ns,H p.1=aA p.2):Ze (Qb F ns) H:=λb o e=>by
 by_cases hb:b∈Cu ns
 ·obtain⟨p,hp,ep⟩:=a6.mp hb;subst ep;rw[Tu nd hp]at e;cases e;exact h p hp
 ·rw[Q3 hb]at e;exact le b o e
theorem Ny{Z:Hp×Hp}{F:Hp}{ns:Zo}(nd:(Cu ns).Nodup)(fro:∀(b:ak) (o:HO),F b=aA o->Z.2 b=aA o\/Z.1 b=aB)(hz:∀p∈ns,Z.1 p.1=aB):∀(b:ak) (o:HO),Qb F ns b=aA o->Z.2 b=aA o\/Z.1 b=aB:=λb o e=>by
 by_cases hb:b∈Cu ns
 ·obtain⟨p,hp,ep⟩:=a6.mp hb;subst ep;exact .inr (hz p hp)
 ·rw[Q3 hb]at e;exact fro b o e
theorem Kids.rep{F F':Hp}(s:Ze F F'):∀{xss:List (List D)} {ws:List V} {ns:Zo},Kids K F xss ws ns->(∀p∈ns,F' p.1=aA p.2)->Reps K F' (xss.map D.lst) ws
 |_,_,_,.nil,_=>.nil
 |_,_,_,.cons r t,h=>.cons (.lst (.inl (.inl (h _ ah))) (.inl (h _ ah)) (r.mono s)) (t.rep s λp hp=>h p (ar _ hp))
theorem KidD.rep{F F':Hp}(s:Ze F F'):∀{dss:List (List Key×List D)} {ws:List V} {ns:Zo},KidD K F dss ws ns->(∀p∈ns,F' p.1=aA p.2)->Reps K F' (dss.map λp=>.dK p.1 p.2) ws
 |_,_,_,.nil,_=>.nil
 |_,_,_,.cons r t,h=>.cons (.dK (h _ ah) rfl (r.mono s)) (t.rep s λp hp=>h p (ar _ hp))
theorem Shape.rep{F:Hp}{sv:SV}{v:V}{ns:Zo}(h:Shape K F sv v ns)(nd:(Cu ns).Nodup)(hn:∀p∈ns,F p.1=aB):Rep K (Qb F ns) sv.toD v:=by
 have s:=Wt hn;have a:∀p∈ns,Qb F ns p.1=aA p.2:=λp hp=>Tu nd hp;cases h with
 |fz h=>exact h
 |ol r=>exact .lst (.inl (.inl (a (_,_) ah))) (.inl (a (_,_) ah)) (r.mono s)
 |oK e r=>exact .dK (a (_,_) ah) e (r.mono s)
 |oT kb e r=>exact .dT (a (_,_) ah) (kb.mono s) e (r.mono s)
 |oN e r=>exact .dK (a (_,_) ah) e (r.rep s λp hp=>a p (ar _ hp))
 |oL _ r=>exact .lst (.inl (.inl (a (_,_) ah))) (.inl (a (_,_) ah)) (r.rep s λp hp=>a p (ar _ hp))
 |oQ e r=>exact .dK (a (_,_) ah) e (r.mono s)
 |oX kb e r=>exact .dX (a (_,_) ah) (kb.mono s) e (r.rep s λp hp=>a p (ar _ hp))
 |oD r=>exact .lst (.inl (.inl (a (_,_) ah))) (.inl (a (_,_) ah)) (r.rep s λp hp=>a p (ar _ hp))
 |oM kb e r=>exact .dX (a (_,_) ah) (kb.mono s) e (r.mono s)
abbrev Yg:=List (Option SV)
set_option genInjectivity false in
structure Ent(K:af)where
 h:Hp
 f:Hp
 x:EXT
abbrev ent(H F:Hp):Ent K:=⟨H,F,λ_ _ _ _=>False⟩
set_option genInjectivity false in
structure Exn where
 c:Str
 ks:List Str:=[]
 vs:List D:=[]
def Ky(K:af)(F:Hp)(e:Exn)(cls:aj)(od:Option ak):Prop:=∃C,Tt K e.c C/\cls= .ref C/\match od with
 |none=>e.ks=[]/\e.vs=[]
 |some dx=>∃fs:List (Str×V),F dx=aA (.xd fs)/\fs.map (·.1)=e.ks/\Reps K F e.vs (fs.map (·.2))
structure SR(Z:Ent K)(F H:Hp)(σ:St)(δ:Yg)(own:Nat->Zo):Prop where
 le:Ze F H
 fro:∀(b:ak) (o:HO),F b=aA o->Z.f b=aA o\/Z.h b=aB
 old:Ze Z.h H
 len:σ.length=δ.length
 at':∀(i:Nat) (sv:SV),δ[i]? =aA (aA sv)->∃v,σ[i]? =aA (aA v)/\Shape K F sv v (own i)
 nod:∀i:Nat,(Cu (own i)).Nodup
 ok:∀(i:Nat) (p:ak×HO),p∈own i->F p.1=aB/\Z.h p.1=aB/\H p.1=aA p.2
 sep:∀(i j:Nat) (p q:ak×HO),i≠j->p∈own i->q∈own j->p.1≠q.1
inductive RV where
 |tmp (sv:SV)|bw (i:Nat)
structure TmpOk(Z:Ent K)(F H:Hp)(own:Nat->Zo)(sv:SV)(v:V)(ns:Zo):Prop where
 sh:Shape K F sv v ns
 nd:(Cu ns).Nodup
 ok:∀p∈ns,F p.1=aB/\Z.h p.1=aB/\H p.1=aA p.2
 sep:∀(i:Nat) (p q:ak×HO),p∈ns->q∈own i->p.1≠q.1
def Hj(Z:Ent K)(F H:Hp)(σ:St)(own:Nat->Zo):RV->V->Prop
 | .tmp sv,v=>∃ns,TmpOk Z F H own sv v ns
 | .bw i,v=>σ[i]? =aA (aA v)
theorem TmpOk.fz{Z:Ent K}{F H:Hp}{own:Nat->Zo}{d:D}{v:V}(h:Rep K F d v):TmpOk Z F H own (.fz d) v []:=
 ⟨.fz h,c7,λ_ h=>(nomatch h),λ_ _ _ h=>(nomatch h)⟩
theorem Qe{H:Hp}{p:ak}{o:HO}(h:H p=aB):Ze H (Z5 H p o):=λb u e=>by rw[Zn λz=>by rw[z,h]at e;cases e];exact e
theorem SR.grow{Z:Ent K}{F H H':Hp}{σ:St}{δ:Yg}{own:Nat->Zo}(s:SR Z F H σ δ own)(h:Ze H H'):SR Z F H' σ δ own:=
 ⟨s.le.trans h,s.fro,s.old.trans h,s.len,s.at',s.nod,λi p hp=>let⟨a,b,c⟩:=s.ok i p hp;⟨a,b,h _ _ c⟩,s.sep⟩
theorem SR.addF{Z:Ent K}{F H:Hp}{σ:St}{δ:Yg}{own:Nat->Zo}{ns:Zo}(s:SR Z F H σ δ own)(nd:(Cu ns).Nodup)(hn:∀p∈ns,F p.1=aB)(hH:∀p∈ns,H p.1=aA p.2)(hz:∀p∈ns,Z.h p.1=aB)
  (hs:∀(i:Nat) (p q:ak×HO),p∈ns->q∈own i->p.1≠q.1):SR Z (Qb F ns) H σ δ own:=by
 have sm:=Wt hn;refine⟨Kx nd s.le hH,Ny (Z:=(Z.h,Z.f)) nd s.fro hz,s.old,s.len,λi sv e=>?_,s.nod,λi p hp=>?_,s.sep⟩
 ·obtain⟨v,h1,h2⟩:=s.at' i sv e;exact⟨v,h1,h2.mono sm⟩
 ·obtain⟨a,b,c⟩:=s.ok i p hp;refine⟨?_,b,c⟩;rw[Q3 λhb=>?_]
  ·exact a
  ·obtain⟨q,hq,e⟩:=a6.mp hb;exact hs i q p hq hp e
theorem SR.settle{Z:Ent K}{F H:Hp}{σ:St}{δ:Yg}{own:Nat->Zo}{sv:SV}{v:V}{ns:Zo}(s:SR Z F H σ δ own)(t:TmpOk Z F H own sv v ns):
  ∃F1,Ze F F1/\SR Z F1 H σ δ own/\Rep K F1 sv.toD v:=
 ⟨Qb F ns,Wt λp hp=>(t.ok p hp).1,s.addF t.nd (λp hp=>(t.ok p hp).1) (λp hp=>(t.ok p hp).2.2) (λp hp=>(t.ok p hp).2.1) t.sep,t.sh.rep t.nd λp hp=>(t.ok p hp).1⟩
def put(own:Nat->Zo)(i:Nat)(ns:Zo):Nat->Zo:=λj=>if j=i then ns else own j
theorem Z4{own:Nat->Zo}{i:Nat}{ns:Zo}:put own i ns i=ns:=if_pos rfl
theorem Yb{own:Nat->Zo}{i j:Nat}{ns:Zo}(h:j≠i):put own i ns j=own j:=if_neg h
theorem SR.freeze{Z:Ent K}{F H:Hp}{σ:St}{δ:Yg}{own:Nat->Zo}{i:Nat}{sv:SV}(s:SR Z F H σ δ own)(e:δ[i]? =aA (aA sv)):
  ∃F1 v,Ze F F1/\σ[i]? =aA (aA v)/\Rep K F1 sv.toD v/\SR Z F1 H σ (δ.set i (aA (.fz sv.toD))) (put own i []):=by
 obtain⟨v,h1,h2⟩:=s.at' i sv e;have hn:∀p∈own i,F p.1=aB:=λp hp=>(s.ok i p hp).1;have sm:=Wt hn;have hi:i<δ.length:=(ax.mp e).1;refine⟨Qb F (own i),v,sm,h1,h2.rep (s.nod i) hn,⟨Kx (s.nod i) s.le λp hp=>(s.ok i p hp).2.2,Ny (Z:=(Z.h,Z.f)) (s.nod i) s.fro λp hp=>(s.ok i p hp).2.1,s.old,by rw[List.length_set];exact s.len,λj sw ej=>?_,λj=>?_,λj p hp=>?_,λj k p q hjk hp hq=>?_⟩⟩
 ·by_cases hj:j=i
  ·subst hj;rw[d5 hi]at ej;cases ej;rw[Z4];exact⟨v,h1,.fz (h2.rep (s.nod j) hn)⟩
  ·rw[d6 (Ne.symm hj)]at ej;obtain⟨w,g1,g2⟩:=s.at' j sw ej;rw[Yb hj];exact⟨w,g1,g2.mono sm⟩
 ·by_cases hj:j=i
  ·subst hj;rw[Z4];exact c7
  ·rw[Yb hj];exact s.nod j
 ·by_cases hj:j=i
  ·subst hj;rw[Z4]at hp;exact nomatch hp
  ·rw[Yb hj]at hp;obtain⟨a,b,c⟩:=s.ok j p hp;refine⟨?_,b,c⟩;rw[Q3 λhb=>?_]
   ·exact a
   ·obtain⟨q,hq,z⟩:=a6.mp hb;exact s.sep i j q p (Ne.symm hj) hq hp z
 ·by_cases hj:j=i
  ·subst hj;rw[Z4]at hp;exact nomatch hp
  ·by_cases hk:k=i
   ·subst hk;rw[Z4]at hq;exact nomatch hq
   ·rw[Yb hj]at hp;rw[Yb hk]at hq;exact s.sep j k p q hjk hp hq
theorem SR.store{Z:Ent K}{F H:Hp}{σ:St}{δ:Yg}{own:Nat->Zo}{i:Nat}{sv:SV}{v:V}{ns:Zo}(s:SR Z F H σ δ own)(t:TmpOk Z F H own sv v ns)(hi:i<σ.length):
  SR Z F H (σ.set i (aA v)) (δ.set i (aA sv)) (put own i ns):=by
 refine⟨s.le,s.fro,s.old,by rw[List.length_set,List.length_set];exact s.len,λj sw ej=>?_,λj=>?_,λj p hp=>?_,λj k p q hjk hp hq=>?_⟩
 ·by_cases hj:j=i
  ·subst hj;have hd:j<δ.length:=by have:=(ax.mp ej).1;simpa using this
   rw[d5 hd]at ej;cases ej;rw[Z4,d5 hi];exact⟨v,rfl,t.sh⟩
  ·rw[d6 (Ne.symm hj)]at ej;rw[Yb hj,d6 (Ne.symm hj)];exact s.at' j sw ej
 ·by_cases hj:j=i
  ·subst hj;rw[Z4];exact t.nd
  ·rw[Yb hj];exact s.nod j
 ·by_cases hj:j=i
  ·subst hj;rw[Z4]at hp;exact t.ok p hp
  ·rw[Yb hj]at hp;exact s.ok j p hp
 ·by_cases hj:j=i
  ·subst hj;rw[Z4]at hp;rw[Yb (Ne.symm hjk)]at hq;exact t.sep k p q hp hq
  ·by_cases hk:k=i
   ·subst hk;rw[Z4]at hq;rw[Yb hj]at hp;exact Ne.symm (t.sep j q p hq hp)
   ·rw[Yb hj]at hp;rw[Yb hk]at hq;exact s.sep j k p q hjk hp hq
theorem SR.change{Z:Ent K}{F H:Hp}{σ:St}{δ:Yg}{own:Nat->Zo}{i:Nat}{sv sv':SV}{a:ak}{o o':HO}{v:V}{ns':Zo}(s:SR Z F H σ δ own)(e:δ[i]? =aA (aA sv))(hv:σ[i]? =aA (aA v))
  (ha:(a,o)∈own i) (hs:Shape K F sv' v ns') (hns:∀p∈ns',p=(a,o')\/(p∈own i/\p.1≠a)) (nd:(Cu ns').Nodup):SR Z F (Z5 H a o') σ (δ.set i (aA sv')) (put own i ns'):=by
 obtain⟨fa,ha0,hHa⟩:=s.ok i (a,o) ha;have hi:i<δ.length:=(ax.mp e).1;refine⟨λb u eb=>?_,s.fro,λb u eb=>?_,by rw[List.length_set];exact s.len,λj sw ej=>?_,λj=>?_,λj p hp=>?_,λj k p q hjk hp hq=>?_⟩
 ·rw[Zn λz=>by rw[z]at eb;rw[fa]at eb;cases eb];exact s.le b u eb
 ·rw[Zn λz=>by rw[z]at eb;rw[ha0]at eb;cases eb];exact s.old b u eb
 ·by_cases hj:j=i
  ·subst hj;rw[d5 hi]at ej;cases ej;rw[Z4];exact⟨v,hv,hs⟩
  ·rw[d6 (Ne.symm hj)]at ej;rw[Yb hj];exact s.at' j sw ej
 ·by_cases hj:j=i
  ·subst hj;rw[Z4];exact nd
  ·rw[Yb hj];exact s.nod j
 ·by_cases hj:j=i
  ·subst hj;rw[Z4]at hp;rcases hns p hp with z|⟨z,ne⟩
   ·subst z;exact⟨fa,ha0,Z3⟩
   ·obtain⟨x,y,w⟩:=s.ok j p z;exact⟨x,y,by rw[Zn ne];exact w⟩
  ·rw[Yb hj]at hp;obtain⟨x,y,w⟩:=s.ok j p hp;exact⟨x,y,by rw[Zn (s.sep j i p (a,o) hj hp ha)];exact w⟩
 ·have own':∀r∈ns',∃r'∈own i,r.1=r'.1:=λr hr=>by
   rcases hns r hr with z|⟨z,_⟩
   ·subst z;exact⟨(a,o),ha,rfl⟩
   ·exact⟨r,z,rfl⟩
  by_cases hj:j=i
  ·subst hj;rw[Z4]at hp;rw[Yb (Ne.symm hjk)]at hq;obtain⟨r',hr',er⟩:=own' p hp;rw[er];exact s.sep j k r' q hjk hr' hq
  ·by_cases hk:k=i
   ·subst hk;rw[Z4]at hq;rw[Yb hj]at hp;obtain⟨r',hr',er⟩:=own' q hq;rw[er];exact s.sep j k p r' hjk hp hr'
   ·rw[Yb hj]at hp;rw[Yb hk]at hq;exact s.sep j k p q hjk hp hq
end DL
namespace DL
open PySem L2
variable{K:af}
abbrev FE:=Yg->Option (RV×Yg)
abbrev FT:=Yg->Option (Bool×Yg)
abbrev FA:=Yg->Option (List RV×Yg)
abbrev FD:=Yg->Option (List D×Yg)
@[simp] def SV.nested:SV->Bool
 | .oN _ _=>aC
 | .oL _ _=>aC
 | .oX _ _=>aC
 | .oD _=>aC
 | .oM _ _=>aC
 |_=>aD
@[simp] def Ev:RV->Yg->Option D
 | .tmp sv,_=>aA sv.toD
 | .bw i,δ=>(δ[i]?.join).bind λsv=>if sv.nested then aB else aA sv.toD
@[simp] def frz:RV->Yg->Option (D×Yg)
 | .tmp sv,δ=>aA (sv.toD,δ)
 | .bw i,δ=>(δ[i]?.join).bind λsv=>aA (sv.toD,δ.set i (aA (.fz sv.toD)))
theorem U7{δ:Yg}{i:Nat}{sv:SV}(h:δ[i]?.join=aA sv):δ[i]? =aA (aA sv):=by
 cases e:δ[i]? with
 |none=>rw[e]at h;cases h
 |some o=>rw[e]at h;cases o with
  |none=>cases h
  |some s=>cases h;rfl
def Zc(Z:Ent K)(f:FE):TE:=λσ H Q=>∃F δ own rv δ',SR Z F H σ δ own/\f δ=aA (rv,δ')/\
 ∀v H' F' own',Ze H H'->Ze F F'->SR Z F' H' σ δ' own'->Hj Z F' H' σ own' rv v->Q v H'
def Yh(Z:Ent K)(f:FT):TT:=λσ H Q=>∃F δ own b δ',SR Z F H σ δ own/\f δ=aA (b,δ')/\
 ∀H' F' own',Ze H H'->Ze F F'->SR Z F' H' σ δ' own'->Q b H'
def RVS(K:af)(F:Hp)(σ:St):RV->V->Prop
 | .tmp sv,v=>Rep K F sv.toD v
 | .bw i,v=>σ[i]? =aA (aA v)
inductive RVSs(K:af)(F:Hp)(σ:St):List RV->List V->Prop where
 |nil:RVSs K F σ [] []
 |cons {rv:RV} {v:V} {rvs:List RV} {vs:List V} (h:RVS K F σ rv v) (t:RVSs K F σ rvs vs):RVSs K F σ (rv::rvs) (v::vs)
def Bc(Z:Ent K)(f:FA):TA:=λσ H Q=>∃F δ own rvs δ',SR Z F H σ δ own/\f δ=aA (rvs,δ')/\
 ∀vs H' F' own',Ze H H'->Ze F F'->SR Z F' H' σ δ' own'->RVSs K F' σ rvs vs->Q vs H'
def Wj(Z:Ent K)(f:FD):TA:=λσ H Q=>∃F δ own ds δ',SR Z F H σ δ own/\f δ=aA (ds,δ')/\
 ∀vs H' F' own',Ze H H'->Ze F F'->SR Z F' H' σ δ' own'->Reps K F' ds vs->Q vs H'
section
variable{Z:Ent K}{F H F' H':Hp}{σ:St}{δ δ':Yg}{own:Nat->Zo}{rv:RV}{v:V}{d:D}{Q:VK}
theorem RVS.mono(s:Ze F F')(h:RVS K F σ rv v):RVS K F' σ rv v:=by
 cases rv with
 |tmp sv=>exact Rep.mono s h
 |bw i=>exact h
theorem SR.settleR(s:SR Z F H σ δ own)(h:Hj Z F H σ own rv v):∃F1,Ze F F1/\SR Z F1 H σ δ own/\RVS K F1 σ rv v:=by
 cases rv with
 |tmp sv=>obtain⟨ns,t⟩:=h;exact s.settle t
 |bw i=>exact⟨F,Ze.refl F,s,h⟩
theorem SR.frzR(s:SR Z F H σ δ own)(h:RVS K F σ rv v)(e:frz rv δ=aA (d,δ')):∃F1 own1,Ze F F1/\SR Z F1 H σ δ' own1/\Rep K F1 d v:=by
 cases rv with
 |tmp sv=>cases e;exact⟨F,own,Ze.refl F,s,h⟩
 |bw i=>obtain⟨sv,e1,e2⟩:=aa.mp e;cases e2;obtain⟨F1,w,h1,h2,h3,h4⟩:=s.freeze (U7 e1);have h':σ[i]? =aA (aA v):=h;rw[h']at h2;cases h2;exact⟨F1,_,h1,h4,h3⟩
def Z7(K:af)(F H:Hp)(d:D)(v:V):Prop:=∃sv ns,sv.toD=d/\sv.nested=aD/\Shape K F sv v ns/\∀p∈ns,H p.1=aA p.2
theorem Z7.of(h:Rep K F d v):Z7 K F H d v:=⟨.fz d,[],rfl,rfl,.fz h,λ_ h=>nomatch h⟩
theorem SR.rd(s:SR Z F H σ δ own)(h:RVS K F σ rv v)(e:Ev rv δ=aA d):Z7 K F H d v:=by
 cases rv with
 |tmp sv=>cases e;exact Z7.of h
 |bw i=>
  obtain⟨sv,e1,e2⟩:=aa.mp e;cases hn:sv.nested with
  |true=>rw[hn]at e2;cases e2
  |false=>rw[hn]at e2;cases e2;obtain⟨w,h1,h2⟩:=s.at' i sv (U7 e1);have h':σ[i]? =aA (aA v):=h;rw[h']at h1;cases h1;exact⟨sv,own i,rfl,hn,h2,λp hp=>(s.ok i p hp).2.2⟩
inductive RepNs(K:af)(F H:Hp):List D->List V->Prop where
 |nil:RepNs K F H [] []
 |cons {d:D} {v:V} {ds:List D} {vs:List V} (h:Z7 K F H d v) (t:RepNs K F H ds vs):RepNs K F H (d::ds) (v::vs)
theorem Z7.non(h:Z7 K F H .non v):v= .non:=by
 obtain⟨sv,ns,e,n,sh,hp⟩:=h;cases sh with
 |fz r=>cases e;cases r;rfl
 |ol r=>cases e
 |oK e' r=>cases e
 |oT kb e' r=>cases e
 |oN e' r=>cases n
 |oX kb' e' r=>cases n
 |oD r=>cases n
 |oM kb' e' r=>cases n
 |oL _ r=>cases n
 |oQ e' r=>cases e
theorem Z7.bl{b:Bool}(h:Z7 K F H (.bl b) v):v= .bl b:=by
 obtain⟨sv,ns,e,n,sh,hp⟩:=h;cases sh with
 |fz r=>cases e;cases r;rfl
 |ol r=>cases e
 |oK e' r=>cases e
 |oT kb e' r=>cases e
 |oN e' r=>cases n
 |oX kb' e' r=>cases n
 |oD r=>cases n
 |oM kb' e' r=>cases n
 |oL _ r=>cases n
 |oQ e' r=>cases e
theorem Z7.int{i:Int}(h:Z7 K F H (.int i) v):v= .int i:=by
 obtain⟨sv,ns,e,n,sh,hp⟩:=h;cases sh with
 |fz r=>cases e;cases r;rfl
 |ol r=>cases e
 |oK e' r=>cases e
 |oT kb e' r=>cases e
 |oN e' r=>cases n
 |oX kb' e' r=>cases n
 |oD r=>cases n
 |oM kb' e' r=>cases n
 |oL _ r=>cases n
 |oQ e' r=>cases e
theorem Z7.str{x:Str}(h:Z7 K F H (.str x) v):v= .str x:=by
 obtain⟨sv,ns,e,n,sh,hp⟩:=h;cases sh with
 |fz r=>cases e;cases r;rfl
 |ol r=>cases e
 |oK e' r=>cases e
 |oT kb e' r=>cases e
 |oN e' r=>cases n
 |oX kb' e' r=>cases n
 |oD r=>cases n
 |oM kb' e' r=>cases n
 |oL _ r=>cases n
 |oQ e' r=>cases e
theorem Z7.tup{xs:List D}(le:Ze F H)(h:Z7 K F H (.tup xs) v):∃a vs,v= .ref a/\Uk K H a vs/\Reps K F xs vs:=by
 obtain⟨sv,ns,e,n,sh,hp⟩:=h;cases sh with
 |fz r=>cases e;cases r with|tup h r=>exact⟨_,_,rfl,W0 le (Bb h),r⟩
 |ol r=>cases e
 |oK e' r=>cases e
 |oT kb e' r=>cases e
 |oN e' r=>cases n
 |oX kb' e' r=>cases n
 |oD r=>cases n
 |oM kb' e' r=>cases n
 |oL _ r=>cases n
 |oQ e' r=>cases e
theorem Z7.lst{xs:List D}(le:Ze F H)(h:Z7 K F H (.lst xs) v):∃a vs,v= .ref a/\Wp K H a vs/\Reps K F xs vs:=by
 obtain⟨sv,ns,e,n,sh,hp⟩:=h;cases sh with
 |fz r=>cases e;cases r with|lst h _ r=>exact⟨_,_,rfl,Y2 le h,r⟩
 |ol r=>cases e;exact⟨_,_,rfl,.inl (.inl (hp _ ah)),r⟩
 |oK e' r=>cases e
 |oT kb e' r=>cases e
 |oN e' r=>cases n
 |oX kb' e' r=>cases n
 |oD r=>cases n
 |oM kb' e' r=>cases n
 |oL _ r=>cases n
 |oQ e' r=>cases e
theorem Z7.dK{ks:List Key}{ds:List D}(le:Ze F H)(h:Z7 K F H (.dK ks ds) v):∃a kvs,v= .ref a/\HK H a kvs/\kvs.map (·.1)=ks/\Reps K F ds (kvs.map (·.2)):=by
 obtain⟨sv,ns,e,n,sh,hp⟩:=h;cases sh with
 |fz r=>cases e;cases r with|dK h e r=>exact⟨_,_,rfl,⟨_,le _ _ h⟩,e,r⟩
 |ol r=>cases e
 |oK e' r=>cases e;exact⟨_,_,rfl,⟨_,hp _ ah⟩,e',r⟩
 |oT kb e' r=>cases e
 |oN e' r=>cases n
 |oX kb' e' r=>cases n
 |oD r=>cases n
 |oM kb' e' r=>cases n
 |oL _ r=>cases n
 |oQ e' r=>cases e;exact⟨_,_,rfl,⟨_,hp _ ah⟩,e',r⟩
theorem Z7.dT{ks:List (List Key)}{ds:List D}(le:Ze F H)(h:Z7 K F H (.dT ks ds) v):∃a kvs,v= .ref a/\HTt H a kvs/\kvs.map (·.1)=ks/\Reps K F ds (kvs.map (·.2)):=by
 obtain⟨sv,ns,e,n,sh,hp⟩:=h;cases sh with
 |fz r=>cases e;cases r with|dT h kb e r=>exact⟨_,_,rfl,⟨_,_,le _ _ h⟩,e,r⟩
 |ol r=>cases e
 |oK e' r=>cases e
 |oT kb e' r=>cases e;exact⟨_,_,rfl,⟨_,_,hp _ ah⟩,e',r⟩
 |oN e' r=>cases n
 |oX kb' e' r=>cases n
 |oD r=>cases n
 |oM kb' e' r=>cases n
 |oL _ r=>cases n
 |oQ e' r=>cases e
end
theorem Er{a:ak}:([a]:List ak).Nodup:=fq.mpr ⟨λh=>(nomatch h),c7⟩
def Fin(Z:Ent K)(F H:Hp)(σ:St)(δ:Yg)(own:Nat->Zo)(sv:SV)(Q:VK):Prop:=
 ∀v H' F' ns,Ze H H'->Ze F F'->SR Z F' H' σ δ own->TmpOk Z F' H' own sv v ns->Q v H'
section
variable{Z:Ent K}{F H:Hp}{σ:St}{δ:Yg}{own:Nat->Zo}{Q:VK}
theorem Fin.fz{d:D}{v:V}(f:Fin Z F H σ δ own (.fz d) Q)(s:SR Z F H σ δ own)(h:Rep K F d v):Q v H:=f v H F [] (Ze.refl H) (Ze.refl F) s (.fz h)
theorem Fin.one{sv:SV}{o:HO}{p:ak}(f:Fin Z F H σ δ own sv Q)(s:SR Z F H σ δ own)(sh:Shape K F sv (.ref p) [(p,o)])(hp:H p=aB):Q (.ref p) (Z5 H p o):=by
 have sm:=Qe (o:=o) hp;refine f (.ref p) (Z5 H p o) F [(p,o)] sm (Ze.refl F) (s.grow sm) ⟨sh,Er,λq hq=>?_,λi q r hq hr=>?_⟩
 ·obtain rfl:=au.mp hq;exact⟨s.le.free hp,s.old.free hp,Z3⟩
 ·obtain rfl:=au.mp hq;intro e;have e':p=r.1:=e;have z:=(s.ok i r hr).2.2;rw[<-e',hp]at z;cases z
theorem Fin.lst{xs:List D}{vs:List V}{p:ak}(f:Fin Z F H σ δ own (.ol xs) Q)(s:SR Z F H σ δ own)(r:Reps K F xs vs)(hp:H p=aB):Q (.ref p) (Z5 H p (.lst vs)):=f.one s (.ol r) hp
theorem Fin.tup{xs:List D}{vs:List V}{p:ak}(f:Fin Z F H σ δ own (.fz (.tup xs)) Q)(s:SR Z F H σ δ own)(r:Reps K F xs vs)(hp:H p=aB):Q (.ref p) (Z5 H p (.tup vs)):=by
 have sm:=Qe (o:=.tup vs) hp;have sF:Ze F (Qb F [(p,.tup vs)]):=Wt λq hq=>by obtain rfl:=au.mp hq;exact s.le.free hp
 refine f (.ref p) (Z5 H p (.tup vs)) (Qb F [(p,.tup vs)]) [] sm sF ?_ (.fz (.tup Z3 (r.mono sF)));refine(s.grow sm).addF (Er) (λq hq=>?_) (λq hq=>?_) (λq hq=>?_) λi q u hq hu=>?_
 ·obtain rfl:=au.mp hq;exact s.le.free hp
 ·obtain rfl:=au.mp hq;exact Z3
 ·obtain rfl:=au.mp hq;exact s.old.free hp
 ·obtain rfl:=au.mp hq;intro e;have e':p=u.1:=e;have z:=(s.ok i u hu).2.2;rw[<-e',hp]at z;cases z
end
theorem Q4{F:Hp}{d:D}{v:V}{ns:Zo}(h:Shape K F (.fz d) v ns):Rep K F d v:=by
 cases h with
 |fz r=>exact r
section
variable{Z:Ent K}{H:Hp}{σ:St}{Q:VK}
@[simp] def Za(i:Nat):FE:=λδ=>match δ[i]? with
 |some (aA (.fz d))=>aA (.tmp (.fz d),δ)
 |some (aA _)=>aA (.bw i,δ)
 |_=>aB
theorem Zpu{i:Nat}(h:Zc Z (Za i) σ H Q):Ja i σ H Q:=by
 obtain⟨F,δ,own,rv,δ',s,e,k⟩:=h;unfold Za at e;split at e
 ·rename_i d hd;cases e;obtain⟨v,h1,h2⟩:=s.at' i _ hd;exact⟨v,h1,k v H F own (Ze.refl H) (Ze.refl F) s ⟨[],.fz (Q4 h2)⟩⟩
 ·rename_i sv hsv hd;cases e;obtain⟨v,h1,h2⟩:=s.at' i _ hd;exact⟨v,h1,k v H F own (Ze.refl H) (Ze.refl F) s h1⟩
 ·cases e
@[simp] def Zh(d:D):FE:=λδ=>some (.tmp (.fz d),δ)
theorem Kz{d:D}{v:V}(hr:∀F,Rep K F d v)(h:Zc Z (Zh d) σ H Q):tC v σ H Q:=by obtain⟨F,δ,own,rv,δ',s,e,k⟩:=h;cases e;exact k v H F own (Ze.refl H) (Ze.refl F) s ⟨[],.fz (hr F)⟩
@[simp] def Zp:FA:=λδ=>some ([],δ)
@[simp] def Zd(fe:FE)(fa:FA):FA:=λδ=>(fe δ).bind λp=>(fa p.2).bind λq=>some (p.1::q.1,q.2)
theorem Zde{R:List V->Hp->Prop}(h:Bc Z Zp σ H R):Rz σ H R:=by obtain⟨F,δ,own,rvs,δ',s,e,k⟩:=h;cases e;exact k [] H F own (Ze.refl H) (Ze.refl F) s .nil
theorem Za5{fe:FE}{fa:FA}{R:List V->Hp->Prop}(h:Bc Z (Zd fe fa) σ H R):Ju (Zc Z fe) (Bc Z fa) σ H R:=by obtain⟨F,δ,own,rvs,δ',s,e,k⟩:=h;obtain⟨⟨rv,δ1⟩,e1,e2⟩:=aa.mp e;obtain⟨⟨rr,δ2⟩,e3,e4⟩:=aa.mp e2;cases e4;refine⟨F,δ,own,rv,δ1,s,e1,λv H1 F1 own1 sH sF s1 r1=>?_⟩;obtain⟨F2,sF2,s2,r2⟩:=s1.settleR r1;exact⟨F2,δ1,own1,rr,δ2,s2,e3,λvs H3 F3 own3 sH3 sF3 s3 r3=>k _ H3 F3 own3 (sH.trans sH3) (sF.trans (sF2.trans sF3)) s3 (.cons (r2.mono sF3) r3)⟩
@[simp] def Uo:List RV->Yg->Option (List D)
 | [],_=>aA []
 |rv::r,δ=>(Ev rv δ).bind λd=>(Uo r δ).bind λds=>aA (d::ds)
theorem SR.rdAll{F:Hp}{δ:Yg}{own:Nat->Zo}(s:SR Z F H σ δ own):∀{rvs:List RV} {vs:List V} {ds:List D},RVSs K F σ rvs vs->Uo rvs δ=aA ds->RepNs K F H ds vs
 |_,_,_,.nil,e=>by cases e;exact .nil
 |_,_,_,.cons h t,e=>by obtain⟨d,e1,e2⟩:=aa.mp e;obtain⟨ds,e3,e4⟩:=aa.mp e2;cases e4;exact .cons (s.rd h e1) (s.rdAll t e3)
@[simp] def Yl(g:List D->Option SV)(fa:FA):FE:=λδ=>(fa δ).bind λp=>(Uo p.1 p.2).bind λds=>(g ds).bind λsv=>some (.tmp sv,p.2)
def Jy(Z:Ent K)(r:List V->Hp->VK->Prop)(g:List D->Option SV):Prop:=
 ∀(F H:Hp) (σ:St) (δ:Yg) (own:Nat->Zo) (vs:List V) (ds:List D) (sv:SV) (Q:VK),SR Z F H σ δ own->RepNs K F H ds vs->g ds=aA sv->Fin Z F H σ δ own sv Q->r vs H Q
theorem K0{r:List V->Hp->VK->Prop}{g:List D->Option SV}{fa:FA}(hg:Jy Z r g)(h:Zc Z (Yl g fa) σ H Q):tCB r (Bc Z fa) σ H Q:=by obtain⟨F,δ,own,rv,δ',s,e,k⟩:=h;obtain⟨⟨rvs,δ1⟩,e1,e2⟩:=aa.mp e;obtain⟨ds,e3,e4⟩:=aa.mp e2;obtain⟨sv,e5,e6⟩:=aa.mp e4;cases e6;refine⟨F,δ,own,rvs,δ1,s,e1,λvs H1 F1 own1 sH sF s1 r1=>?_⟩;exact hg F1 H1 σ δ1 own1 vs ds sv Q s1 (s1.rdAll r1 e3) e5 λv H2 F2 ns sH2 sF2 s2 t=>k v H2 F2 own1 (sH.trans sH2) (sF.trans sF2) s2 ⟨ns,t⟩
@[simp] def g2(g:D->D->Option SV):List D->Option SV
 | [x,y]=>g x y
 |_=>aB
@[simp] def Zt(g:D->D->Option SV)(fa fb:FE):FE:=Yl (g2 g) (Zd fa (Zd fb Zp))
def Yw(Z:Ent K)(r:R2)(g:D->D->Option SV):Prop:=
 ∀(F H:Hp) (σ:St) (δ:Yg) (own:Nat->Zo) (x y:V) (d1 d2:D) (sv:SV) (Q:VK),SR Z F H σ δ own->Z7 K F H d1 x->Z7 K F H d2 y->g d1 d2=aA sv->Fin Z F H σ δ own sv Q->r x y H Q
theorem Io{r:R2}{g:D->D->Option SV}{fa fb:FE}(hg:Yw Z r g)(h:Zc Z (Zt g fa fb) σ H Q):tOp r (Zc Z fa) (Zc Z fb) σ H Q:=by
 have hN:Jy Z (λvs H Q=>∃x y,vs=[x,y]/\r x y H Q) (g2 g):=by
  intro F H σ δ own vs ds sv Q s rs e f;cases rs with
  |nil=>cases e
  |cons h1 t1=>
   cases t1 with
   |nil=>cases e
   |cons h2 t2=>
    cases t2 with
    |nil=>exact⟨_,_,rfl,hg F H σ δ own _ _ _ _ sv Q s h1 h2 e f⟩
    |cons h3 t3=>cases e
 obtain⟨F,δ,own,rv,δ',s,e,k⟩:=K0 hN h;obtain⟨⟨rv1,δ1⟩,e1,e2⟩:=aa.mp e;obtain⟨⟨rr,δ2⟩,e3,e4⟩:=aa.mp e2;cases e4;obtain⟨⟨rv2,δ3⟩,e5,e6⟩:=aa.mp e3;obtain⟨⟨rr',δ4⟩,e7,e8⟩:=aa.mp e6;cases e8;cases e7;refine⟨F,δ,own,rv1,δ1,s,e1,λv H1 F1 own1 sH sF s1 r1=>?_⟩;obtain⟨F2,sF2,s2,r2⟩:=s1.settleR r1;refine⟨F2,δ1,own1,rv2,δ3,s2,e5,λu H3 F3 own3 sH3 sF3 s3 r3=>?_⟩;obtain⟨F4,sF4,s4,r4⟩:=s3.settleR r3;obtain⟨x,y,exy,q⟩:=k [v,u] H3 F4 own3 (sH.trans sH3) (sF.trans (sF2.trans (sF3.trans sF4))) s4 (.cons (r2.mono (sF3.trans sF4)) (.cons r4 .nil));injection exy with ex ey
 injection ey with ey _;subst ex ey;exact q
@[simp] def unF(g:D->Option SV)(fa:FE):FE:=Yl (λ| [x]=>g x|_=>none) (Zd fa Zp)
def Zkh(Z:Ent K)(r:V->Hp->VK->Prop)(g:D->Option SV):Prop:=
 ∀(F H:Hp) (σ:St) (δ:Yg) (own:Nat->Zo) (x:V) (d:D) (sv:SV) (Q:VK),SR Z F H σ δ own->Z7 K F H d x->g d=aA sv->Fin Z F H σ δ own sv Q->r x H Q
theorem Zuy{r:V->Hp->VK->Prop}{g:D->Option SV}{fa:FE}(hg:Zkh Z r g)(h:Zc Z (unF g fa) σ H Q):tUn r (Zc Z fa) σ H Q:=by obtain⟨F,δ,own,rv,δ',s,e,k⟩:=h;obtain⟨⟨rvs,δ1⟩,e1,e2⟩:=aa.mp e;obtain⟨ds,e3,e4⟩:=aa.mp e2;obtain⟨sv,e5,e6⟩:=aa.mp e4;cases e6;obtain⟨⟨rv1,δ2⟩,e7,e8⟩:=aa.mp e1;obtain⟨⟨rr',δ4⟩,e9,e10⟩:=aa.mp e8;cases e10;cases e9;obtain⟨d,e11,e12⟩:=aa.mp e3;cases e12;refine⟨F,δ,own,rv1,δ2,s,e7,λv H1 F1 own1 sH sF s1 r1=>?_⟩;obtain⟨F2,sF2,s2,r2⟩:=s1.settleR r1;exact hg F2 H1 σ δ2 own1 v d sv Q s2 (s2.rd r2 e11) e5 λv H2 F2' ns sH2 sF2' s2 t=>k v H2 F2' own1 (sH.trans sH2) (sF.trans (sF2.trans sF2')) s2 ⟨ns,t⟩
@[simp] def Zl:FD:=λδ=>some ([],δ)
@[simp] def Zf(fe:FE)(fd:FD):FD:=λδ=>(fe δ).bind λp=>(frz p.1 p.2).bind λq=>(fd q.2).bind λr=>some (q.1::r.1,r.2)
theorem Ip{R:List V->Hp->Prop}(h:Wj Z Zl σ H R):Rz σ H R:=by obtain⟨F,δ,own,rvs,δ',s,e,k⟩:=h;cases e;exact k [] H F own (Ze.refl H) (Ze.refl F) s .nil
theorem Tv{fe:FE}{fd:FD}{R:List V->Hp->Prop}(h:Wj Z (Zf fe fd) σ H R):Ju (Zc Z fe) (Wj Z fd) σ H R:=by obtain⟨F,δ,own,rvs,δ',s,e,k⟩:=h;obtain⟨⟨rv,δ1⟩,e1,e2⟩:=aa.mp e;obtain⟨⟨d,δ2⟩,e3,e4⟩:=aa.mp e2;obtain⟨⟨ds,δ3⟩,e5,e6⟩:=aa.mp e4;cases e6;refine⟨F,δ,own,rv,δ1,s,e1,λv H1 F1 own1 sH sF s1 r1=>?_⟩;obtain⟨F2,sF2,s2,r2⟩:=s1.settleR r1;obtain⟨F3,own3,sF3,s3,r3⟩:=s2.frzR r2 e3;exact⟨F3,δ2,own3,ds,δ3,s3,e5,λvs H4 F4 own4 sH4 sF4 s4 r4=>k _ H4 F4 own4 (sH.trans sH4) (sF.trans (sF2.trans (sF3.trans sF4))) s4 (.cons (r3.mono sF4) r4)⟩
@[simp] def tupF(fd:FD):FE:=λδ=>(fd δ).bind λp=>if p.1.length<=a7 then some (.tmp (.fz (.tup p.1)),p.2)else none
@[simp] def Jk(fd:FD):FE:=λδ=>(fd δ).bind λp=>if p.1.length<=a7 then some (.tmp (.ol p.1),p.2)else none
theorem Zpw{fd:FD}(h:Zc Z (tupF fd) σ H Q):Zco (Wj Z fd) σ H Q:=by
 obtain⟨F,δ,own,rv,δ',s,e,k⟩:=h;obtain⟨⟨ds,δ1⟩,e1,e2⟩:=aa.mp e;by_cases hz:ds.length<=a7
 ·rw[if_pos hz]at e2;cases e2;refine⟨F,δ,own,ds,δ1,s,e1,λvs H1 F1 own1 sH sF s1 r1=>⟨by rw[<-r1.length];exact hz,λp hp=>?_⟩⟩;exact Fin.tup (λv H2 F2 ns a b c t=>k v H2 F2 own1 (sH.trans a) (sF.trans b) c ⟨ns,t⟩) s1 r1 hp
 ·rw[if_neg hz]at e2;cases e2
theorem Zpx{fd:FD}(h:Zc Z (Jk fd) σ H Q):Zl8 (Wj Z fd) σ H Q:=by
 obtain⟨F,δ,own,rv,δ',s,e,k⟩:=h;obtain⟨⟨ds,δ1⟩,e1,e2⟩:=aa.mp e;by_cases hz:ds.length<=a7
 ·rw[if_pos hz]at e2;cases e2;refine⟨F,δ,own,ds,δ1,s,e1,λvs H1 F1 own1 sH sF s1 r1=>⟨by rw[<-r1.length];exact hz,λp hp=>?_⟩⟩;exact Fin.lst (λv H2 F2 ns a b c t=>k v H2 F2 own1 (sH.trans a) (sF.trans b) c ⟨ns,t⟩) s1 r1 hp
 ·rw[if_neg hz]at e2;cases e2
end
@[simp] def SV.scal:SV->Bool
 | .fz .non=>aC
 | .fz (.bl _)=>aC
 | .fz (.int _)=>aC
 | .fz (.str _)=>aC
 |_=>aD
def Y6(K:af)(n:Nat)(g:List D->Option SV):Sp:=λvs H Q _=>∃F ds sv,Ze F H/\Reps K F ds vs/\ds.length=n/\g ds=aA sv/\
 ∀v H' F' ns,Ze H H'->Ze F F'->Ze F' H'->(∀(b:ak) (o:HO),F' b=aA o->F b=aA o\/H b=aB)->Shape K F' sv v ns->(Cu ns).Nodup->(∀p∈ns,F' p.1=aB/\H p.1=aB/\H' p.1=aA p.2)->Q v H'
@[simp] def frzAll:List RV->Yg->Option (List D×Yg)
 | [],δ=>aA ([],δ)
 |rv::r,δ=>(frz rv δ).bind λp=>(frzAll r p.2).bind λq=>aA (p.1::q.1,q.2)
theorem RVSs.mono{F F':Hp}{σ:St}(s:Ze F F'){rvs:List RV}{vs:List V}(h:RVSs K F σ rvs vs):RVSs K F' σ rvs vs:=by
 induction h with
 |nil=>exact .nil
 |cons h _ ih=>exact .cons (h.mono s) ih
section
variable{Z:Ent K}{H:Hp}{σ:St}{Q:VK}
theorem SR.frzAll{F:Hp}{δ:Yg}{own:Nat->Zo}:∀{rvs:List RV} {vs:List V} {ds:List D} {δ':Yg} {F:Hp} {δ:Yg} {own:Nat->Zo},SR Z F H σ δ own->RVSs K F σ rvs vs->DL.frzAll rvs δ=aA (ds,δ')->
  ∃F1 own1,Ze F F1/\SR Z F1 H σ δ' own1/\Reps K F1 ds vs
 |_,_,_,_,F,_,own,s,.nil,e=>by cases e;exact⟨F,own,Ze.refl F,s,.nil⟩
 |_,_,_,_,F,_,own,s,.cons h t,e=>by obtain⟨⟨d,δ1⟩,e1,e2⟩:=aa.mp e;obtain⟨⟨ds,δ2⟩,e3,e4⟩:=aa.mp e2;cases e4;obtain⟨F1,own1,sF1,s1,r1⟩:=s.frzR h e1;obtain⟨F2,own2,sF2,s2,r2⟩:=SR.frzAll (own:=own) (F:=F) (δ:=δ1) s1 (t.mono sF1) e3;exact⟨F2,own2,sF1.trans sF2,s2,.cons (r1.mono sF2) r2⟩
@[simp] def We(n:Nat)(g:List D->Option SV)(fa:FA):FE:=λδ=>(fa δ).bind λp=>(DL.frzAll p.1 p.2).bind λq=>if q.1.length=n then(g q.1).bind λsv=>some (.tmp sv,if sv.scal then p.2 else q.2)else none
theorem Zdf{F F':Hp}{sv:SV}{v:V}{ns:Zo}(h:sv.scal=aC)(sh:Shape K F sv v ns):ns=[]/\Shape K F' sv v []:=by
 cases sh with
 |fz r=>
  refine⟨rfl,.fz ?_⟩;cases r with
  |non=>exact .non
  |bl b=>exact .bl b
  |int i=>exact .int i
  |str x=>exact .str x
  |tup _ _=>cases h
  |lst _ _ _=>cases h
  |dK _ _ _=>cases h
  |dT _ _ _ _=>cases h
  |exc _ _=>cases h
  |dX _ _ _ _=>cases h
  |exd _ _ _ _ _=>cases h
 |ol _=>cases h
 |oK _ _=>cases h
 |oT _ _ _=>cases h
 |oN _ _=>cases h
 |oX _ _ _=>cases h
 |oD _=>cases h
 |oM _ _ _=>cases h
 |oL _ _=>cases h
 |oQ _ _=>cases h
theorem Zmk{n:Nat}{g:List D->Option SV}{fa:FA}{E:XK}(h:Zc Z (We n g fa) σ H Q):Nn (Y6 K n g) [] E (Bc Z fa) σ H Q:=by
 obtain⟨F,δ,own,rv,δ',s,e,k⟩:=h;obtain⟨⟨rvs,δ1⟩,e1,e2⟩:=aa.mp e;obtain⟨⟨ds,δ2⟩,e3,e4⟩:=aa.mp e2;by_cases hn:ds.length=n
 ·rw[if_pos hn]at e4;obtain⟨sv,e5,e6⟩:=aa.mp e4;refine⟨F,δ,own,rvs,δ1,s,e1,λvs H1 F1 own1 sH sF s1 r1=>?_⟩;obtain⟨F2,own2,sF2,s2,r2⟩:=s1.frzAll (own:=own) (F:=F) (δ:=δ) r1 e3;rw[List.append_nil];refine⟨F2,ds,sv,s2.le,r2,hn,e5,λv H3 F3 ns sH3 sF3 le3 fro3 sh nd ok=>?_⟩;by_cases hs:sv.scal=aC
  ·rw[if_pos hs]at e6;cases e6;obtain⟨_,sh'⟩:=Zdf (F':=F1) hs sh;exact k v H3 F1 own1 (sH.trans sH3) sF (s1.grow sH3) ⟨[],sh',c7,λ_ h=>(nomatch h),λ_ _ _ h=>(nomatch h)⟩
  ·rw[if_neg hs]at e6;cases e6;have s3:SR Z F3 H3 σ δ2 own2:=by
    refine⟨le3,λb o e=>?_,s2.old.trans sH3,s2.len,λi sw ei=>?_,s2.nod,λi p hp=>?_,s2.sep⟩
    ·rcases fro3 b o e with z|z
     ·exact s2.fro b o z
     ·exact .inr (s2.old.free z)
    ·obtain⟨w,h1,h2⟩:=s2.at' i sw ei;exact⟨w,h1,h2.mono sF3⟩
    ·obtain⟨a,b,c⟩:=s2.ok i p hp;refine⟨?_,b,sH3 _ _ c⟩;cases z:F3 p.1 with
     |none=>rfl
     |some u=>
      rcases fro3 _ u z with y|y
      ·rw[a]at y;cases y
      ·rw[c]at y;cases y
   exact k v H3 F3 own2 (sH.trans sH3) (sF.trans (sF2.trans sF3)) s3 ⟨ns,sh,nd,λp hp=>⟨(ok p hp).1,(s2.old).free (ok p hp).2.1,(ok p hp).2.2⟩,λi p q hp hq e=>by
    have z:=(s2.ok i q hq).2.2;rw[<-e,(ok p hp).2.1]at z;cases z⟩
 ·rw[if_neg hn]at e4;cases e4
end
end DL
namespace DL
open PySem L2
variable{K:af}
section
variable{Z:Ent K}{H:Hp}{σ:St}{R:Bool->Hp->Prop}{Q:VK}
@[simp] def Y5(fe:FE):FT:=λδ=>(fe δ).bind λp=>match p.1 with
 | .tmp (.fz (.bl b))=>aA (b,p.2)
 |_=>aB
theorem Zdg{fe:FE}(h:Yh Z (Y5 fe) σ H R):Zj6 (Zc Z fe) σ H R:=by
 obtain⟨F,δ,own,b,δ',s,e,k⟩:=h;obtain⟨⟨rv,δ1⟩,e1,e2⟩:=aa.mp e;refine⟨F,δ,own,rv,δ1,s,e1,λv H1 F1 own1 sH sF s1 r1=>?_⟩;dsimp only at e2;split at e2
 ·cases e2;obtain⟨ns,t⟩:=r1;cases Q4 t.sh;exact⟨_,rfl,k H1 F1 own1 sH sF s1⟩
 ·cases e2
theorem Zhz{fe:FE}(h:Yh Z (Y5 fe) σ H R):tB (Zc Z fe) σ H R:=Zdg h
@[simp] def Zz0(f g:FT):FT:=λδ=>(f δ).bind λp=>if p.1=true then g p.2 else some (false,p.2)
@[simp] def orF(f g:FT):FT:=λδ=>(f δ).bind λp=>if p.1=true then some (true,p.2)else g p.2
@[simp] def Zh0(f:FT):FT:=λδ=>(f δ).bind λp=>some (!p.1,p.2)
theorem Zuz{f g:FT}(h:Yh Z (orF f g) σ H R):tOr (Yh Z f) (Yh Z g) σ H R:=by
 obtain⟨F,δ,own,b,δ',s,e,k⟩:=h;obtain⟨⟨c,δ1⟩,e1,e2⟩:=aa.mp e;refine⟨F,δ,own,c,δ1,s,e1,λH1 F1 own1 sH sF s1=>?_⟩;cases c with
 |true=>rw[if_pos rfl]at e2⊢;cases e2;exact k H1 F1 own1 sH sF s1
 |false=>rw[if_neg bh]at e2⊢;exact⟨F1,δ1,own1,b,δ',s1,e2,λH2 F2 own2 a c d=>k H2 F2 own2 (sH.trans a) (sF.trans c) d⟩
theorem Zpy{f:FT}(h:Yh Z (Zh0 f) σ H R):Zo5 (Yh Z f) σ H R:=by obtain⟨F,δ,own,b,δ',s,e,k⟩:=h;obtain⟨⟨c,δ1⟩,e1,e2⟩:=aa.mp e;cases e2;exact⟨F,δ,own,c,δ1,s,e1,k⟩
@[simp] def Zz1(f g:FE):FE:=λδ=>(Y5 f δ).bind λp=>if p.1=true then g p.2 else some (.tmp (.fz (.bl false)),p.2)
@[simp] def orV(f g:FE):FE:=λδ=>(Y5 f δ).bind λp=>if p.1=true then some (.tmp (.fz (.bl true)),p.2)else g p.2
@[simp] def Zz2(f:FE):FE:=λδ=>(Y5 f δ).bind λp=>some (.tmp (.fz (.bl (!p.1))),p.2)
@[simp] def ifF(t:FT)(f g:FE):FE:=λδ=>(t δ).bind λp=>if p.1=true then f p.2 else g p.2
@[simp] def Zu0(g g':D->D->Option SV)(fa fb fc:FE):FE:=λδ=>(fa δ).bind λp=>(fb p.2).bind λq=>(Ev p.1 q.2).bind λx=>(Ev q.1 q.2).bind λy=>(g x y).bind fun
 | .fz (.bl aC)=>(fc q.2).bind λr=>(Ev q.1 r.2).bind λy'=>(Ev r.1 r.2).bind λz=>(g' y' z).bind λsv=>aA (.tmp sv,r.2)
 | .fz (.bl aD)=>aA (.tmp (.fz (.bl aD)),q.2)
 |_=>aB
end
inductive Fl where
 |nx (δ:Yg)|bk (δ:Yg)|ct (δ:Yg)|rt (sv:SV)|ex (e:Exn) (δ:Yg)
abbrev FS:=Yg->Option Fl
def K4(Z:Ent K)(F:Hp)(D:Yq):Fl->Prop
 | .nx δ=>∀σ' H' F' own',Ze F F'->SR Z F' H' σ' δ own'->D.nx σ' H'
 | .bk δ=>∀σ' H' F' own',Ze F F'->SR Z F' H' σ' δ own'->D.bk σ' H'
 | .ct δ=>∀σ' H' F' own',Ze F F'->SR Z F' H' σ' δ own'->D.ct σ' H'
 | .rt sv=>∀v H' F' ns,Ze F F'->Ze F' H'->(∀(b:ak) (o:HO),F' b=aA o->Z.f b=aA o\/Z.h b=aB)->Ze Z.h H'->Shape K F' sv v ns->(Cu ns).Nodup->
   (∀p∈ns,F' p.1=aB/\Z.h p.1=aB/\H' p.1=aA p.2)->D.rt v H'
 | .ex x δ=>∀σ' H' F' own' cls od,Ze F F'->SR Z F' H' σ' δ own'->Ky K F' x cls od->Z.x cls od σ' H'
theorem K4.mono{Z:Ent K}{F F':Hp}{D:Yq}(s:Ze F F'):∀{fl:Fl},K4 Z F D fl->K4 Z F' D fl
 | .nx _,h=>λσ' H' F2 own' a b=>h σ' H' F2 own' (s.trans a) b
 | .bk _,h=>λσ' H' F2 own' a b=>h σ' H' F2 own' (s.trans a) b
 | .ct _,h=>λσ' H' F2 own' a b=>h σ' H' F2 own' (s.trans a) b
 | .rt _,h=>λv H' F2 ns a=>h v H' F2 ns (s.trans a)
 | .ex _ _,h=>λσ' H' F2 own' cls od a=>h σ' H' F2 own' cls od (s.trans a)
def Z1(Z:Ent K)(f:FS):TS:=λD σ H=>∃F δ own fl,SR Z F H σ δ own/\f δ=aA fl/\K4 Z F D fl
section
variable{Z:Ent K}{H:Hp}{σ:St}{E:Yq}
@[simp] def Bv:FS:=λδ=>some (.nx δ)
@[simp] def Zu1:FS:=λδ=>some (.bk δ)
@[simp] def Zxj:FS:=λδ=>some (.ct δ)
theorem Zml(h:Z1 Z Bv E σ H):Tj E σ H:=by obtain⟨F,δ,own,fl,s,e,k⟩:=h;cases e;exact k σ H F own (Ze.refl F) s
@[simp] def Yc(f g:FS):FS:=λδ=>(f δ).bind fun
 | .nx δ'=>g δ'
 |fl=>aA fl
theorem Zki{f g:FS}(h:Z1 Z (Yc f g) E σ H):Tk (Z1 Z f) (Z1 Z g) E σ H:=by
 obtain⟨F,δ,own,fl,s,e,k⟩:=h;obtain⟨f1,e1,e2⟩:=aa.mp e;refine⟨F,δ,own,f1,s,e1,?_⟩;cases f1 with
 |nx δ1=>exact λσ' H' F' own' sF s'=>⟨F',δ1,own',fl,s',e2,k.mono sF⟩
 |bk δ1=>cases e2;exact k
 |ct δ1=>cases e2;exact k
 |rt sv=>cases e2;exact k
 |ex x δ1=>cases e2;exact k
@[simp] def ifS(t:FT)(f g:FS):FS:=λδ=>(t δ).bind λp=>if p.1=true then f p.2 else g p.2
theorem Zpz{t:FT}{f g:FS}(h:Z1 Z (ifS t f g) E σ H):S0 (Yh Z t) (Z1 Z f) (Z1 Z g) E σ H:=by
 obtain⟨F,δ,own,fl,s,e,k⟩:=h;obtain⟨⟨c,δ1⟩,e1,e2⟩:=aa.mp e;refine⟨F,δ,own,c,δ1,s,e1,λH1 F1 own1 sH sF s1=>?_⟩;cases c with
 |true=>rw[if_pos rfl]at e2⊢;exact⟨F1,δ1,own1,fl,s1,e2,k.mono sF⟩
 |false=>rw[if_neg bh]at e2⊢;exact⟨F1,δ1,own1,fl,s1,e2,k.mono sF⟩
@[simp] def Zxk(fe:FE):FS:=λδ=>(fe δ).bind λp=>some (.nx p.2)
@[simp] def Zp0:RV->Yg->Option SV
 | .tmp sv,_=>aA sv
 | .bw i,δ=>δ[i]?.join
@[simp] def Bi(fe:FE):FS:=λδ=>(fe δ).bind λp=>(Zp0 p.1 p.2).bind λsv=>some (.rt sv)
theorem Zp1{fe:FE}(h:Z1 Z (Bi fe) E σ H):Zl0 (Zc Z fe) E σ H:=by
 obtain⟨F,δ,own,fl,s,e,k⟩:=h;obtain⟨⟨rv,δ1⟩,e1,e2⟩:=aa.mp e;obtain⟨sv,e3,e4⟩:=aa.mp e2;cases e4;refine⟨F,δ,own,rv,δ1,s,e1,λv H1 F1 own1 sH sF s1 r1=>?_⟩;cases rv with
 |tmp sw=>cases e3;obtain⟨ns,t⟩:=r1;exact k v H1 F1 ns sF s1.le s1.fro s1.old t.sh t.nd t.ok
 |bw i=>obtain⟨w,h1,h2⟩:=s1.at' i sv (U7 e3);have r1':σ[i]? =aA (aA v):=r1;rw[r1']at h1;cases h1;exact k v H1 F1 (own1 i) sF s1.le s1.fro s1.old h2 (s1.nod i) (s1.ok i)
@[simp] def Zz3:FS:=λδ=>some (.rt (.fz .non))
@[simp] def stow(i:Nat):RV->Yg->Option Yg
 | .tmp sv,δ=>if i<δ.length then aA (δ.set i (aA sv))else aB
 | .bw j,δ=>(frz (.bw j) δ).bind λp=>if i<p.2.length then aA (p.2.set i (aA (.fz p.1)))else aB
theorem SR.stow{F:Hp}{δ δ':Yg}{own:Nat->Zo}{i:Nat}{rv:RV}{v:V}(s:SR Z F H σ δ own)(r:Hj Z F H σ own rv v)(e:DL.stow i rv δ=aA δ'):∃F' own',Ze F F'/\SR Z F' H (σ.set i (aA v)) δ' own':=by
 cases rv with
 |tmp sv=>
  obtain⟨ns,t⟩:=r;have e:(if i<δ.length then aA (δ.set i (aA sv))else aB)=aA δ':=e;by_cases hi:i<δ.length
  ·rw[if_pos hi]at e;cases e;exact⟨F,_,Ze.refl F,s.store t (by rw[s.len];exact hi)⟩
  ·rw[if_neg hi]at e;cases e
 |bw j=>
  obtain⟨⟨d,δ1⟩,e1,e2⟩:=aa.mp e;obtain⟨F1,own1,sF,s1,r1⟩:=s.frzR (rv:=.bw j) (v:=v) r e1;by_cases hi:i<δ1.length
  ·rw[if_pos hi]at e2;cases e2;exact⟨F1,_,sF,s1.store (.fz r1) (by rw[s1.len];exact hi)⟩
  ·rw[if_neg hi]at e2;cases e2
@[simp] def Wd(i:Nat)(fe:FE):FS:=λδ=>(fe δ).bind λp=>(stow i p.1 p.2).bind λδ'=>some (.nx δ')
theorem Zkj{i:Nat}{fe:FE}(h:Z1 Z (Wd i fe) E σ H):Kh (Zc Z fe) (Ul i) E σ H:=by obtain⟨F,δ,own,fl,s,e,k⟩:=h;obtain⟨⟨rv,δ1⟩,e1,e2⟩:=aa.mp e;obtain⟨δ2,e3,e4⟩:=aa.mp e2;cases e4;refine⟨F,δ,own,rv,δ1,s,e1,λv H1 F1 own1 sH sF s1 r1=>?_⟩;obtain⟨F2,own2,sF2,s2⟩:=s1.stow r1 e3;exact k _ H1 F2 own2 (sF.trans sF2) s2
set_option genInjectivity false in
structure FG where
 run:D->Yg->Option Yg
 tch:List Nat
set_option genInjectivity false in
structure FGs where
 run:List D->Yg->Option Yg
 tch:List Nat
def Bd(Z:Ent K)(g:FG):TG:=λv σ H Q=>∃F δ own d δ',SR Z F H σ δ own/\Rep K F d v/\g.run d δ=aA δ'/\∀σ' own',SR Z F H σ' δ' own'->(∀j:Nat,j∉g.tch->σ'[j]? =σ[j]?)->Q σ' H
def Bw(Z:Ent K)(g:FGs):TGs:=λvs σ H Q=>∃F δ own ds δ',SR Z F H σ δ own/\Reps K F ds vs/\g.run ds δ=aA δ'/\∀σ' own',SR Z F H σ' δ' own'->(∀j:Nat,j∉g.tch->σ'[j]? =σ[j]?)->Q σ' H
def Zg(i:Nat):FG:=⟨λd δ=>if i<δ.length then aA (δ.set i (aA (.fz d)))else aB,[i]⟩
theorem Zh1{i:Nat}{v:V}{Q:St->Hp->Prop}(h:Bd Z (Zg i) v σ H Q):Ul i v σ H Q:=by
 obtain⟨F,δ,own,d,δ',s,r,e,k⟩:=h;have e:(if i<δ.length then aA (δ.set i (aA (.fz d)))else aB)=aA δ':=e;by_cases hi:i<δ.length
 ·rw[if_pos hi]at e;cases e;exact k _ _ (s.store (.fz r) (by rw[s.len];exact hi)) λj hj=>d6 λz=>hj (by rw[z];exact ah)
 ·rw[if_neg hi]at e;cases e
def Wb:FGs:=⟨λds δ=>match ds with
 | []=>aA δ
 |_=>aB,[]⟩
def Zu(g:FG)(r:FGs):FGs:=⟨λds δ=>match ds with
 |d::t=>(g.run d δ).bind λδ1=>r.run t δ1
 | []=>aB,g.tch++r.tch⟩
@[simp] theorem Zor(i:Nat)(d:D)(δ:Yg):(Zg i).run d δ=if i<δ.length then some (δ.set i (some (.fz d)))else none:=rfl
@[simp] theorem Zp2(δ:Yg):Wb.run [] δ=some δ:=rfl
@[simp] theorem Zos(g:FG)(r:FGs)(d:D)(t:List D)(δ:Yg):(Zu g r).run (d::t) δ=(g.run d δ).bind λδ1=>r.run t δ1:=rfl
theorem Zmm{vs:List V}{Q:St->Hp->Prop}(h:Bw Z Wb vs σ H Q):Zo7 vs σ H Q:=by
 obtain⟨F,δ,own,ds,δ',s,r,e,k⟩:=h;cases r with
 |nil=>cases e;exact⟨rfl,k σ own s λ_ _=>rfl⟩
 |cons h t=>cases e
theorem Zh2{g:FG}{r:FGs}{vs:List V}{Q:St->Hp->Prop}(h:Bw Z (Zu g r) vs σ H Q):Zj3 (Bd Z g) (Bw Z r) vs σ H Q:=by
 obtain⟨F,δ,own,ds,δ',s,rr,e,k⟩:=h;cases rr with
 |nil=>cases e
 |cons h t=>obtain⟨δ1,e1,e2⟩:=aa.mp e;exact⟨_,_,rfl,F,δ,own,_,δ1,s,h,e1,λσ1 own1 s1 t1=>⟨F,δ1,own1,_,δ',s1,t,e2,λσ2 own2 s2 t2=>k σ2 own2 s2 λj hj=>(t2 j λz=>hj (c6 _ z)).trans (t1 j λz=>hj (List.mem_append_left _ z))⟩⟩
def Wa(n:Nat)(g:FGs):FG:=⟨λd δ=>match d with
 | .tup xs=>if xs.length=n then g.run xs δ else aB
 |_=>aB,g.tch⟩
@[simp] theorem Zp3(n:Nat)(g:FGs)(xs:List D)(δ:Yg):(Wa n g).run (.tup xs) δ=if xs.length=n then g.run xs δ else none:=rfl
theorem Zmn{n:Nat}{g:FGs}{v:V}{Q:St->Hp->Prop}(h:Bd Z (Wa n g) v σ H Q):Zo8 K n (Bw Z g) v σ H Q:=by
 obtain⟨F,δ,own,d,δ',s,r,e,k⟩:=h;dsimp only[Wa]at e;split at e
 ·rename_i xs;by_cases hn:xs.length=n
  ·rw[if_pos hn]at e;cases r with
   |tup h r=>exact⟨_,_,rfl,W0 s.le (Bb h),by rw[<-r.length];exact hn,F,δ,own,_,δ',s,r,e,k⟩
  ·rw[if_neg hn]at e;cases e
 ·cases e
@[simp] def K5(g:FG)(fe:FE):FS:=λδ=>(fe δ).bind λp=>(frz p.1 p.2).bind λq=>(g.run q.1 q.2).bind λδ'=>some (.nx δ')
theorem Zdi{g:FG}{fe:FE}(h:Z1 Z (K5 g fe) E σ H):Kh (Zc Z fe) (Bd Z g) E σ H:=by obtain⟨F,δ,own,fl,s,e,k⟩:=h;obtain⟨⟨rv,δ1⟩,e1,e2⟩:=aa.mp e;obtain⟨⟨d,δ2⟩,e3,e4⟩:=aa.mp e2;obtain⟨δ3,e5,e6⟩:=aa.mp e4;cases e6;refine⟨F,δ,own,rv,δ1,s,e1,λv H1 F1 own1 sH sF s1 r1=>?_⟩;obtain⟨F2,sF2,s2,r2⟩:=s1.settleR r1;obtain⟨F3,own3,sF3,s3,r3⟩:=s2.frzR r2 e3;exact⟨F3,δ2,own3,d,δ3,s3,r3,e5,λσ' own' s' _=>k σ' H1 F3 own' (sF.trans (sF2.trans sF3)) s'⟩
@[simp] def Yi(tg:FG)(body:FS):List D->Yg->Option Fl
 | [],δ=>aA (.nx δ)
 |d::ds,δ=>(tg.run d δ).bind λδ1=>(body δ1).bind fun
  | .nx δ2=>Yi tg body ds δ2
  | .ct δ2=>Yi tg body ds δ2
  | .bk δ2=>aA (.nx δ2)
  | .rt sv=>aA (.rt sv)
  | .ex x δ2=>aA (.ex x δ2)
def Ux(K:af)(J:It)(F:Hp)(ds:List D):Prop:=∀F' H,Ze F F'->Ze F' H->∀i:Nat,
 (∀d,ds[i]? =aA d->J.go i H/\∀x H',J.yld i H x H'->Ze H H'/\∃ns,(Cu ns).Nodup/\(∀p∈ns,H p.1=aB/\H' p.1=aA p.2)/\Rep K (Qb F' ns) d x)/\(ds.length<=i->J.stop i H)
def W5(Z:Ent K)(f:FD):TI:=λσ H R=>∃F δ own ds δ',SR Z F H σ δ own/\f δ=aA (ds,δ')/\
 ∀J H' F' own',Ze H H'->Ze F F'->SR Z F' H' σ δ' own'->Ux K J F' ds->R J H'
@[simp] def Bj(fi:FD)(tg:FG)(body:FS):FS:=λδ=>(fi δ).bind λp=>Yi tg body p.1 p.2
theorem SR.fresh{F H':Hp}{δ:Yg}{own:Nat->Zo}{ns:Zo}(s:SR Z F H σ δ own)(sm:Ze H H')(nd:(Cu ns).Nodup)(h:∀p∈ns,H p.1=aB/\H' p.1=aA p.2):Ze F (Qb F ns)/\SR Z (Qb F ns) H' σ δ own:=by refine⟨Wt λp hp=>s.le.free (h p hp).1,(s.grow sm).addF nd (λp hp=>s.le.free (h p hp).1) (λp hp=>(h p hp).2) (λp hp=>s.old.free (h p hp).1) λi p q hp hq e=>?_⟩;have z:=(s.ok i q hq).2.2;rw[<-e,(h p hp).1]at z;cases z
theorem Zp4{fi:FD}{tg:FG}{body:FS}(h:Z1 Z (Bj fi tg body) E σ H):Zau (W5 Z fi) (Bd Z tg) (Z1 Z body) E σ H:=by
 obtain⟨F,δ,own,fl,s,e,k⟩:=h;obtain⟨⟨ds,δ1⟩,e1,e2⟩:=aa.mp e;refine⟨F,δ,own,ds,δ1,s,e1,λJ H1 F1 own1 sH sF s1 yl=>?_⟩;refine⟨λi m σ H=>m=ds.length- i/\i<=ds.length/\∃F δ own,Ze F1 F/\SR Z F H σ δ own/\Yi tg body (ds.drop i) δ=aA fl,⟨ds.length,by simp,dn _,F1,δ1,own1,Ze.refl F1,s1,e2⟩,?_⟩;rintro i m σ' H' ⟨rfl,hi,F2,δ2,own2,sF2,s2,ef⟩;by_cases hlt:i<ds.length
 ·have hd:ds[i]? =aA ds[i]:=by simp[hlt]
  obtain⟨go,yy⟩:=(yl F2 H' sF2 s2.le i).1 _ hd;rw[List.drop_eq_getElem_cons hlt]at ef;obtain⟨δ3,e3,e4⟩:=aa.mp ef;obtain⟨f1,e5,e6⟩:=aa.mp e4;refine .inr ⟨go,λσ4 H4=>∃F δ own,Ze F1 F/\SR Z F H4 σ4 δ own/\Yi tg body (ds.drop (i+1)) δ=aA fl,λσ4 H4 ⟨F4,δ4,own4,a,b,c⟩=>⟨ds.length- (i+1),by omega,rfl,hlt,F4,δ4,own4,a,b,c⟩,λx H3 hy=>?_⟩;obtain⟨sm,ns,nd,hn,rp⟩:=yy x H3 hy;obtain⟨sFn,sn⟩:=s2.fresh sm nd hn;refine⟨Qb F2 ns,δ2,own2,_,δ3,sn,rp,e3,λσ5 own5 s5 _=>⟨Qb F2 ns,δ3,own5,f1,s5,e5,?_⟩⟩;cases f1 with
  |nx δ6=>exact λσ6 H6 F6 own6 a b=>⟨F6,δ6,own6,sF2.trans (sFn.trans a),b,e6⟩
  |ct δ6=>exact λσ6 H6 F6 own6 a b=>⟨F6,δ6,own6,sF2.trans (sFn.trans a),b,e6⟩
  |bk δ6=>cases e6;exact λσ6 H6 F6 own6 a b=>k σ6 H6 F6 own6 (sF.trans (sF2.trans (sFn.trans a))) b
  |rt sv=>cases e6;exact λv H6 F6 ns6 a=>k v H6 F6 ns6 (sF.trans (sF2.trans (sFn.trans a)))
  |ex x δ6=>cases e6;exact λσ6 H6 F6 own6 cls od a=>k σ6 H6 F6 own6 cls od (sF.trans (sF2.trans (sFn.trans a)))
 ·have hz:i=ds.length:=by omega
  subst hz;rw[List.drop_length]at ef;cases ef;exact .inl ⟨(yl F2 H' sF2 s2.le _).2 (a8 _),k σ' H' F2 own2 (sF.trans sF2) s2⟩
def Jz(t:FT)(body:FS):Nat->Yg->Option Fl
 |0,_=>aB
 |n+1,δ=>(t δ).bind λp=>if p.1=aC then(body p.2).bind (fun
  | .nx δ2=>Jz t body n δ2
  | .ct δ2=>Jz t body n δ2
  | .bk δ2=>aA (.nx δ2)
  | .rt sv=>aA (.rt sv)
  | .ex x δ2=>aA (.ex x δ2))else aA (.nx p.2)
theorem Zh3{n:Nat}{t:FT}{body:FS}(h:Z1 Z (Jz t body n) E σ H):Zch (Yh Z t) (Z1 Z body) E σ H:=by
 obtain⟨F,δ,own,fl,s,e,k⟩:=h;refine⟨λm σ H=>∃F2 δ own,Ze F F2/\SR Z F2 H σ δ own/\Jz t body m δ=aA fl,⟨n,F,δ,own,Ze.refl F,s,e⟩,?_⟩;rintro m σ1 H1 ⟨F1,δ1,own1,sF1,s1,e1⟩;cases m with
 |zero=>cases e1
 |succ m=>
  obtain⟨⟨c,δ2⟩,e2,e3⟩:=aa.mp e1;refine⟨F1,δ1,own1,c,δ2,s1,e2,λH2 F2 own2 sH sF2 s2=>?_⟩;cases c with
  |false=>rw[if_neg bh]at e3⊢;cases e3;exact k σ1 H2 F2 own2 (sF1.trans sF2) s2
  |true=>
   rw[if_pos rfl]at e3⊢;obtain⟨f1,e4,e5⟩:=aa.mp e3;refine⟨λσ' H'=>∃F2 δ own,Ze F F2/\SR Z F2 H' σ' δ own/\Jz t body m δ=aA fl,λσ' H' w=>⟨m,Nat.lt_succ_self m,w⟩,F2,δ2,own2,f1,s2,e4,?_⟩;cases f1 with
   |nx δ6=>exact λσ6 H6 F6 own6 a b=>⟨F6,δ6,own6,sF1.trans (sF2.trans a),b,e5⟩
   |ct δ6=>exact λσ6 H6 F6 own6 a b=>⟨F6,δ6,own6,sF1.trans (sF2.trans a),b,e5⟩
   |bk δ6=>cases e5;exact λσ6 H6 F6 own6 a b=>k σ6 H6 F6 own6 (sF1.trans (sF2.trans a)) b
   |rt sv=>cases e5;exact λv H6 F6 ns6 a=>k v H6 F6 ns6 (sF1.trans (sF2.trans a))
   |ex x δ6=>cases e5;exact λσ6 H6 F6 own6 cls od a=>k σ6 H6 F6 own6 cls od (sF1.trans (sF2.trans a))
@[simp] def Zz4(fe:FE):FD:=λδ=>(fe δ).bind λp=>(frz p.1 p.2).bind λq=>match q.1 with
 | .lst xs=>aA (xs,q.2)
 | .tup xs=>aA (xs,q.2)
 |_=>aB
def Zdj(K:af)(tl:TE):TI:=λσ H R=>tl σ H λx H1=>(∃a,x= .ref a/\(∃xs,Wp K H1 a xs)/\R (Itl K a) H1)\/(∃a,x= .ref a/\(∃xs,Uk K H1 a xs)/\R (Itt K a) H1)
theorem Nz{F:Hp}{a:ak}{xs:List D}{vs:List V}(h:Wp K F a vs)(r:Reps K F xs vs):Ux K (Itl K a) F xs:=λF' H sF sH i=>by have q:Wp K H a vs:=Y2 (sF.trans sH) h;refine⟨λd hd=>?_,λhl=>⟨vs,q,by rw[<-r.length];exact hl⟩⟩;obtain⟨v,h1,h2⟩:=r.get hd;refine⟨⟨vs,v,q,h1⟩,λx H' zq9=>?_⟩;obtain⟨e1,e2⟩:=zq9;subst e1;have e3:=e2 vs q;rw[h1]at e3;cases e3;exact⟨Ze.refl _,[],c7,λ_ h=>(nomatch h),h2.mono sF⟩
theorem Vf{F:Hp}{a:ak}{xs:List D}{vs:List V}(h:Uk K F a vs)(r:Reps K F xs vs):Ux K (Itt K a) F xs:=λF' H sF sH i=>by have q:Uk K H a vs:=W0 (sF.trans sH) h;refine⟨λd hd=>?_,λhl=>⟨vs,q,by rw[<-r.length];exact hl⟩⟩;obtain⟨v,h1,h2⟩:=r.get hd;refine⟨⟨vs,v,q,h1⟩,λx H' zq9=>?_⟩;obtain⟨e1,e2⟩:=zq9;subst e1;have e3:=e2 vs q;rw[h1]at e3;cases e3;exact⟨Ze.refl _,[],c7,λ_ h=>(nomatch h),h2.mono sF⟩
def Mo(lo:Int)(n:Nat):List D:=(cr n).map λi=>.int (lo+(i:Nat))
theorem K6{lo:Int}{n:Nat}{F:Hp}:Ux K (Itr lo n) F (Mo lo n):=λF' H sF sH i=>by
 have hl:(Mo lo n).length=n:=by unfold Mo;rw[ao,List.length_range]
 refine⟨λd hd=>?_,λh=>by rw[hl]at h;exact h⟩;have hi:i<n:=by have:=(ax.mp hd).1;rw[hl]at this;exact this
 refine⟨hi,λx H' zq9=>?_⟩;obtain⟨e1,e2⟩:=zq9;subst e1 e2;unfold Mo at hd;rw[bf,List.getElem?_range hi]at hd;cases hd;exact⟨Ze.refl _,[],c7,λ_ h=>(nomatch h),.int _⟩
def K7(j:Int):Prop:=-(2^62)<=j/\j<2^62
theorem Zh4{j:Int}(h0:0<=j)(h:j<=16777216):K7 j:=⟨by omega,by omega⟩
theorem Tw{n:Nat}(h:n<=16777216):K7 (n:Int):=Zh4 (by omega) (by omega)
open Classical in
@[simp] def Zdk(fa:FA):FD:=λδ=>(fa δ).bind λp=>match Uo p.1 p.2 with
 |some [.int j]=>if K7 j then aA (Mo 0 j.toNat,p.2)else aB
 |_=>aB
theorem Zmo{fa:FA}{R:It->Hp->Prop}(h:W5 Z (Zdk fa) σ H R):Zj4 (Bc Z fa) σ H R:=by
 obtain⟨F,δ,own,ds,δ',s,e,k⟩:=h;obtain⟨⟨rvs,δ1⟩,e1,e2⟩:=aa.mp e;refine⟨F,δ,own,rvs,δ1,s,e1,λvs H1 F1 own1 sH sF s1 r1=>?_⟩;dsimp only at e2;split at e2
 ·rename_i j hj;have rn:=s1.rdAll r1 hj;cases rn with
  |cons h t=>
   cases t;by_cases hb:K7 j
   ·rw[if_pos hb]at e2;cases e2;exact⟨j,by rw[h.int],hb.1,hb.2,k _ H1 F1 own1 sH sF s1 K6⟩
   ·rw[if_neg hb]at e2;cases e2
 ·cases e2
@[simp] def Tx(i:Nat)(fe:FE):FS:=λδ=>match δ[i]? with
 |some (aA (.ol _))=>(fe δ).bind λp=>(frz p.1 p.2).bind λq=>match q.2[i]? with
  |some (aA (.ol xs))=>if xs.length<a7 then aA (.nx (q.2.set i (aA (.ol (xs++[q.1])))))else aB
  |_=>aB
 |_=>aB
theorem J1{F:Hp}{xs:List D}{v:V}{ns:Zo}(h:Shape K F (.ol xs) v ns):∃a vs,v= .ref a/\ns=[(a,.lst vs)]/\Reps K F xs vs:=by
 cases h with
 |ol r=>exact⟨_,_,rfl,rfl,r⟩
theorem Zp5{i:Nat}{fe:FE}(h:Z1 Z (Tx i fe) E σ H):Bp (tBM K "list" Qy (Ja i) (Ju (Zc Z fe) Rz)) E σ H:=by
 obtain⟨F,δ,own,fl,s,e,k⟩:=h;unfold Tx at e;split at e
 ·rename_i xs0 hx0;obtain⟨⟨rv,δ1⟩,e1,e2⟩:=aa.mp e;obtain⟨⟨d,δ2⟩,e3,e4⟩:=aa.mp e2;obtain⟨v,hv,sh⟩:=s.at' i _ hx0;obtain⟨a,vs0,ev,en,r0⟩:=J1 sh;refine⟨v,hv,?_,F,δ,own,rv,δ1,s,e1,λy H1 F1 own1 sH sF s1 r1=>?_⟩
  ·subst ev;exact .inl ⟨rfl,vs0,.inl (.inl (s.ok i (a,.lst vs0) (by rw[en];exact ah)).2.2)⟩
  obtain⟨F2,sF2,s2,r2⟩:=s1.settleR r1;obtain⟨F3,own3,sF3,s3,r3⟩:=s2.frzR r2 e3;dsimp only at e4;split at e4
  ·rename_i xs hx;by_cases hz:xs.length<a7
   ·rw[if_pos hz]at e4;cases e4;obtain⟨v',hv',sh'⟩:=s3.at' i _ hx;rw[hv]at hv';cases hv';obtain⟨b,vs,eb,en',r'⟩:=J1 sh';have mb:(b,HO.lst vs)∈own3 i:=by rw[en'];exact ah
    subst eb;refine⟨b,vs,y,rfl,rfl,(s3.ok i _ mb).2.2,by rw[<-r'.length];exact hz,?_⟩;exact k σ _ F3 _ (sF.trans (sF2.trans sF3)) (s3.change (sv':=.ol (xs++[d])) (o':=.lst (vs++[y])) (ns':=[(b,.lst (vs++[y]))]) hx hv mb (.ol (r'.snoc r3)) (λp hp=>.inl (au.mp hp)) Er)
   ·rw[if_neg hz]at e4;cases e4
  ·cases e4
 ·cases e
end
@[simp] def Ty(n:Nat)(ds:List D):Yg:=ds.map (λd=>some (.fz d))++List.replicate (n- ds.length) none
theorem N0{N:List Str}{F H:Hp}{ds:List D}{vs:List V}(le:Ze F H)(r:Reps K F ds vs):SR (ent H F:Ent K) F H (L2.Ba N vs) (Ty N.length ds) λ_=>[]:=by
 have hl:=r.length;refine⟨le,λb o e=>.inl e,Ze.refl H,?_,λi sv e=>?_,λ_=>c7,λ_ _ h=>(nomatch h),λ_ _ _ _ _ h=>(nomatch h)⟩
 ·unfold L2.Ba Ty;rw[bj,bj,ao,ao,List.length_replicate,List.length_replicate,hl]
 ·unfold Ty at e;by_cases hi:i<ds.length
  ·rw[List.getElem?_append_left (by simpa using hi),bf]at e;cases hd:ds[i]? with
   |none=>rw[hd]at e;cases e
   |some d=>rw[hd]at e;cases e;obtain⟨v,h1,h2⟩:=r.get hd;refine⟨v,?_,.fz h2⟩;unfold L2.Ba;rw[List.getElem?_append_left (by rw[ao];omega),bf,h1];rfl
  ·rw[List.getElem?_append_right (by simpa using hi),List.getElem?_replicate]at e;split at e<;> cases e
theorem Zdl{n:Nat}{g:List D->Option SV}{vs:List V}{H:Hp}{Q:VK}{E:XK}(h:Y6 K n g vs H Q E):vs.length=n:=by obtain⟨F,ds,sv,le,r,hn,e,k⟩:=h;rw[<-r.length];exact hn
end DL
namespace DL
open PySem L2
variable{K:af}
def xG(K:af)(g:FG):TG:=λv σ H Q=>∃Z:Ent K,Bd Z g v σ H Q
def xT(K:af)(f:FT):TT:=λσ H Q=>∃Z:Ent K,Yh Z f σ H Q
def xE(K:af)(f:FE):TE:=λσ H Q=>∃Z:Ent K,Zc Z f σ H Q
def Q5:FT:=λδ=>aA (aC,δ)
@[simp] theorem Zp6(δ:Yg):Q5 δ=some (true,δ):=rfl
@[simp] def caps(src:List BSrc):List RV:=src.filterMap fun
 | .cap j=>aA (.bw j)
 |_=>aB
@[simp] def Vg(δ:Yg):BSrc->Option SV
 | .own=>aB
 | .cap j=>match δ[j]?.join with
  |some (.fz d)=>aA (.fz d)
  |_=>aB
 | .acc=>aA (.ol [])
@[simp] def bD(src:List BSrc)(δ:Yg):Yg:=src.map (Vg δ)
@[simp] def resetSlot:BSrc->Option SV->Option SV
 | .own,_=>aB
 |_,o=>o
@[simp] def U8:List BSrc->Yg->Yg
 |b::r,o::t=>resetSlot b o::U8 r t
 |_,t=>t
@[simp] def Y7(src:List BSrc)(k:Nat)(g:FG)(tt:FT)(te:FE):List D->Yg->Option Yg
 | [],δ=>aA δ
 |d::ds,δ=>(g.run d δ).bind λδ1=>(tt δ1).bind λp=>if p.1=aC then(te p.2).bind λq=>(frz q.1 q.2).bind λr=>match r.2[k]? with
   |some (aA (.ol zs))=>if zs.length<a7 then Y7 src k g tt te ds (U8 src (r.2.set k (aA (.ol (zs++[r.1])))))else aB
   |_=>aB
  else Y7 src k g tt te ds (U8 src p.2)
@[simp] def Be(src:List BSrc)(k:Nat)(fi:FD)(g:FG)(tt:FT)(te:FE):FE:=λδ=>(fi δ).bind λp=>(frzAll (caps src) p.2).bind λc=>(Y7 src k g tt te p.1 (bD src c.2)).bind λδb=>match δb[k]? with
 |some (aA (.ol ys))=>aA (.tmp (.ol ys),c.2)
 |_=>aB
theorem R3:∀(src:List BSrc) (δ:Yg),(U8 src δ).length=δ.length
 | [],t=>by unfold U8;rfl
 |_::_,[]=>by unfold U8;rfl
 |b::r,o::t=>by show(resetSlot b o::U8 r t).length=_;rw[bn,bn,R3 r t]
theorem R4:∀{src:List BSrc} {δ:Yg} {i:Nat} {sv:SV},(U8 src δ)[i]? =aA (aA sv)->δ[i]? =aA (aA sv)
 | [],_,_,_,h=>h
 |_::_,[],_,_,h=>h
 |b::r,o::t,0,sv,h=>by
  have h:aA (resetSlot b o)=aA (aA sv):=h;cases b with
  |own=>cases h
  |cap j=>exact h
  |acc=>exact h
 |b::r,o::t,i+1,sv,h=>by have h:(U8 r t)[i]? =aA (aA sv):=h;show t[i]? =_;exact R4 h
section
variable{Z:Ent K}{F H:Hp}{σ:St}{δ δ':Yg}{own:Nat->Zo}
theorem SR.forget(s:SR Z F H σ δ own)(hl:δ'.length=δ.length)(h:∀(i:Nat) (sv:SV),δ'[i]? =aA (aA sv)->δ[i]? =aA (aA sv)):SR Z F H σ δ' own:=
 ⟨s.le,s.fro,s.old,s.len.trans hl.symm,λi sv e=>s.at' i sv (h i sv e),s.nod,s.ok,s.sep⟩
theorem SR.caps:∀{rvs:List RV} {ds:List D} {δ δ':Yg} {F:Hp} {own:Nat->Zo},(∀rv∈rvs,∃j,rv= .bw j)->SR Z F H σ δ own->DL.frzAll rvs δ=aA (ds,δ')->∃F1 own1,Ze F F1/\SR Z F1 H σ δ' own1
 | [],_,_,_,F,own,_,s,e=>by cases e;exact⟨F,own,Ze.refl F,s⟩
 |rv::r,_,_,_,F,own,hb,s,e=>by obtain⟨⟨d,δ1⟩,e1,e2⟩:=aa.mp e;obtain⟨⟨ds,δ2⟩,e3,e4⟩:=aa.mp e2;cases e4;obtain⟨j,rfl⟩:=hb rv ah;obtain⟨sv,e5,e6⟩:=aa.mp e1;cases e6;obtain⟨F1,v,sF,_,_,s1⟩:=s.freeze (U7 e5);obtain⟨F2,own2,sF2,s2⟩:=SR.caps (λrv h=>hb rv (ar _ h)) s1 e3;exact⟨F2,own2,sF.trans sF2,s2⟩
theorem SR.after{F3 H3:Hp}(s2:SR Z F H σ δ own)(sH3:Ze H H3)(sF3:Ze F F3)(le3:Ze F3 H3)(fro3:∀(b:ak) (o:HO),F3 b=aA o->F b=aA o\/H b=aB):SR Z F3 H3 σ δ own:=by
 refine⟨le3,λb o e=>?_,s2.old.trans sH3,s2.len,λi sw ei=>?_,s2.nod,λi p hp=>?_,s2.sep⟩
 ·rcases fro3 b o e with z|z
  ·exact s2.fro b o z
  ·exact .inr (s2.old.free z)
 ·obtain⟨w,h1,h2⟩:=s2.at' i sw ei;exact⟨w,h1,h2.mono sF3⟩
 ·obtain⟨a,b,c⟩:=s2.ok i p hp;refine⟨?_,b,sH3 _ _ c⟩;cases z:F3 p.1 with
  |none=>rfl
  |some u=>
   rcases fro3 _ u z with y|y
   ·rw[a]at y;cases y
   ·rw[c]at y;cases y
end
structure SrcOk(src:List BSrc)(k:Nat):Prop where
 acc:src[k]? =aA .acc
 uni:∀i:Nat,src[i]? =aA .acc->i=k
theorem Zdm{Z:Ent K}{F H:Hp}{σ:St}{δ:Yg}{own:Nat->Zo}{src:List BSrc}{k:Nat}{acc:ak}(S:SrcOk src k)(s:SR Z F H σ δ own)(ha:H acc=aB):
  SR (ent H F:Ent K) F (Z5 H acc (.lst [])) (Sv src σ acc) (bD src δ) (λi=>if i=k then[(acc,.lst [])]else[]):=by
 have mem:∀{i:Nat} {p:ak×HO},p∈(if i=k then[(acc,HO.lst [])]else[])->i=k/\p=(acc,.lst []):=fun{i p} h=>by
  by_cases hi:i=k
  ·rw[if_pos hi]at h;exact⟨hi,au.mp h⟩
  ·rw[if_neg hi]at h;exact nomatch h
 refine⟨s.le.trans (Qe ha),λb o e=>.inl e,Qe ha,by unfold Sv bD;rw[ao,ao],λi sv e=>?_,λi=>?_,λi p hp=>?_,λi j p q hij hp hq=>?_⟩
 ·unfold bD at e;rw[bf]at e;cases hq:src[i]? with
  |none=>rw[hq]at e;cases e
  |some q=>
   rw[hq]at e;have e:Vg δ q=aA sv:=dm.inj e;cases q with
   |own=>cases e
   |acc=>cases e;have hi:=S.uni i hq;refine⟨.ref acc,by unfold Sv;rw[bf,hq];rfl,?_⟩;show Shape K F (.ol []) (.ref acc) (if i=k then[(acc,.lst [])]else[]);rw[if_pos hi];exact .ol .nil
   |cap j=>
    have hi:i≠k:=λz=>by rw[z,S.acc]at hq;cases hq
    unfold Vg at e;dsimp only at e;split at e
    ·rename_i d hd;cases e;obtain⟨v,h1,h2⟩:=s.at' j _ (U7 hd);refine⟨v,by unfold Sv;rw[bf,hq];show aA (σ[j]?).join=_;rw[h1];rfl,?_⟩;show Shape K F (.fz d) v (if i=k then[(acc,.lst [])]else[]);rw[if_neg hi];exact .fz (Q4 h2)
    ·cases e
 ·show(Cu (if i=k then[(acc,HO.lst [])]else[])).Nodup;by_cases hi:i=k
  ·rw[if_pos hi];exact Er
  ·rw[if_neg hi];exact c7
 ·obtain⟨_,rfl⟩:=mem hp;exact⟨s.le.free ha,ha,Z3⟩
 ·obtain⟨z,_⟩:=mem hp;obtain⟨y,_⟩:=mem hq;exact absurd (z.trans y.symm) hij
theorem Zdn{Z:Ent K}{H:Hp}{σ:St}{Q:VK}{src:List BSrc}{k:Nat}{fi:FD}{g:FG}{tt:FT}{te:FE}(S:SrcOk src k)(hk:k∉g.tch)(h:Zc Z (Be src k fi g tt te) σ H Q):
  Zdb src (W5 Z fi) (xG K g) (xT K tt) (xE K te) σ H Q:=by
 obtain⟨F,δ,own,rv,δ',s,e,k0⟩:=h;obtain⟨⟨ds,δ1⟩,e1,e2⟩:=aa.mp e;obtain⟨⟨cs,δ2⟩,e3,e4⟩:=aa.mp e2;obtain⟨δf,e5,e6⟩:=aa.mp e4;refine⟨F,δ,own,ds,δ1,s,e1,λJ H1 F1 own1 sH sF s1 yl acc ha=>?_⟩;obtain⟨F2,own2,sF2,s2⟩:=s1.caps (λrv hr=>by
  unfold DL.caps at hr;obtain⟨b,_,hb⟩:=List.mem_filterMap.mp hr;cases b with
  |own=>cases hb
  |acc=>cases hb
  |cap j=>cases hb;exact⟨j,rfl⟩) e3
 have s3:=Zdm S s2 ha;have hacc0:(Sv src σ acc)[k]? =aA (aA (.ref acc)):=by unfold Sv;rw[bf,S.acc];rfl
 refine⟨λi m σ' H=>m=ds.length- i/\i<=ds.length/\σ'[k]? =aA (aA (.ref acc))/\∃F δ own,Ze F2 F/\SR (ent H1 F2:Ent K) F H σ' δ own/\Y7 src k g tt te (ds.drop i) δ=aA δf,
  ⟨ds.length,by simp,dn _,hacc0,F2,_,_,Ze.refl F2,s3,e5⟩,?_⟩
 rintro i m σ4 H4 ⟨rfl,hi,hacc,F4,δ4,own4,sF4,s4,ef⟩;by_cases hlt:i<ds.length
 ·have hd:ds[i]? =aA ds[i]:=by simp[hlt]
  obtain⟨go,yy⟩:=(yl F4 H4 (sF2.trans sF4) s4.le i).1 _ hd;rw[List.drop_eq_getElem_cons hlt]at ef;obtain⟨δ5,e7,e8⟩:=aa.mp ef;obtain⟨⟨b,δ6⟩,e9,e10⟩:=aa.mp e8;refine .inr ⟨go,λx H5 hy=>?_⟩;obtain⟨sm,ns,nd,hn,rp⟩:=yy x H5 hy;obtain⟨sFn,sn⟩:=s4.fresh sm nd hn;refine⟨(ent H1 F2:Ent K),Qb F4 ns,δ4,own4,_,δ5,sn,rp,e7,λσ6 own6 s6 t6=>⟨(ent H1 F2:Ent K),Qb F4 ns,δ5,own6,b,δ6,s6,e9,λH7 F7 own7 sH7 sF7 s7=>?_⟩⟩;have hacc6:σ6[k]? =aA (aA (.ref acc)):=(t6 k hk).trans hacc;cases b with
  |false=>dsimp only;rw[if_neg bh]at e10⊢;exact⟨ds.length- (i+1),by omega,rfl,hlt,hacc6,F7,_,own7,sF4.trans (sFn.trans sF7),s7.forget (R3 src δ6) (λj sv hj=>R4 hj),e10⟩
  |true=>
   dsimp only;rw[if_pos rfl]at e10⊢;obtain⟨⟨rv8,δ8⟩,e11,e12⟩:=aa.mp e10;obtain⟨⟨d9,δ9⟩,e13,e14⟩:=aa.mp e12;refine⟨(ent H1 F2:Ent K),F7,δ6,own7,rv8,δ8,s7,e11,λy H8 F8 own8 sH8 sF8 s8 r8=>?_⟩;obtain⟨F9,sF9,s9,r9⟩:=s8.settleR r8;obtain⟨F10,own10,sF10,s10,r10⟩:=s9.frzR r9 e13;dsimp only at e14;split at e14
   ·rename_i zs hz;by_cases hzl:zs.length<a7
    ·rw[if_pos hzl]at e14;obtain⟨v',hv',sh'⟩:=s10.at' k _ hz;rw[hacc6]at hv';cases hv';obtain⟨b,vs,eb,en',r'⟩:=J1 sh';cases eb;have mb:(acc,HO.lst vs)∈own10 k:=by rw[en'];exact ah
     refine⟨acc,vs,y,rfl,rfl,(s10.ok k _ mb).2.2,by rw[<-r'.length];exact hzl,?_⟩;have s11:=s10.change (sv':=.ol (zs++[d9])) (o':=.lst (vs++[y])) (ns':=[(acc,.lst (vs++[y]))]) hz hacc6 mb (.ol (r'.snoc r10)) (λp hp=>.inl (au.mp hp)) Er;exact⟨ds.length- (i+1),by omega,rfl,hlt,hacc6,F10,_,_,sF4.trans (sFn.trans (sF7.trans (sF8.trans (sF9.trans sF10)))),s11.forget (R3 src _) (λj sv hj=>R4 hj),e14⟩
    ·rw[if_neg hzl]at e14;cases e14
   ·cases e14
 ·have hz:i=ds.length:=by omega
  subst hz;rw[List.drop_length]at ef;cases ef;refine .inl ⟨(yl F4 H4 (sF2.trans sF4) s4.le _).2 (a8 _),?_⟩;dsimp only at e6;split at e6
  ·rename_i ys hys;cases e6;obtain⟨v',hv',sh'⟩:=s4.at' k _ hys;rw[hacc]at hv';cases hv';obtain⟨b,vs,eb,en',r'⟩:=J1 sh';cases eb;have mb:(acc,HO.lst vs)∈own4 k:=by rw[en'];exact ah
   obtain⟨o1,o2,o3⟩:=s4.ok k _ mb;refine k0 (.ref acc) H4 F4 own2 (sH.trans s4.old) (sF.trans (sF2.trans sF4)) (s2.after s4.old sF4 s4.le λb o e=>s4.fro b o e) ⟨[(acc,.lst vs)],.ol r',Er,λp hp=>?_,λj p q hp hq e=>?_⟩
   ·obtain rfl:=au.mp hp;exact⟨o1,s2.old.free ha,o3⟩
   ·obtain rfl:=au.mp hp;have z:=(s2.ok j q hq).2.2;have e':acc=q.1:=e;rw[<-e',ha]at z;cases z
  ·cases e6
end DL
namespace DL
open PySem PySem.Spec PyProof.Rows L2
variable{K:af}
variable{Z:Ent K}
@[simp] def Vh(f:Int->Int->D):D->D->Option SV
 | .int i,.int j=>aA (.fz (f i j))
 |_,_=>aB
@[simp] def Za6(C:Int->Int->Bool)(f:Int->Int->D):D->D->Option SV
 | .int i,.int j=>if C i j=aC then aA (.fz (f i j))else aB
 |_,_=>aB
theorem Zkk{g:Int->Int->V}{f:Int->Int->D}(hr:∀F i j,Rep K F (f i j) (g i j)):Yw Z (rI0 g) (Vh f):=by
 intro F H σ δ own x y d1 d2 sv Q s r1 r2 e k;unfold Vh at e;split at e
 ·cases e;exact⟨_,_,r1.int,r2.int,k.fz s (hr _ _ _)⟩
 ·cases e
theorem Zmp{C:Int->Int->Prop}{c:Int->Int->Bool}{g:Int->Int->V}{f:Int->Int->D}(hc:∀i j,c i j=aC->C i j)(hr:∀F i j,Rep K F (f i j) (g i j)):Yw Z (rI C g) (Za6 c f):=by
 intro F H σ δ own x y d1 d2 sv Q s r1 r2 e k;unfold Za6 at e;split at e
 ·split at e
  ·rename_i hcc;cases e;exact⟨_,_,r1.int,r2.int,hc _ _ hcc,k.fz s (hr _ _ _)⟩
  ·cases e
 ·cases e
@[simp] def Zz5:D->D->Option SV:=Vh λi j=>.int (i- j)
def Zdo(i j:Int):Bool:=(decide (-(2^64)<i)&&decide (i<2^64))|| (decide (-(2^64)<j)&&decide (j<2^64))
@[simp] def Zp7:D->D->Option SV:=Za6 Zdo λi j=>.int (i*j)
@[simp] def Zp8(i j:Int):Bool:=decide (0<j)&&decide (j<1073741824)
@[simp] def Cv:D->D->Option SV:=Za6 Zp8 λi j=>.int (i / j)
@[simp] def Zp9(i j:Int):Bool:=decide (0<j)
@[simp] def Cm:D->D->Option SV:=Za6 Zp9 λi j=>.int (i % j)
@[simp] def Zu2(i j:Int):Bool:=decide (0<=j)&&decide (j<=1000000)&&decide (i.natAbs<2^64)
@[simp] def Zz6:D->D->Option SV:=Za6 Zu2 λi j=>.int (i^j.toNat)
theorem Zqa:Yw Z (rI Zcl λi j=>V.int (i*j)) Zp7:=Zmp (λi j h=>by
 unfold Zdo at h;simp only[Bool.or_eq_true,Bool.and_eq_true,decide_eq_true_eq]at h;exact h) λ_ _ _=>.int _
theorem Zmq:Yw Z (rI Zpe λi j=>V.int (i / j)) Cv:=Zmp (λi j h=>by
 unfold Zp8 at h;simp only[Bool.and_eq_true,decide_eq_true_eq]at h;exact h) λ_ _ _=>.int _
theorem Zqb:Yw Z (rI (λ_ j=>0<j) λi j=>V.int (i % j)) Cm:=Zmp (λi j h=>by
 unfold Zp9 at h;simp only[decide_eq_true_eq]at h;exact h) λ_ _ _=>.int _
@[simp] def Jo:D->D->Option SV:=Vh λi j=>.bl (decide (i<j))
@[simp] def leD:D->D->Option SV:=Vh λi j=>.bl (decide (i<=j))
@[simp] def gtD:D->D->Option SV:=Vh λi j=>.bl (decide (j<i))
@[simp] def geD:D->D->Option SV:=Vh λi j=>.bl (decide (j<=i))
theorem Zu3:Yw Z (rI0 λi j=>V.bl (decide (i<j))) Jo:=Zkk λ_ _ _=>.bl _
theorem Zu4:Yw Z (rI0 λi j=>V.bl (decide (j<i))) gtD:=Zkk λ_ _ _=>.bl _
def Zu5:R2:=λx y H Q=>∃i j,x= .str i/\y= .str j/\i.length+j.length<=a7/\Q (.str (i++j)) H
def Zkl(K:af):R2:=λx y H Q=>∃l b xs zs,x= .ref l/\y= .ref b/\Wp K H l xs/\Wp K H b zs/\xs.length+zs.length<=a7/\∀p,H p=aB->Q (.ref p) (Z5 H p (.lst (xs++zs)))
theorem Zh5{X:Cx}:Bh X (binaryOp .Add) (Zkl X.K):=by
 intro pins s σ H x y v u Q I rx ry h;obtain⟨l,b,xs,zs,rfl,rfl,hH,hB,hz,q⟩:=h;cases rx;cases ry;obtain⟨its,r,pl,z⟩:=I.list hH;obtain⟨its2,r2,pl2,z2⟩:=I.list hB;have hl:=r.length;have hl2:=r2.length;obtain⟨⟨cls,dd,data,sl⟩,ho,hc,n,hd⟩:=pl.isList;obtain⟨⟨cls2,dd2,data2,sl2⟩,ho2,hc2,n2,hd2⟩:=pl2.isList;simp only at hc hd hc2 hd2;subst hc hd hc2 hd2;have ea:its.toArray++its2.toArray=(its++its2).toArray:=by simp
 refine concat_meets ⟨_,ho,rfl⟩ ⟨_,ho2,rfl⟩ noFill_list_add seq_list_add PySem.F.slot_list_add PySem.F.entry_list_add (PySem.F.args_list_add_2 _ _) (list_addW l b its.toArray its2.toArray n n2 dd dd2 sl sl2 (by rw[bi,bi];omega)) ⟨ho,ho2,?_⟩;rw[ea];exact⟨.ref _,_,I.lnew (t':=s.toks) (r.append r2) (by rw[bj];omega),rfl,q _ I.fresh⟩
def Zkm(K:af):R2:=λx y H Q=>rI0 (λi j=>V.int (i+j)) x y H Q\/(Zu5 x y H Q\/Zkl K x y H Q)
theorem Zh6{X:Cx}:Bh X (binaryOp .Add) (Zkm X.K):=Zl5.or (S5.or Zh5)
@[simp] def Cn:D->D->Option SV
 | .int i,.int j=>aA (.fz (.int (i+j)))
 | .str x,.str y=>if x.length+y.length<=a7 then aA (.fz (.str (x++y)))else aB
 | .lst xs,.lst ys=>if xs.length+ys.length<=a7 then aA (.ol (xs++ys))else aB
 |_,_=>aB
theorem Zqc:Yw Z (Zkm K) Cn:=by
 intro F H σ δ own x y d1 d2 sv Q s r1 r2 e k;unfold Cn at e;split at e
 ·cases e;exact .inl ⟨_,_,r1.int,r2.int,k.fz s (.int _)⟩
 ·split at e
  ·rename_i hz;cases e;exact .inr (.inl ⟨_,_,r1.str,r2.str,hz,k.fz s (.str _)⟩)
  ·cases e
 ·split at e
  ·rename_i hz;cases e;obtain⟨a,vs,ex,ha,ra⟩:=r1.lst s.le;obtain⟨b,us,ey,hb,rb⟩:=r2.lst s.le;exact .inr (.inr ⟨a,b,vs,us,ex,ey,ha,hb,by rw[<-ra.length,<-rb.length];exact hz,λp hp=>k.lst s (ra.append rb) hp⟩)
  ·cases e
 ·cases e
@[simp] def eqS:D->D->Option Bool
 | .non,.non=>aA aC
 | .non,.int _=>aA aD
 | .int _,.non=>aA aD
 | .non,.bl _=>aA aD
 | .bl _,.non=>aA aD
 | .non,.str _=>aA aD
 | .str _,.non=>aA aD
 | .int i,.int j=>aA (decide (i=j))
 | .bl i,.bl j=>aA (decide (i=j))
 | .str i,.str j=>aA (decide (i=j))
 | .int _,.str _=>aA aD
 | .str _,.int _=>aA aD
 | .bl _,.str _=>aA aD
 | .str _,.bl _=>aA aD
 |_,_=>aB
theorem Zdp{F H:Hp}{d1 d2:D}{x y:V}{b:Bool}(e:eqS d1 d2=aA b)(r1:Z7 K F H d1 x)(r2:Z7 K F H d2 y):scal x y=aC/\b=decide (x=y):=by
 unfold eqS at e;split at e<;> cases e
 ·rw[r1.non,r2.non];exact⟨rfl,by simp⟩
 ·rw[r1.non,r2.int];exact⟨rfl,by simp⟩
 ·rw[r1.int,r2.non];exact⟨rfl,by simp⟩
 ·rw[r1.non,r2.bl];exact⟨rfl,by simp⟩
 ·rw[r1.bl,r2.non];exact⟨rfl,by simp⟩
 ·rw[r1.non,r2.str];exact⟨rfl,by simp⟩
 ·rw[r1.str,r2.non];exact⟨rfl,by simp⟩
 ·rw[r1.int,r2.int];exact⟨rfl,by simp⟩
 ·rw[r1.bl,r2.bl];exact⟨rfl,by simp⟩
 ·rw[r1.str,r2.str];exact⟨rfl,by simp⟩
 ·rw[r1.int,r2.str];exact⟨rfl,by simp⟩
 ·rw[r1.str,r2.int];exact⟨rfl,by simp⟩
 ·rw[r1.bl,r2.str];exact⟨rfl,by simp⟩
 ·rw[r1.str,r2.bl];exact⟨rfl,by simp⟩
@[simp] def eqD(d1 d2:D):Option SV:=(eqS d1 d2).bind λb=>some (.fz (.bl b))
@[simp] def neD(d1 d2:D):Option SV:=(eqS d1 d2).bind λb=>some (.fz (.bl (!b)))
theorem Zqd:Yw Z rEq eqD:=by intro F H σ δ own x y d1 d2 sv Q s r1 r2 e k;obtain⟨b,e1,e2⟩:=aa.mp e;cases e2;obtain⟨h1,h2⟩:=Zdp e1 r1 r2;subst h2;exact⟨h1,k.fz s (.bl _)⟩
theorem Zqe:Yw Z rNe neD:=by intro F H σ δ own x y d1 d2 sv Q s r1 r2 e k;obtain⟨b,e1,e2⟩:=aa.mp e;cases e2;obtain⟨h1,h2⟩:=Zdp e1 r1 r2;subst h2;exact⟨h1,k.fz s (.bl _)⟩
@[simp] def D.isNon:D->Bool
 | .non=>aC
 |_=>aD
@[simp] def Zz7(d1 d2:D):Option SV:=if d2.isNon=true then some (.fz (.bl d1.isNon))else none
@[simp] def Zxl(d1 d2:D):Option SV:=if d2.isNon=true then some (.fz (.bl (!d1.isNon)))else none
theorem Reps.atI{F:Hp}{xs:List D}{vs:List V}{i:Int}{d:D}(r:Reps K F xs vs)(e:L2.atI xs i=aA d):∃v,L2.atI vs i=aA v/\Rep K F d v:=by unfold L2.atI at e⊢;obtain⟨j,e1,e2⟩:=aa.mp e;obtain⟨v,h1,h2⟩:=r.get e2;exact⟨v,aa.mpr ⟨j,by rw[<-r.length];exact e1,h1⟩,h2⟩
@[simp] def ixD:D->D->Option SV
 | .lst xs,.int i=>(L2.atI xs i).bind λd=>aA (.fz d)
 | .tup xs,.int i=>(L2.atI xs i).bind λd=>aA (.fz d)
 | .str z,.int i=>if z.length<=a7 then(L2.atI z.cps.toList i).bind λc=>aA (.fz (.str ⟨#[c]⟩))else aB
 |_,_=>aB
theorem Zqg:Yw Z (rIx K) ixD:=by
 intro F H σ δ own x y d1 d2 sv Q s r1 r2 e k;unfold ixD at e;split at e
 ·obtain⟨d,e1,e2⟩:=aa.mp e;cases e2;obtain⟨a,vs,ex,ha,ra⟩:=r1.lst s.le;obtain⟨v,h1,h2⟩:=ra.atI e1;exact .inl ⟨a,vs,_,v,ex,r2.int,ha,h1,k.fz s h2⟩
 ·obtain⟨d,e1,e2⟩:=aa.mp e;cases e2;obtain⟨a,vs,ex,ha,ra⟩:=r1.tup s.le;obtain⟨v,h1,h2⟩:=ra.atI e1;exact .inr (.inl ⟨a,vs,_,v,ex,r2.int,ha,h1,k.fz s h2⟩)
 ·split at e
  ·rename_i hz;obtain⟨c,e1,e2⟩:=aa.mp e;cases e2;exact .inr (.inr ⟨_,_,c,r1.str,r2.int,hz,e1,k.fz s (.str _)⟩)
  ·cases e
 ·cases e
abbrev FO:=Yg->Option (Option Int×Yg)
def Mp(Z:Ent K)(f:FO):TO:=λσ H Q=>∃F δ own o δ',SR Z F H σ δ own/\f δ=aA (o,δ')/\∀H' F' own',Ze H H'->Ze F F'->SR Z F' H' σ δ' own'->Q o H'
@[simp] def Vi:FO:=λδ=>some (none,δ)
@[simp] def N1(fe:FE):FO:=λδ=>(fe δ).bind λp=>match p.1 with
 | .tmp (.fz (.int i))=>aA (aA i,p.2)
 |_=>aB
section
variable{H:Hp}{σ:L2.St}{Q:VK}{R:Option Int->Hp->Prop}
theorem Zdq(h:Mp Z Vi σ H R):Hf σ H R:=by obtain⟨F,δ,own,o,δ',s,e,k⟩:=h;cases e;exact k H F own (Ze.refl H) (Ze.refl F) s
theorem Zmr{fe:FE}(h:Mp Z (N1 fe) σ H R):Zj8 (Zc Z fe) σ H R:=by
 obtain⟨F,δ,own,b,δ',s,e,k⟩:=h;obtain⟨⟨rv,δ1⟩,e1,e2⟩:=aa.mp e;refine⟨F,δ,own,rv,δ1,s,e1,λv H1 F1 own1 sH sF s1 r1=>?_⟩;dsimp only at e2;split at e2
 ·cases e2;obtain⟨ns,t⟩:=r1;cases Q4 t.sh;exact⟨_,rfl,k H1 F1 own1 sH sF s1⟩
 ·cases e2
@[simp] def slF(g:D->Option Int->Option Int->Option SV)(fe:FE)(fl fh:FO):FE:=λδ=>(fe δ).bind λp=>(fl p.2).bind λl=>(fh l.2).bind λh=>(Ev p.1 h.2).bind λd=>(g d l.1 h.1).bind λsv=>some (.tmp sv,h.2)
def Zkn(Z:Ent K)(r:V->Option Int->Option Int->Hp->VK->Prop)(g:D->Option Int->Option Int->Option SV):Prop:=
 ∀(F H:Hp) (σ:L2.St) (δ:Yg) (own:Nat->Zo) (x:V) (d:D) (lo hi:Option Int) (sv:SV) (Q:VK),SR Z F H σ δ own->Z7 K F H d x->g d lo hi=aA sv->Fin Z F H σ δ own sv Q->r x lo hi H Q
theorem Zu8{r:V->Option Int->Option Int->Hp->VK->Prop}{g:D->Option Int->Option Int->Option SV}{fe:FE}{fl fh:FO}(hg:Zkn Z r g)(h:Zc Z (slF g fe fl fh) σ H Q):tSl r (Zc Z fe) (Mp Z fl) (Mp Z fh) σ H Q:=by
 obtain⟨F,δ,own,rv,δ',s,e,k⟩:=h;obtain⟨⟨rv1,δ1⟩,e1,e⟩:=aa.mp e;obtain⟨⟨lo,δ2⟩,e2,e⟩:=aa.mp e;obtain⟨⟨hi,δ3⟩,e3,e⟩:=aa.mp e;obtain⟨d,e4,e⟩:=aa.mp e;obtain⟨sv,e5,e⟩:=aa.mp e;cases e;refine⟨F,δ,own,rv1,δ1,s,e1,λv H1 F1 own1 sH1 sF1 s1 r1=>?_⟩;obtain⟨F1',sF1',s1',r1'⟩:=s1.settleR r1;refine⟨F1',δ1,own1,lo,δ2,s1',e2,λH2 F2 own2 sH2 sF2 s2=>⟨F2,δ2,own2,hi,δ3,s2,e3,λH3 F3 own3 sH3 sF3 s3=>?_⟩⟩;exact hg F3 H3 σ δ3 own3 v d lo hi sv Q s3 (s3.rd (r1'.mono (sF2.trans sF3)) e4) e5 λq H4 F4 ns sH4 sF4 s4 t4=>
  k q H4 F4 own3 (sH1.trans (sH2.trans (sH3.trans sH4))) (sF1.trans (sF1'.trans (sF2.trans (sF3.trans sF4)))) s4 ⟨ns,t4⟩
end
def Ew(xs:List D)(lo hi:Option Int):List D:=(xs.drop (HT.sIx xs.length 0 lo)).take (HT.sIx xs.length xs.length hi- HT.sIx xs.length 0 lo)
theorem Reps.cut{F:Hp}{xs:List D}{vs:List V}(r:Reps K F xs vs)(lo hi:Option Int):Reps K F (Ew xs lo hi) (Va vs lo hi):=by unfold Ew Va;rw[r.length];exact(r.drop _).take _
def Zqh:V->Option Int->Option Int->Hp->VK->Prop:=λx lo hi H Q=>∃z,x= .str z/\z.length<=a7/\Q (.str (Txt.slice z lo hi)) H
theorem Zms{X:Cx}:SlR X Zqh:=by
 intro pins s σ H x v vl vu lo hi sl Q I rx hs pl pu h;obtain⟨z,rfl,hz,q⟩:=h;obtain⟨t,rfl⟩:=rx;refine⟨"str",_,F.slot_str_getitem.lookup,typeIs_str _ _ _,?_⟩;have fin:∀(t':Tok) (k:Nat),EP X pins σ Q (.str (Txt.slice z lo hi) t') {s with toks:=k}:=λt' k=>⟨.str (Txt.slice z lo hi),H,I.tok _,⟨_,rfl⟩,q⟩
 cases pl with
 |none=>cases pu with
  |none=>exact wpAny_getItem_str_slice (l:=aB) (u:=aB) (st:=aB) hs rfl (post_val_or_str ⟨d3 (Txt.slice_le z _ _) hz,fin⟩)
  |int j tj=>exact wpAny_getItem_str_slice (l:=aB) (u:=aA (j,tj)) (st:=aB) hs rfl (post_val_or_str ⟨d3 (Txt.slice_le z _ _) hz,fin⟩)
 |int i ti=>cases pu with
  |none=>exact wpAny_getItem_str_slice (l:=aA (i,ti)) (u:=aB) (st:=aB) hs rfl (post_val_or_str ⟨d3 (Txt.slice_le z _ _) hz,fin⟩)
  |int j tj=>exact wpAny_getItem_str_slice (l:=aA (i,ti)) (u:=aA (j,tj)) (st:=aB) hs rfl (post_val_or_str ⟨d3 (Txt.slice_le z _ _) hz,fin⟩)
@[simp] def slD:D->Option Int->Option Int->Option SV
 | .lst xs,lo,hi=>aA (.ol (Ew xs lo hi))
 | .str z,lo,hi=>if z.length<=a7 then aA (.fz (.str (Txt.slice z lo hi)))else aB
 |_,_,_=>aB
theorem Zu9:Zkn Z (λx lo hi H Q=>Zpn K x lo hi H Q\/Zqh x lo hi H Q) slD:=by
 intro F H σ δ own x d lo hi sv Q s r1 e k;unfold slD at e;split at e
 ·cases e;obtain⟨a,vs,ex,ha,ra⟩:=r1.lst s.le;exact .inl ⟨a,vs,ex,ha,λp hp=>k.lst s (ra.cut _ _) hp⟩
 ·split at e
  ·rename_i hz;cases e;exact .inr ⟨_,r1.str,hz,k.fz s (.str _)⟩
  ·cases e
 ·cases e
end DL
namespace L2
open PySem PySem.Spec PyProof.Rows
section
variable{X:Cx}{tg:ci}
theorem Zmt{l:ci}{tl:TE}(hl:PE X l tl):PI X tg l (DL.Zdj X.K tl):=by
 intro pins s σ H R I h;refine Wo (hl pins s σ H _ I h) λv s1 zq9=>?_;obtain⟨x,H1,I1,r1,q1⟩:=zq9;rcases q1 with⟨a,e,⟨xs,hq⟩,q⟩|⟨a,e,⟨xs,hq⟩,q⟩
 ·subst e;cases r1;obtain⟨its,rv,p,hz⟩:=I1.list hq;refine wpAny_pyIter_list p.isList ?_;refine⟨s1.heap.objs.size,[s1.heap.objs.size],_,_,H1,rfl,I1.kept (t':=s1.toks) λb o e=>aq _ e,E9 a _,⟨_,a9 _ rfl,rfl,rfl⟩,λb hb=>?_,q⟩;have e:b=s1.heap.objs.size:=by simpa using hb
  subst e;exact I1.fpOk (a8 _) (I1.hok.fresh (a8 _))
 ·subst e;cases r1;obtain⟨its,rv,p,hz⟩:=I1.tuple hq;refine wpAny_pyIter_tuple (show s1.heap.IsTuple a its.toArray from p) ?_;refine⟨s1.heap.objs.size,[s1.heap.objs.size],_,_,H1,rfl,I1.kept (t':=s1.toks) λb o e=>aq _ e,Tm a _,⟨_,a9 _ rfl,rfl,rfl⟩,λb hb=>?_,q⟩;have e:b=s1.heap.objs.size:=by simpa using hb
  subst e;exact I1.fpOk (a8 _) (I1.hok.fresh (a8 _))
def Ite(K:af)(a:ak):It:=
 ⟨λi H=>∃xs x,Wp K H a xs/\xs[i]? =aA x,λi H x H'=>∃p v,x= .ref p/\H p=aB/\H'=Z5 H p (.tup [.int (i:Nat),v])/\∀xs,Wp K H a xs->xs[i]? =aA v,λi H=>∃xs,Wp K H a xs/\xs.length<=i⟩
theorem Inv.turnedT{pins:List (ak×Obj)}{σ:L2.St}{H:Hp}{s:am}{h':dq}{t':Nat}{e it T:ak}{xs:List V}{its:List aj}(I:Inv X pins σ H s)(k:∀b o,b≠e->b≠it->s.heap.get? b=aA o->h'.get? b=aA o)
  (f1:Jb X pins H e) (f2:Jb X pins H it) (hT:T=s.heap.objs.size) (ht:IsTup h' T its.toArray) (rv:Zw xs its) (hz:xs.length<=sizeLine) (he:∃o,h'.get? e=aA o) (hi:∃o,h'.get? it=aA o):
  Inv X pins σ (Z5 H T (.tup xs)) {s with heap:=h',toks:=t'}:=by
 have hTn:H T=aB:=by rw[hT];exact I.hok.fresh (a8 _)
 have neT:∀b o,s.heap.get? b=aA o->b≠T:=λb o q=>by rw[hT];exact b4 (bc q)
 have ntr:∀b u,H b=aA u->b≠e/\b≠it:=λb u q=>⟨(λz=>by rw[z,f1.1]at q;cases q),(λz=>by rw[z,f2.1]at q;cases q)⟩
 refine I.step (g':=s.gens) (d':=s.drawn) (ch:=[e,it]) (λb hb=>?_) (λb o _ _ hc q _=>k b o (λz=>hc (by simp[z])) (λz=>hc (by simp[z])) q)
  (λb o _ _ hc q _=>⟨o.slots,k b o (λz=>hc (by simp[z])) (λz=>hc (by simp[z])) q⟩) (λb o _ q n=>by rw[Zn (neT b o q)];exact n)
  (λb o hc q=>⟨o,k b o (λz=>hc (by simp[z])) (λz=>hc (by simp[z])) q⟩) (λb ys q=>by rw[Zn (Y1 q hTn)];exact q) (λb o u q=>by rw[Zn (Y1 q hTn)];exact q)
  (λb ps q=>⟨#[],by rw[Zn (Y1 q hTn),q];simp⟩) (λm hm=>?_) (λb u q=>?_) I.bare
 ·have hb':b=e\/b=it:=by simpa using hb
  rcases hb' with z|z
  ·subst z;obtain⟨_,a1,_,a3,a4,a5⟩:=f1;exact⟨a3,a1,a4,a5⟩
  ·subst z;obtain⟨_,a1,_,a3,a4,a5⟩:=f2;exact⟨a3,a1,a4,a5⟩
 ·obtain⟨o,es,ep,ho,r⟩:=hm;exact⟨o,es,ep,k _ o (Ne.symm f1.2.1) (Ne.symm f2.2.1) ho,r⟩
 ·by_cases hb:b=T
  ·subst hb;rw[Z3]at q;cases q;exact⟨hz,its,rv,ht⟩
  ·rw[Zn hb]at q;refine(I.hok b u q).stay (λc v hc z=>?_) (λc z=>by rw[Zn (Y1 z hTn)];exact z) λc ys z=>by rw[Zn (Y1 z hTn)];exact z
   rcases hc with y|y
   ·rw[y]at z⊢;exact k _ _ (ntr b u q).1 (ntr b u q).2 z
   ·exact k _ _ (ntr c _ y).1 (ntr c _ y).2 z
theorem Za7{P:bu}{w:ck}{K:af}{elts:List ci}{kk:Nat}{tpos:Pos}(a e it:ak)(hei:e≠it):Turn P w K (.Tuple elts kk tpos) (Ite K a) [e,it] e (λi h=>(∃old,IsEnum h e it ((i:Nat):Int) old)/\h.IsListIter it a i)where
 mem:=by simp
 obj:=λi h st b hb=>by
  have hb':b=e\/b=it:=by simpa using hb
  rcases hb' with z|z
  ·subst z;obtain⟨old,q⟩:=st.1;exact⟨_,q,λv y=>by
    have y':Data.fields _=Data.cell v:=y;cases y'⟩
  ·subst z;obtain⟨o,q,c,d⟩:=st.2;exact⟨o,q,λv y=>by rw[d]at y;cases y⟩
 keep:=λi h h' st k=>⟨let⟨old,q⟩:=st.1;⟨old,k e (by simp) _ q⟩,st.2.at λo q=>k it (by simp) o q⟩
 item:=by
  intro X hP hw hK hc i pins s σ H E I hf st hg;subst hP hw hK;obtain⟨xs,x,hq,hx⟩:=hg;obtain⟨its,rv,p,hz⟩:=I.list hq;obtain⟨u,hu,ru⟩:=rv.get hx;obtain⟨⟨old,he⟩,hit⟩:=st;have hl:s.heap.IsList a its.toArray:=p.isList;have ai:a≠it:=λz=>by obtain⟨o1,q1,c1,_⟩:=hit;obtain⟨o2,q2,c2,_⟩:=hl;rw[z,q1]at q2;cases q2;rw[c1]at c2;exact absurd c2 (by decide)
  have ae:e∉[it,a]:=λz=>by
   have z':e=it\/e=a:=by simpa using z
   rcases z' with z|z
   ·exact hei z
   ·obtain⟨o2,q2,c2,_⟩:=hl;rw[<-z,he]at q2;cases q2;exact absurd (show Value.type "enumerate"=Value.type "list"from c2) (by decide)
  have D:=Draws.list (prog:=X.prog) (w:=X.w) (A:=X.A.in1) (by first|exact I.ok.hd hc| (rw[show X.A.in1.handled=X.A.handled from rfl];exact I.ok.hd hc)) it a ai its.toArray;have hlt:i<its.toArray.size:=by have:=(ax.mp hu).1;rw[bi];exact this
  refine wpAny_pyNext_enum_itemD D he ⟨hit,hl⟩ hlt hei ae λy h' tk hy hout st' hT hsz hk=>⟨.ref s.heap.objs.size,rfl,?_⟩
  refine wpAny_letOwnedTupleGo_enum hout λh2 he2 hs2=>?_;have hy':its.toArray[i]? =aA y:=hy;have ey:y=u:=by
   have:its[i]? =aA y:=by simpa using hy'
   rw[hu]at this;cases this;rfl
  subst ey;have kk:∀b o,b≠e->b≠it->s.heap.get? b=aA o->h2.get? b=aA o:=λb o h1 h3 q=>(hs2.2 b h1).trans (hk b o h1 h3 q);have neT:s.heap.objs.size≠e:=Nat.ne_of_gt (bc he);have I2:=I.turnedT (h':=h2) (t':=tk+1) (e:=e) (it:=it) (T:=s.heap.objs.size) (xs:=[.int (i:Nat),x]) (its:=[.int i tk,y]) kk (hf e (by simp)) (hf it (by simp)) rfl ⟨_,(hs2.2 _ neT).trans hT,rfl,_,rfl⟩ (.cons ⟨tk,rfl⟩ (.cons ru .nil)) (by show 2<=sizeLine;decide)
   ⟨_,he2⟩ (let⟨o,q,_⟩:=st'.1;⟨o,(hs2.2 it (Ne.symm hei)).trans q⟩)
  refine⟨.ref s.heap.objs.size,_,I2,rfl,⟨s.heap.objs.size,x,rfl,I.hok.fresh (a8 _),rfl,λys hy2=>by rw[I.list_inj hy2 hq];exact hx⟩,⟨⟨_,he2⟩,st'.1.at λo q=>(hs2.2 it (Ne.symm hei)).trans q⟩,λb hb=>?_⟩;rw[Zn λz=>?_]
  ·exact(hf b hb).1
  ·have hb':b=e\/b=it:=by simpa using hb
   rcases hb' with y|y
   ·rw[<-z,y]at neT;exact neT rfl
   ·obtain⟨o,q,_⟩:=hit;rw[y]at z;exact absurd (bc q) (by rw[z];exact gv _)
 done:=by intro X hP hw hK hc i pins s σ H E I hf st hg;subst hP hw hK;obtain⟨xs,hq,hx⟩:=hg;obtain⟨its,rv,p,hz⟩:=I.list hq;obtain⟨⟨old,he⟩,hit⟩:=st;obtain⟨f0,f1,f2,f3,f4,f5⟩:=hf it (by simp);have hl:=rv.length;exact wpAny_pyNext_enum_end (I.ok.hd hc) he hit p.isList (by simp;omega) λh' eb=>⟨rfl,I.turned (t':=s.toks) (λb o hb q=>eb b o hb q) f0 f1 f3 f4 f5⟩
 self:=λ_ _ _ _ _ st h=>let⟨⟨old,he⟩,_⟩:=st;wpAny_pyIter_enum he h
def Zko(K:af)(ta:TA):TI:=λσ H R=>ta σ H λvs H1=>∃a xs,vs=[.ref a]/\Wp K H1 a xs/\R (Ite K a) H1
theorem Zh7{l:ci}{elts:List ci}{kk:Nat}{tpos p pos:Pos}{ta:TA}(hg:Gl X "enumerate")(hm:X.mg "enumerate"=aB)(ha:PA X [l] ta)(hs:ay [l] X.env=[(aD,f8 l X.env)]:=by rfl):
  PI X (.Tuple elts kk tpos) (.Call (.Name "enumerate" p) [l] [] pos) (Zko X.K ta):=by
 intro pins s σ H R I h;refine Call_ (Bo I hg hm boot_enumerate (PyProof.Rows.callWith_type1 (Wo (ha pos pins s σ H _ I h) λus s1 ⟨vs,H1,I1,r1,q1⟩=>?_) hs rfl));obtain⟨a,xs,e,hq,q⟩:=q1;subst e;obtain⟨u,rfl,ru⟩:=Jt r1;cases ru;obtain⟨its,rv,p,hz⟩:=I1.list hq;refine call_enumerate_list p.isList λh' he hit hsz hk=>wpAny_pyIter_enum he ?_;have I2:Inv X pins σ H1 {s1 with heap:=h'}:=I1.kept (t':=s1.toks) hk;refine⟨s1.heap.objs.size+1,[s1.heap.objs.size+1,s1.heap.objs.size],_,_,H1,rfl,I2,Za7 a _ _ (Nat.succ_ne_self _),⟨⟨.none,by simpa using he⟩,hit⟩,λb hb=>?_,q⟩;have hb':b=s1.heap.objs.size+1\/b=s1.heap.objs.size:=by simpa using hb
 rcases hb' with z|z
 ·subst z;exact I1.fpOk (Nat.le_succ _) (I1.hok.fresh (Nat.le_succ _))
 ·subst z;exact I1.fpOk (a8 _) (I1.hok.fresh (a8 _))
def Zxm(K:af):V->List V->Hp->VK->Prop:=λx xs H Q=>∃sep p ys,x= .str sep/\xs=[.ref p]/\Wp K H p (ys.map V.str)/\JoinOk sep ys=aC/\Q (.str (Txt.join sep ys)) H
inductive TyX(K:af)(H:Hp):V->String->Prop where
 |non:TyX K H .non "NoneType"
 |bl (x:Bool):TyX K H (.bl x) "bool"
 |int (i:Int):TyX K H (.int i) "int"
 |str (x:Str):TyX K H (.str x) "str"
 |lst {a:ak} {xs:List V} (e:Wp K H a xs):TyX K H (.ref a) "list"
 |tup {a:ak} {xs:List V} (e:Uk K H a xs):TyX K H (.ref a) "tuple"
 |dK {a:ak} {kvs:List (Key×V)} {ep:Nat} (e:H a=aA (.dK kvs ep)):TyX K H (.ref a) "dict"
 |dT {a:ak} {kvs:List (List Key×V)} {ep:Nat} {bs:List ak} (e:H a=aA (.dT kvs ep bs)):TyX K H (.ref a) "dict"
theorem Zdr{pins:List (ak×Obj)}{σ:L2.St}{H:Hp}{s:am}{A:cj}{E:aj->am->Prop}{Q:aj->am->Prop}{c:aj}{b:Bool}{x:V}{u:aj}{T:String}(I:Inv X pins σ H s)(rx:Zm x u)(ty:TyX X.K H x T)(e:PySem.W.kitOne X.K (.type T) c=aA b)(h:∀tk,Q (.bool b) {s with toks:=tk}):
  ba (bp X.prog X.w) A (call (.builtin "isinstance") [u,c]) Q E s:=by
 cases ty with
 |non=>cases(show u=cf from rx);exact PySem.W.kia_one PySem.W.kitx_none I.kIn True.intro e (λz=>nomatch z) h
 |bl y=>cases(show u=Value.bool y from rx);exact PySem.W.kia_one PySem.W.kitx_bool I.kIn True.intro e (λz=>nomatch z) h
 |int i=>obtain⟨t,q⟩:=(show∃t,u=Value.int i t from rx);cases q;exact PySem.W.kia_one PySem.W.kitx_int I.kIn True.intro e (λz=>nomatch z) h
 |str y=>obtain⟨t,q⟩:=(show∃t,u=Value.str y t from rx);cases q;exact PySem.W.kia_one PySem.W.kitx_str I.kIn True.intro e (λz=>nomatch z) h
 | @lst a xs ea=>cases(show u=bv a from rx);obtain⟨its,_,pl,_⟩:=I.list ea;obtain⟨o,h1,h2,_⟩:=pl.isList;exact PySem.W.kia_one PySem.W.kitx_list I.kIn ⟨o,h1,h2⟩ e (λz=>nomatch z) h
 | @tup a xs ea=>cases(show u=bv a from rx);obtain⟨its,_,pl,_⟩:=I.tuple ea;obtain⟨o,h1,h2,_⟩:=pl;exact PySem.W.kia_one PySem.W.kitx_tuple I.kIn ⟨o,h1,h2⟩ e (λz=>nomatch z) h
 | @dK a kvs ep ea=>
  cases(show u=bv a from rx);obtain⟨_,_,vs,_,p⟩:=(show Z9 X.prog X.w H s.heap a (.dK kvs ep)from I.hok a _ ea)
  obtain⟨o,es,h1,h2,_⟩:=p;exact PySem.W.kia_one PySem.W.kitx_dict I.kIn ⟨o,h1,h2.1⟩ e (λz=>nomatch z) h
 | @dT a kvs ep bs ea=>
  cases(show u=bv a from rx);obtain⟨_,_,xs,_,o,es,h1,h2,_⟩:=(show Z9 X.prog X.w H s.heap a (.dT kvs ep bs)from I.hok a _ ea)
  exact PySem.W.kia_one PySem.W.kitx_dict I.kIn ⟨o,h1,h2.1⟩ e (λz=>nomatch z) h
def Zqj(K:af)(c:String):List V->Hp->VK->Prop:=λxs H Q=>∃x t b,xs=[x,.ty c]/\TyX K H x t/\PySem.W.kitOne K (.type t) (.type c)=aA b/\Q (.bl b) H
theorem Zds{c:String}:Qd X (.builtin "isinstance") (Zqj X.K c):=by intro pins s σ H xs us Q I r h;obtain⟨x,t,b,rfl,ty,e,q⟩:=h;obtain⟨u,w',rfl,r1,r2⟩:=Zj7 r;cases r2;exact Zdr I r1 ty e λtk=>⟨.bl b,H,I.tok _,rfl,q⟩
end
end L2
namespace DL
open PySem PySem.Spec PyProof.Rows L2
variable{K:af}
def Qf(xs:List D):List D:=xs.zipIdx.map λp=>.tup [.int (p.2:Nat),p.1]
theorem Iq{xs:List D}{i:Nat}{d:D}(h:(Qf xs)[i]? =aA d):∃x,xs[i]? =aA x/\d= .tup [.int (i:Nat),x]:=by
 unfold Qf at h;rw[bf,List.getElem?_zipIdx]at h;cases e:xs[i]? with
 |none=>rw[e]at h;cases h
 |some x=>rw[e]at h;cases h;exact⟨x,rfl,by simp⟩
theorem Ir(xs:List D):(Qf xs).length=xs.length:=by unfold Qf;rw[ao,List.length_zipIdx]
theorem N2{F:Hp}{a:ak}{xs:List D}{vs:List V}(h:Wp K F a vs)(r:Reps K F xs vs):Ux K (Ite K a) F (Qf xs):=λF' H sF sH i=>by
 have q:Wp K H a vs:=Y2 (sF.trans sH) h;refine⟨λd hd=>?_,λhl=>⟨vs,q,by rw[<-r.length,<-Ir];exact hl⟩⟩;obtain⟨x,hx,rfl⟩:=Iq hd;obtain⟨v,h1,h2⟩:=r.get hx;refine⟨⟨vs,v,q,h1⟩,λy H' zq9=>?_⟩;obtain⟨p,w,e1,e2,e3,e4⟩:=zq9;subst e1 e3;have e5:=e4 vs q;rw[h1]at e5;cases e5;have hp:F' p=aB:=sH.free e2;have sm:Ze F' (Qb F' [(p,.tup [.int (i:Nat),v])]):=Wt λz hz=>by obtain rfl:=au.mp hz;exact hp
 refine⟨Qe e2,[(p,.tup [.int (i:Nat),v])],Er,λz hz=>?_,.tup Z3 (.cons (.int _) (.cons (h2.mono (sF.trans sm)) .nil))⟩;obtain rfl:=au.mp hz;exact⟨e2,Z3⟩
section
variable{Z:Ent K}{H:Hp}{σ:L2.St}{Q:VK}
@[simp] def Zkp(fd:FD):FD:=λδ=>(fd δ).bind λp=>match p.1 with
 | [.lst xs]=>aA (Qf xs,p.2)
 |_=>aB
theorem Zh8{fd:FD}{R:It->Hp->Prop}(h:W5 Z (Zkp fd) σ H R):Zko K (Wj Z fd) σ H R:=by
 obtain⟨F,δ,own,ds,δ',s,e,k⟩:=h;obtain⟨⟨ds1,δ1⟩,e1,e2⟩:=aa.mp e;refine⟨F,δ,own,ds1,δ1,s,e1,λvs H1 F1 own1 sH sF s1 r1=>?_⟩;dsimp only at e2;split at e2
 ·rename_i xs;cases e2;cases r1 with
  |cons h t=>
   cases t;cases h with
   |lst h _ r=>exact⟨_,_,rfl,Y2 s1.le h,k _ H1 F1 own1 sH sF s1 (N2 h r)⟩
 ·cases e2
@[simp] def D.ty:D->String
 | .str _=>"str"
 | .int _=>"int"
 | .lst _=>"list"
 | .dK _ _=>"dict"
 | .dT _ _=>"dict"
 |_=>"?"
@[simp] def Zdt(T:String)(d:D):Bool:=T==d.ty&&(T=="str" ||T=="list" ||T=="dict")
theorem Zqk{F H:Hp}{d:D}{x:V}{T:String}(le:Ze F H)(r:Z7 K F H d x)(h:Zdt T d=aC):tyV K T x H:=by
 unfold Zdt at h;simp only[Bool.and_eq_true,beq_iff_eq]at h;obtain⟨h1,h2⟩:=h;subst h1;cases d with
 |str y=>rw[r.str];rfl
 |lst xs=>obtain⟨a,vs,e,ha,_⟩:=r.lst le;subst e;exact .inl ⟨rfl,vs,ha⟩
 |dK ks vs=>obtain⟨a,kvs,e,⟨ep,ha⟩,_⟩:=r.dK le;subst e;exact .inr (.inr (.inl ⟨rfl,.inl ⟨kvs,ep,ha⟩⟩))
 |dT ks vs=>obtain⟨a,kvs,e,⟨ep,bs,ha⟩,_⟩:=r.dT le;subst e;exact .inr (.inr (.inl ⟨rfl,.inr ⟨kvs,ep,bs,ha⟩⟩))
 |non=>exact absurd (show("?"=="str" || "?"=="list" || "?"=="dict")=aC from h2) (by decide)
 |bl b=>exact absurd (show("?"=="str" || "?"=="list" || "?"=="dict")=aC from h2) (by decide)
 |int i=>exact absurd (show("int"=="str" || "int"=="list" || "int"=="dict")=aC from h2) (by decide)
 |tup xs=>exact absurd (show("?"=="str" || "?"=="list" || "?"=="dict")=aC from h2) (by decide)
 |exc C ks vs=>exact absurd (show("?"=="str" || "?"=="list" || "?"=="dict")=aC from h2) (by decide)
 |dX ks vs=>exact absurd (show("?"=="str" || "?"=="list" || "?"=="dict")=aC from h2) (by decide)
@[simp] def bmF(T:String)(g:List D->Option SV)(fo:FE)(fa:FA):FE:=λδ=>(fo δ).bind λp=>(Ev p.1 p.2).bind λd0=>if Zdt T d0=true then(fa p.2).bind λq=>(Uo (p.1::q.1) q.2).bind λds=>(g ds).bind λsv=>some (.tmp sv,q.2)else none
def Zxn(Z:Ent K)(r:V->List V->Hp->VK->Prop)(g:List D->Option SV):Prop:=Jy Z (λvs H Q=>∃x xs,vs=x::xs/\r x xs H Q) g
end
@[simp] def strs?:List D->Option (List Str)
 | []=>aA []
 | .str x::r=>(strs? r).bind λt=>aA (x::t)
 |_=>aB
@[simp] def Zxo:List D->Option SV
 | [.str sep,.lst xs]=>(strs? xs).bind λys=>if JoinOk sep ys=aC then aA (.fz (.str (Txt.join sep ys)))else aB
 |_=>aB
variable{Z:Ent K}
@[simp] def D.pyTy:D->String
 | .non=>"NoneType"
 | .bl _=>"bool"
 | .int _=>"int"
 | .str _=>"str"
 | .tup _=>"tuple"
 | .lst _=>"list"
 | .dK _ _=>"dict"
 | .dT _ _=>"dict"
 | .dX _ _=>"?"
 | .exc _ _ _=>"?"
@[simp] def D.isExc:D->Bool
 | .exc _ _ _=>aC
 | .dX _ _=>aC
 |_=>aD
theorem Zh9{F H:Hp}{d:D}{x:V}(le:Ze F H)(r:Z7 K F H d x)(hx:d.isExc=aD):TyX K H x d.pyTy:=by
 cases d with
 |exc C ks vs=>cases hx
 |dX ks vs=>cases hx
 |non=>rw[r.non];exact .non
 |bl b=>rw[r.bl];exact .bl b
 |int i=>rw[r.int];exact .int i
 |str y=>rw[r.str];exact .str y
 |tup xs=>obtain⟨a,vs,e,ha,_⟩:=r.tup le;subst e;exact .tup ha
 |lst xs=>obtain⟨a,vs,e,ha,_⟩:=r.lst le;subst e;exact .lst ha
 |dK ks vs=>obtain⟨a,kvs,e,⟨ep,ha⟩,_⟩:=r.dK le;subst e;exact .dK ha
 |dT ks vs=>obtain⟨a,kvs,e,⟨ep,bs,ha⟩,_⟩:=r.dT le;subst e;exact .dT ha
@[simp] def Za8(c:String)(d:D):Option SV:=if d.isExc=true then none else some (.fz (.bl (d.pyTy==c|| (c=="int" &&d.pyTy=="bool"))))
theorem Zql{c:String}(hk:∀d:D,d.isExc=aD->PySem.W.kitOne K (.type d.pyTy) (.type c)=aA (d.pyTy==c|| (c=="int" &&d.pyTy=="bool"))):Zkh Z (λx H Q=>Zqj K c [x,.ty c] H Q) (Za8 c):=by
 intro F H σ δ own x d sv Q s r e k;unfold Za8 at e;split at e
 ·cases e
 ·rename_i hx;cases e;have hx':d.isExc=aD:=by cases z:d.isExc with
   |true=>exact absurd z hx
   |false=>rfl
  exact⟨x,_,_,rfl,Zh9 s.le r hx',hk d hx',k.fz s (.bl _)⟩
@[simp] def Vj:List D->Option SV
 | [.lst xs]=>aA (.fz (.int (xs.length:Nat)))
 | [.tup xs]=>aA (.fz (.int (xs.length:Nat)))
 | [.str x]=>if x.length<=a7 then aA (.fz (.int (x.length:Nat)))else aB
 |_=>aB
theorem Zqm:Jy Z (λxs H Q=>(∃p ys,xs=[V.ref p]/\(Wp K H p ys\/Uk K H p ys)/\Q (.int ys.length) H)\/(∃z,xs=[V.str z]/\z.length<=a7/\Q (.int z.length) H)) Vj:=by
 intro F H σ δ own vs ds sv Q s r e k;unfold Vj at e;split at e
 ·cases e;cases r with
  |cons h t=>cases t;obtain⟨a,us,ex,ha,ra⟩:=h.lst s.le;subst ex;exact .inl ⟨a,us,rfl,.inl ha,by rw[<-ra.length];exact k.fz s (.int _)⟩
 ·cases e;cases r with
  |cons h t=>cases t;obtain⟨a,us,ex,ha,ra⟩:=h.tup s.le;subst ex;exact .inl ⟨a,us,rfl,.inr ha,by rw[<-ra.length];exact k.fz s (.int _)⟩
 ·split at e
  ·rename_i hz;cases e;cases r with
   |cons h t=>cases t;exact .inr ⟨_,by rw[h.str],hz,k.fz s (.int _)⟩
  ·cases e
 ·cases e
@[simp] def Zxp:List D->Option SV
 | [.lst xs]=>aA (.ol xs)
 | [.tup xs]=>aA (.ol xs)
 |_=>aB
@[simp] def Tz:List D->Option SV
 | [.lst xs]=>aA (.fz (.tup xs))
 |_=>aB
theorem Zia:Jy Z (λxs H Q=>∃p ys,xs=[V.ref p]/\((Wp K H p ys/\∀l,H l=aB->Q (.ref l) (Z5 H l (.tup ys)))\/(Uk K H p ys/\Q (.ref p) H))) Tz:=by
 intro F H σ δ own vs ds sv Q s r e k;unfold Tz at e;split at e
 ·cases e;cases r with
  |cons h t=>cases t;obtain⟨a,us,ex,ha,ra⟩:=h.lst s.le;subst ex;exact⟨a,us,rfl,.inl ⟨ha,λl hl=>k.tup s ra hl⟩⟩
 ·cases e
@[simp] def Zib:List D->Option SV
 | [.int i]=>aA (.fz (.int i))
 | [.bl b]=>aA (.fz (.int (if b then 1 else 0)))
 |_=>aB
theorem Zqn:Jy Z (λxs H Q=>(∃i,xs=[V.int i]/\Q (.int i) H)\/∃k,xs=[V.bl k]/\Q (.int (if k then 1 else 0)) H) Zib:=by
 intro F H σ δ own vs ds sv Q s r e k;unfold Zib at e;split at e
 ·cases e;cases r with
  |cons h t=>cases t;exact .inl ⟨_,by rw[h.int],k.fz s (.int _)⟩
 ·cases e;cases r with
  |cons h t=>cases t;exact .inr ⟨_,by rw[h.bl],k.fz s (.int _)⟩
 ·cases e
section
variable{X:Cx}{Z:Ent X.K}{a b c:ci}{fa fb fc:FE}{pos:Pos}
theorem Zb(i:Nat){x:Str}{pos:Pos}(hN:X.N[i]? =aA x:=by rfl)(hv:Sy X.env.scope x:=by first|exact Or.inl rfl|exact gp (Or.inl rfl)|exact gp (gp rfl))(hd:(x==("__debug__":Str))=aD:=by decide)
  (hcd:(x==("__classdict__":Str))=aD:=by decide):PE X (.Name x pos) (Zc Z (Za i)):=(Js hN hv hd hcd).imp λ_ _ _ h=>Zpu h
theorem Z2{i:Int}{j:Nat}:PE X (.Constant (.int i) j pos) (Zc Z (Zh (.int i))):=Sz.imp λ_ _ _ h=>Kz (λ_=>.int _) h
theorem N3{i:Bool}{j:Nat}:PE X (.Constant (.bool i) j pos) (Zc Z (Zh (.bl i))):=Zo4.imp λ_ _ _ h=>Kz (λ_=>.bl _) h
theorem Bf{i:Str}{j:Nat}:PE X (.Constant (.str i) j pos) (Zc Z (Zh (.str i))):=Kg.imp λ_ _ _ h=>Kz (λ_=>.str _) h
theorem Hk{op:Operator}{r:R2}{g:D->D->Option SV}(ho:Bh X (binaryOp op) r)(hp:Yw Z r g)(ha:PE X a (Zc Z fa))(hb:PE X b (Zc Z fb)):PE X (.BinOp a op b pos) (Zc Z (Zt g fa fb)):=(Zpc ho ha hb).imp λ_ _ _ h=>Io hp h
theorem U9(ha:PE X a (Zc Z fa))(hb:PE X b (Zc Z fb)):PE X (.BinOp a .Add b pos) (Zc Z (Zt Cn fa fb)):=Hk Zh6 Zqc ha hb
theorem Bx(ha:PE X a (Zc Z fa))(hb:PE X b (Zc Z fb)):PE X (.BinOp a .FloorDiv b pos) (Zc Z (Zt Cv fa fb)):=Hk Zhg Zmq ha hb
theorem Up(ha:PE X a (Zc Z fa))(hb:PE X b (Zc Z fb)):PE X (.BinOp a .Mod b pos) (Zc Z (Zt Cm fa fb)):=Hk Zl7 Zqb ha hb
theorem Zdu{op:CmpOp}{r:R2}{g:D->D->Option SV}(ho:Bh X (gh op) r)(hp:Yw Z r g)(ha:PE X a (Zc Z fa))(hb:PE X b (Zc Z fb))(hm:behindInMarks op b=aD):PE X (.Compare a [op] [b] pos) (Zc Z (Zt g fa fb)):=(Zhh ho ha hb hm).imp λ_ _ _ h=>Io hp h
theorem T0{op:CmpOp}{r:R2}{g:D->D->Option SV}(ho:Bh X (gh op) r)(hp:Yw Z r g)(ha:PE X a (Zc Z fa))(hb:PE X b (Zc Z fb))(hm:behindInMarks op b=aD):PT X (.Compare a [op] [b] pos) (Yh Z (Y5 (Zt g fa fb))):=
 (Zhi ho ha hb hm).imp λσ H Q h=>by obtain⟨F,δ,own,rv,δ',s,e,k⟩:=Zdg h;exact Io hp ⟨F,δ,own,rv,δ',s,e,k⟩
theorem Zvb(ha:PE X a (Zc Z fa))(hb:PE X b (Zc Z fb)):PT X (.Compare a [.Lt] [b] pos) (Yh Z (Y5 (Zt Jo fa fb))):=T0 Zpf Zu3 ha hb (C4 _)
theorem Zqo(ha:PE X a (Zc Z fa))(hb:PE X b (Zc Z fb)):PT X (.Compare a [.Gt] [b] pos) (Yh Z (Y5 (Zt gtD fa fb))):=T0 Zpg Zu4 ha hb (C4 _)
theorem Zkq{f:FT}(ha:PT X a (Yh Z f)):PW X (.BoolOp .Or [a] pos) (Yh Z f):=Zly ha
theorem Zqp{f g:FT}{rest:List ci}(ha:PT X a (Yh Z f))(hb:PW X (.BoolOp .Or (b::rest) pos) (Yh Z g)):PW X (.BoolOp .Or (a::b::rest) pos) (Yh Z (orF f g)):=(Zo6 ha hb).imp λ_ _ _ h=>Zuz h
theorem Zkr{f:FT}(ha:PT X a (Yh Z f)):PT X (.UnaryOp .Not a pos) (Yh Z (Zh0 f)):=(Zlz ha).imp λ_ _ _ h=>Zpy h
theorem Zdv(h:PE X a (Zc Z fa))(he:∀whole,isTrue a X.env whole=(do let v<-whole;standAt a.pos;holding [v] (truthy v)):=by intro _;rfl):PT X a (Yh Z (Y5 fa)):=(Zlx h he).imp λ_ _ _ h=>Zhz h
theorem Ym:PA X [] (Bc Z Zp):=Jv.imp λ_ _ _ h=>Zde h
theorem Zq{es:List ci}{fr:FA}(ha:PE X a (Zc Z fa))(hr:PA X es (Bc Z fr))(hs:ay (a::es) X.env=(aD,f8 a X.env)::ay es X.env:=by rfl):PA X (a::es) (Bc Z (Zd fa fr)):=(W3 ha hr hs).imp λ_ _ _ h=>Za5 h
theorem Ye:PA X [] (Wj Z Zl):=Jv.imp λ_ _ _ h=>Ip h
theorem Zr{es:List ci}{fr:FD}(ha:PE X a (Zc Z fa))(hr:PA X es (Wj Z fr))(hs:ay (a::es) X.env=(aD,f8 a X.env)::ay es X.env:=by rfl):PA X (a::es) (Wj Z (Zf fa fr)):=(W3 ha hr hs).imp λ_ _ _ h=>Tv h
theorem Oa{es:List ci}{fd:FD}{k:Nat}(h:PA X es (Wj Z fd)):PE X (.Tuple es k pos) (Zc Z (tupF fd)):=(Zcp h).imp λ_ _ _ h=>Zpw h
theorem Wx{es:List ci}{fd:FD}(h:PA X es (Wj Z fd)):PE X (.List es pos) (Zc Z (Jk fd)):=(S7 h).imp λ_ _ _ h=>Zpx h
theorem Zmu:PO X aB (Mp Z Vi):=λpins s σ H Q I h=>Zhj pins s σ H Q I (Zdq h)
theorem Vk(ha:PE X a (Zc Z fa)):PO X (aA a) (Mp Z (N1 fa)):=λpins s σ H Q I h=>Zhk ha pins s σ H Q I (Zmr h)
theorem Zqq{lo hi:Option ci}{fl fh:FO}{p2:Pos}(ha:PE X a (Zc Z fa))(hl:PO X lo (Mp Z fl))(hh:PO X hi (Mp Z fh)):PE X (.Subscript a (.Slice lo hi aB p2) pos) (Zc Z (slF slD fa fl fh)):=
 (Zcs (Zho.or Zms) ha hl hh).imp λ_ _ _ h=>Zu8 Zu9 h
theorem Ys{k n:Nat}{f:ak}{fd:cx}{ps:List Str}{g:List D->Option SV}{x:Str}{p:Pos}{es:List ci}{fr:FA}(F:FnOk X.prog X.w X.K X.mg X.base Oe k f fd ps (Y6 X.K n g))(hr:Room k X.A)(hm:X.mg x=aA (.ref f))(hk:bq X.K (.ref f)=aC)(hb:Ww X.K fd ps [])
  (ha:PA X (a::es) (Bc Z fr)) (hg:Gl X x:=by rfl) (hdb:(x==("__debug__":Str))=aD:=by decide) (he:ay (a::es) X.env=(aD,f8 a X.env)::ay es X.env:=by rfl) (hpl:(f6 pos (ay es X.env)).any (·.1)=aD:=by rfl):
  PE X (.Call (.Name x p) (a::es) [] pos) (Zc Z (We n g fr)):=(He F hr hg hm hk hb .nil Zkc ha hdb he hpl).imp λ_ _ _ h=>Zmk h
theorem M6{id:String}{r:List V->Hp->VK->Prop}{g:List D->Option SV}{x:Str}{p:Pos}{es:List ci}{fr:FA}(hc:Qd X (.builtin id) r)(hp:Jy Z r g)(hm:X.mg x=aB)(hv:bootBuiltins x=aA (.builtin id))(ha:PA X (a::es) (Bc Z fr))(hg:Gl X x:=by rfl)(hn:x≠"__name__":=by decide)(hdb:(x==("__debug__":Str))=aD:=by decide)
  (he:ay (a::es) X.env=(aD,f8 a X.env)::ay es X.env:=by rfl) (hpl:(f6 pos (ay es X.env)).any (·.1)=aD:=by rfl):PE X (.Call (.Name x p) (a::es) [] pos) (Zc Z (Yl g fr)):=(Nq hc hg hm hv ha hn hdb he hpl).imp λ_ _ _ h=>K0 hp h
theorem Gy{T:String}{r:List V->Hp->VK->Prop}{g:List D->Option SV}{x:Str}{p:Pos}{es:List ci}{fr:FA}(hc:Qd X (.type T) r)(hp:Jy Z r g)(hm:X.mg x=aB)(hv:bootBuiltins x=aA (.type T))(ha:PA X (a::es) (Bc Z fr))(hg:Gl X x:=by rfl)(hn:x≠"__name__":=by decide)(hdb:(x==("__debug__":Str))=aD:=by decide)
  (he:ay (a::es) X.env=(aD,f8 a X.env)::ay es X.env:=by rfl) (hpl:(f6 pos (ay es X.env)).any (·.1)=aD:=by rfl):PE X (.Call (.Name x p) (a::es) [] pos) (Zc Z (Yl g fr)):=(Zaz hc hg hm hv ha hn hdb he hpl).imp λ_ _ _ h=>K0 hp h
theorem Hl{p:Pos}(hm:X.mg "len"=aB)(ha:PE X a (Zc Z fa))(hg:Gl X "len":=by rfl)(he:ay [a] X.env=(aD,f8 a X.env)::ay [] X.env:=by rfl)(hpl:(f6 pos (ay [] X.env)).any (·.1)=aD:=by rfl):PE X (.Call (.Name "len" p) [a] [] pos) (Zc Z (Yl Vj (Zd fa Zp))):=
 M6 (Kr.or Ks) Zqm hm PySem.boot_len (Zq ha Ym he) hg (by decide) (by decide) he hpl
theorem Hm{p:Pos}(hm:X.mg "tuple"=aB)(ha:PE X a (Zc Z fa))(hg:Gl X "tuple":=by rfl)(he:ay [a] X.env=(aD,f8 a X.env)::ay [] X.env:=by rfl)(hpl:(f6 pos (ay [] X.env)).any (·.1)=aD:=by rfl):PE X (.Call (.Name "tuple" p) [a] [] pos) (Zc Z (Yl Tz (Zd fa Zp))):=
 Gy Et Zia hm boot_tuple (Zq ha Ym he) hg (by decide) (by decide) he hpl
theorem Zmv{p:Pos}(hm:X.mg "int"=aB)(ha:PE X a (Zc Z fa))(hg:Gl X "int":=by rfl)(he:ay [a] X.env=(aD,f8 a X.env)::ay [] X.env:=by rfl)(hpl:(f6 pos (ay [] X.env)).any (·.1)=aD:=by rfl):PE X (.Call (.Name "int" p) [a] [] pos) (Zc Z (Yl Zib (Zd fa Zp))):=
 Gy Zaw Zqn hm boot_int (Zq ha Ym he) hg (by decide) (by decide) he hpl
theorem Zdw{x:Str}{c:String}{p p2:Pos}(hm:X.mg "isinstance"=aB)(hmc:X.mg x=aB)(hv:bootBuiltins x=aA (.type c))(hk:∀d:D,d.isExc=aD->PySem.W.kitOne X.K (.type d.pyTy) (.type c)=aA (d.pyTy==c|| (c=="int" &&d.pyTy=="bool")))(ha:PE X a (Zc Z fa))(hg:Gl X "isinstance":=by rfl)(hgc:Gl X x:=by rfl)
  (hn:x≠"__name__":=by decide) (hdb:(x==("__debug__":Str))=aD:=by decide)
  (he:ay [a,.Name x p2] X.env=(aD,f8 a X.env)::ay [.Name x p2] X.env:=by rfl) (he2:ay [.Name x p2] X.env=(aD,f8 (.Name x p2) X.env)::ay [] X.env:=by rfl) (hpl:(f6 pos (ay [.Name x p2] X.env)).any (·.1)=aD:=by rfl):
  PE X (.Call (.Name "isinstance" p) [a,.Name x p2] [] pos) (Zc Z (unF (Za8 c) fa)):=
 (Nq Zds hg hm boot_isinstance (W3 ha (W3 (Zhc (v:=.ty c) hgc hmc hv rfl hn hdb) Jv he2) he) (by decide) (by decide) he hpl).imp λσ H Q h=>by have h2:=Zuy (Zql hk) h;exact h2
theorem Z8(i:Nat){x:Str}(hN:X.N.Nodup)(hi:X.N[i]? =aA x:=by rfl)(hx:Loc X.env.scope x:=by first|exact Or.inl rfl|exact gp rfl)(hf:X.fn x=aC\/X.env.scope.names.lookup x=aA .local:=by first|exact .inl rfl|exact .inr rfl):PG X (.Name x pos) (Bd Z (Zg i)):=(X9 hN hi hx hf).imp λ_ _ _ _ h=>Zh1 h
theorem C6:PGs X [] (Bw Z Wb):=Zhd.imp λ_ _ _ _ h=>Zmm h
theorem Wg{es:List ci}{g:FG}{r:FGs}(h1:PG X a (Bd Z g))(h2:PGs X es (Bw Z r))(hs:(assignEach (a::es) X.env).map (·.2)=assign a X.env::(assignEach es X.env).map (·.2):=by rfl):PGs X (a::es) (Bw Z (Zu g r)):=(Zcg h1 h2 hs).imp λ_ _ _ _ h=>Zh2 h
theorem T3{es:List ci}{k n:Nat}{g:FGs}(hc:X.calm=aC)(h:PGs X es (Bw Z g))(hn:(assignEach es X.env).length=n:=by rfl)(hst:(assignEach es X.env).findIdx? (·.1)=aB:=by rfl):PG X (.Tuple es k pos) (Bd Z (Wa n g)):=(Zl2 hc h hn hst).imp λ_ _ _ _ h=>Zmn h
theorem Zdx{tg:ci}{p:Pos}(hm:X.mg "range"=aB)(ha:PE X a (Zc Z fa))(hg:Gl X "range":=by rfl)(hs:ay [a] X.env=[(aD,f8 a X.env)]:=by rfl):PI X tg (.Call (.Name "range" p) [a] [] pos) (W5 Z (Zdk (Zd fa Zp))):=(Zat hg hm (Zq ha Ym hs) hs).imp λ_ _ _ h=>Zmo h
theorem Wu{N':List Str}{scope:Scope}{src:List BSrc}(kind:scope.kind= .function)(nocell:(scope.names.all λy=>!(y.2== .cell))=aC)(names:(scope.names.all λy=>!(y.2== .local)|| (scope.names.lookup y.1==aA .local))=aC)
  (free:(scope.names.all λy=>!(y.2== .free)|| (X.env.kindOf y.1==aA .cell)|| (X.env.kindOf y.1==aA .free))=aC) (len:src.length=N'.length)
  (cap:((cr src.length).all λk=>match src[k]?,N'[k]? with
   |some (.cap j),aA x=>(X.N[j]? ==aA x)&&((X.env.kindOf x==aA .cell)|| (X.env.kindOf x==aA .free))&&(scope.names.lookup x==aA .free)
   |some .acc,aA x=>scope.names.lookup x==aB
   |_,_=>aC)=aC):CompScope X N' scope src:=by
 have capk:∀(k:Nat) (q:BSrc) (x:Str),src[k]? =aA q->N'[k]? =aA x->(match aA q,aA x with
   |some (.cap j),aA x=>(X.N[j]? ==aA x)&&((X.env.kindOf x==aA .cell)|| (X.env.kindOf x==aA .free))&&(scope.names.lookup x==aA .free)
   |some .acc,aA x=>scope.names.lookup x==aB
   |_,_=>aC)=aC:=λk q x h1 h2=>by
  have hk:k<src.length:=(ax.mp h1).1;have:=g6.mp cap k (cw.mpr hk);rw[h1,h2]at this;exact this
 refine⟨kind,λy hy e=>?_,λy hy e=>?_,λy hy e=>?_,len,λk j x h1 h2=>?_,λk x h1 h2=>?_⟩
 ·have:=g6.mp nocell y hy;rw[e]at this;cases this
 ·have:=g6.mp names y hy;rw[e]at this;simpa using this
 ·have:=g6.mp free y hy;rw[e]at this;simpa using this
 ·have:=capk k (.cap j) x h1 h2;simp only[Bool.and_eq_true,Bool.or_eq_true,beq_iff_eq]at this;exact⟨this.1.1,this.1.2,this.2⟩
 ·have:=capk k .acc x h1 h2;simpa using this
theorem Gz{src:List BSrc}(k:Nat)(acc:src[k]? =aA .acc)(uni:((cr src.length).all λi=>match src[i]? with
   |some .acc=>i==k
   |_=>aC)=aC):SrcOk src k:=⟨acc,λi h=>by
  have hi:i<src.length:=(ax.mp h).1;have:=g6.mp uni i (cw.mpr hi);rw[h]at this;simpa using this⟩
theorem N4(K:af):∀d:D,d.isExc=aD->PySem.W.kitOne K (.type d.pyTy) (.type "list")=aA (d.pyTy=="list" || ("list"=="int" &&d.pyTy=="bool")):=by intro d h;cases d<;> first| (cases h;done)|with_unfolding_all rfl
theorem Za9(K:af):∀d:D,d.isExc=aD->PySem.W.kitOne K (.type d.pyTy) (.type "tuple")=aA (d.pyTy=="tuple" || ("tuple"=="int" &&d.pyTy=="bool")):=by intro d h;cases d<;> first| (cases h;done)|with_unfolding_all rfl
theorem xg{tg:ci}{g:FG}(h:∀Z:Ent X.K,PG X tg (Bd Z g)):PG X tg (xG X.K g):=λpins s σ H v u Q I r ⟨Z,q⟩=>h Z pins s σ H v u Q I r q
theorem xe{e:ci}{f:FE}(h:∀Z:Ent X.K,PE X e (Zc Z f)):PE X e (xE X.K f):=λpins s σ H Q I ⟨Z,q⟩=>h Z pins s σ H Q I q
theorem xt{e:ci}{f:FT}(h:∀Z:Ent X.K,PT X e (Yh Z f)):PTs X [e] (xT X.K f):=λpins s σ H Q I ⟨Z,q⟩=>Zhw (h Z) pins s σ H Q I q
theorem xt0:PTs X [] (xT X.K Q5):=λpins s σ H Q I ⟨Z,q⟩=>by obtain⟨F,δ,own,b,δ',sr,e,k⟩:=q;cases e;exact Zhv pins s σ H Q I (k H F own (Ze.refl H) (Ze.refl F) sr)
theorem C7{N':List Str}{scope:Scope}{src:List BSrc}{k:Nat}{tg elt iter:ci}{ifs:List ci}{fi:FD}{g:FG}{tt:FT}{te:FE}(hc:X.calm=aC)(S:CompScope X N' scope src)(So:SrcOk src k)(hk:k∉g.tch)(hi:PI X tg iter (W5 Z fi))
  (hg:∀(C:ak) (s₀:am) (H₀:Hp) (ex:List ak),PG (X.block N' scope C s₀ H₀ ex) tg (xG X.K g)) (ht:∀(C:ak) (s₀:am) (H₀:Hp) (ex:List ak),PTs (X.block N' scope C s₀ H₀ ex) ifs (xT X.K tt)) (he:∀(C:ak) (s₀:am) (H₀:Hp) (ex:List ak),PE (X.block N' scope C s₀ H₀ ex) elt (xE X.K te))
  (hs:∀x,foldedSetIterable iter X.env x=pure x:=by intro _;rfl):PE X (.ListComp elt [⟨tg,iter,ifs,0⟩] scope pos) (Zc Z (Be src k fi g tt te)):=(Zhx hc S hi hg ht he hs).imp λ_ _ _ h=>Zdn So hk h
theorem Om:Gs X [] (Z1 Z Bv):=X7.imp λ_ _ _ h=>Zml h
theorem Zi{st:Stmt}{rest:List Stmt}{f g:FS}(h1:PS X st (Z1 Z f))(h2:Gs X rest (Z1 Z g)):Gs X (st::rest) (Z1 Z (Yc f g)):=(U5 h1 h2).imp λ_ _ _ h=>Zki h
theorem Zz{st:Stmt}{f:FS}(h:PS X st (Z1 Z f)):Gs X [st] (Z1 Z f):=X8 h
def Zvc:FS:=λ_=>aB
theorem Qo(h:PE X a (Zc Z fa)):PS X (.Return (aA a) pos) (Z1 Z (Bi fa)):=(Zce h).imp λ_ _ _ h=>Zp1 h
theorem K8{t:FT}{f g:FS}{bt be:List Stmt}(hc:PT X c (Yh Z t))(ha:Gs X bt (Z1 Z f))(hb:Gs X be (Z1 Z g)):PS X (.If c bt be pos) (Z1 Z (ifS t f g)):=(Zj2 hc ha hb).imp λ_ _ _ h=>Zpz h
theorem Yn(i:Nat){x:Str}{pos':Pos}(hN:X.N.Nodup)(he:PE X a (Zc Z fa))(hi:X.N[i]? =aA x:=by rfl)(hx:Loc X.env.scope x:=by first|exact Or.inl rfl|exact gp rfl)(hs:swapsWith a (aA (.Name x pos')) pos.line X.env=pure aD:=by rfl)(hf:X.fn x=aC\/X.env.scope.names.lookup x=aA .local:=by first|exact .inl rfl|exact .inr rfl):
  PS X (.Assign [.Name x pos'] a pos) (Z1 Z (Wd i fa)):=(S3 hN hi hx he hs hf).imp λ_ _ _ h=>Zkj h
theorem Iu(i:Nat){N':List Str}{scope:Scope}{src:List BSrc}{k:Nat}{tg elt iter:ci}{ifs:List ci}{fi:FD}{g:FG}{tt:FT}{te:FE}{y:Str}{py spos:Pos}(hc:X.calm=aC)(S:CompScope X N' scope src)(So:SrcOk src k)(hk:k∉g.tch)(hi:PI X tg iter (W5 Z fi))
  (hg:∀(C:ak) (s₀:am) (H₀:Hp) (ex:List ak),PG (X.block N' scope C s₀ H₀ ex) tg (xG X.K g)) (ht:∀(C:ak) (s₀:am) (H₀:Hp) (ex:List ak),PTs (X.block N' scope C s₀ H₀ ex) ifs (xT X.K tt)) (he:∀(C:ak) (s₀:am) (H₀:Hp) (ex:List ak),PE (X.block N' scope C s₀ H₀ ex) elt (xE X.K te))
  (hN:X.N.Nodup) (hiy:X.N[i]? =aA y:=by rfl) (hx:X.env.scope.names.lookup y=aA .local:=by rfl) (hsw:swapsWith (.ListComp elt [⟨tg,iter,ifs,0⟩] scope pos) (aA (.Name y py)) spos.line X.env=pure aC:=by rfl)
  (hs:∀x,foldedSetIterable iter X.env x=pure x:=by intro _;rfl):PS X (.Assign [.Name y py] (.ListComp elt [⟨tg,iter,ifs,0⟩] scope pos) spos) (Z1 Z (Wd i (Be src k fi g tt te))):=
 (Ve hc S hi hg ht he hN hiy hx hsw hs).imp λD σ H h=>by obtain⟨F,δ,own,rv,δ',s,e,q⟩:=Zkj h;exact Zdn So hk ⟨F,δ,own,rv,δ',s,e,q⟩
theorem Zdy{tg:ci}{g:FG}(he:PE X a (Zc Z fa))(hg:PG X tg (Bd Z g))(hs:swapsWithSole [tg] a pos.line X.env=pure aD:=by rfl)(hw:swappedStores [tg] a X.env=pure aB:=by rfl)(h1:(assignEach [tg] X.env).map (·.2)=[assign tg X.env]:=by rfl):
  PS X (.Assign [tg] a pos) (Z1 Z (K5 g fa)):=(Zl3 he hg hs hw h1).imp λ_ _ _ h=>Zdi h
theorem Jf{tg iter:ci}{body:List Stmt}{fi:FD}{g:FG}{f:FS}(hp:PassesOwn (bp X.prog X.w) X.A X.env X.xe)(hc:X.calm=aC)(hi:PI X tg iter (W5 Z fi))(hg:PG X tg (Bd Z g))(hb:Gs X body (Z1 Z f))(hs:∀x,foldedSetIterable iter X.env x=pure x:=by intro _;rfl):
  PS X (.For tg iter body [] pos) (Z1 Z (Bj fi g f)):=(Zck hp hc hi hg hb hs).imp λ_ _ _ h=>Zp4 h
theorem Zic(n:Nat){t:FT}{body:List Stmt}{f:FS}(hp:PassesOwn (bp X.prog X.w) X.A X.env X.xe)(hc:PT X c (Yh Z t))(hb:Gs X body (Z1 Z f)):PS X (.While c body [] pos) (Z1 Z (Jz t f n)):=(Zci hp hc hb).imp λ_ _ _ h=>Zh3 h
theorem T4(i:Nat){x:Str}{px apos cpos:Pos}(hb:PE X b (Zc Z fb))(hN:X.N[i]? =aA x:=by rfl)(hv:Sy X.env.scope x:=by first|exact Or.inl rfl|exact gp (Or.inl rfl)|exact gp (gp rfl))(hd:(x==("__debug__":Str))=aD:=by decide)
  (hcd:(x==("__classdict__":Str))=aD:=by decide) (hbase:attributeBase (.Name x px) "append" X.env (f8 (.Name x px) X.env)=f8 (.Name x px) X.env:=by rfl)
  (hfew:((f6 cpos (ay [b] X.env)).all (λx=>!x.1)&&(backToKw cpos (keywordEach [] X.env)).all (λx=>x.1.isSome)&&decide ([b].length+([]:List Keyword).length+(if([]:List Keyword).isEmpty then 0 else 1)<30))=aC:=by rfl)
  (hline:(apos.endLine==cpos.line)=aC:=by rfl) (hs:ay [b] X.env=(aD,f8 b X.env)::ay [] X.env:=by rfl) (hpl:(f6 cpos (ay [] X.env)).any (·.1)=aD:=by rfl) (hsw:swapsWith (.Call (.Attribute (.Name x px) "append" apos) [b] [] cpos) aB pos.line X.env=pure aD:=by rfl):
  PS X (.Expr (.Call (.Attribute (.Name x px) "append" apos) [b] [] cpos) pos) (Z1 Z (Tx i fb)):=
 (Og (Ii PySem.F.plainAttrs_list PySem.F.slot_list_append PySem.F.type_list_append Cc (Js (i:=i) hN hv hd hcd) (W3 hb Jv hs) hbase hfew hline hs hpl) hsw).imp λ_ _ _ h=>Zp5 h
end
@[simp] def Qp(f:FS)(n:Nat)(ds:List D):Option SV:=match f (Ty n ds)with
 |some (.rt sv)=>aA sv
 |some (.nx _)=>aA (.fz .non)
 |_=>aB
theorem Zdz{N:List Str}{n:Nat}{f:FS}{vs:List V}{H:Hp}{Q:VK}{E:XK}(h:Y6 K n (Qp f N.length) vs H Q E):∃F,Z1 (ent H F:Ent K) f {nx:=λ_ H'=>Q .non H',rt:=Q} (L2.Ba N vs) H:=by
 obtain⟨F,ds,sv,le,r,hn,e,k⟩:=h;unfold Qp at e;split at e
 ·rename_i sw hf;cases e;exact⟨F,F,_,_,.rt sv,N0 (N:=N) le r,hf,λv H' F' ns a b c d e' nd ok=>k v H' F' ns d a b c e' nd ok⟩
 ·rename_i δ hf;cases e;exact⟨F,F,_,_,.nx δ,N0 (N:=N) le r,hf,λσ' H' F' own' a s'=>k .non H' F' [] s'.old a s'.le s'.fro (.fz .non) c7 λ_ h=>(nomatch h)⟩
 ·cases e
def Zxq(K:af):Sp:=λvs H Q _=>∃(a:ak) (ns:List Int),vs=[.ref a]/\Wp K H a (ns.map V.int)/\ns.length<=63/\∀H',Q (.bl aC) H'
theorem N5{F:Hp}:∀ns:List Int,Reps K F (ns.map D.int) (ns.map V.int)
 | []=>.nil
 |n::r=>.cons (.int n) (N5 r)
end DL
namespace DL
open PySem PySem.Spec PyProof.Rows L2
variable{K:af}
@[simp] def Qq(f:D->D->Option Bool):List D->List D->Option Bool
 |x::xs,y::ys=>(f x y).bind λb=>(Qq f xs ys).bind λc=>aA (b&&c)
 |_,_=>aA aC
@[simp] def Uy(f:D->D->Option Bool):D->D->Option Bool
 | .lst xs,.lst ys=>if xs.length=ys.length then Qq f xs ys else aA aD
 | .tup xs,.tup ys=>(Qq f xs ys).bind λb=>aA (b&&decide (xs.length=ys.length))
 | .lst _,.tup _=>aA aD
 | .tup _,.lst _=>aA aD
 |d1,d2=>eqS d1 d2
@[simp] def Wq:Nat->D->D->Option Bool
 |0=>λ_ _=>aB
 |n+1=>Uy (Wq n)
theorem G0{F H:Hp}{d1 d2:D}{x y:V}{b:Bool}(e:eqS d1 d2=aA b)(r1:Z7 K F H d1 x)(r2:Z7 K F H d2 y):Yd x=aC/\Yd y=aC/\b=Nt x y:=by unfold eqS at e;split at e<;> cases e<;> (first|obtain rfl:=r1.non|obtain rfl:=r1.int|obtain rfl:=r1.bl|obtain rfl:=r1.str)<;> (first|obtain rfl:=r2.non|obtain rfl:=r2.int|obtain rfl:=r2.bl|obtain rfl:=r2.str)<;> refine⟨rfl,rfl,?_⟩<;> first|rfl|simp[Nt]
section
variable{X:Cx}{pins:List (ak×Obj)}{σ:L2.St}{F H:Hp}{s:am}
theorem Zd0{x y:V}{v:aj}(rx:Zm x v)(ry:Zm y v)(fx:Yd x=aC)(fy:Yd y=aC):Nt x y=aC:=by
 cases x with
 |non=>cases rx;cases y with
  |non=>rfl
  |bl b=>cases ry
  |int b=>obtain⟨t,e⟩:=ry;cases e
  |str b=>obtain⟨t,e⟩:=ry;cases e
  |_=>cases fy
 |bl a=>cases rx;cases y with
  |non=>cases ry
  |bl b=>cases ry;simp[Nt]
  |int b=>obtain⟨t,e⟩:=ry;cases e
  |str b=>obtain⟨t,e⟩:=ry;cases e
  |_=>cases fy
 |int a=>obtain⟨t,rfl⟩:=rx;cases y with
  |non=>cases ry
  |bl b=>cases ry
  |int b=>obtain⟨t,e⟩:=ry;cases e;simp[Nt]
  |str b=>obtain⟨t,e⟩:=ry;cases e
  |_=>cases fy
 |str a=>obtain⟨t,rfl⟩:=rx;cases y with
  |non=>cases ry
  |bl b=>cases ry
  |int b=>obtain⟨t,e⟩:=ry;cases e
  |str b=>obtain⟨t,e⟩:=ry;cases e;simp[Nt]
  |_=>cases fy
 |_=>cases fx
theorem Vl{h:dq}{a:ak}{i1 i2:Array aj}(h1:h.IsList a i1)(h2:h.IsList a i2):i1=i2:=by obtain⟨o,e1,c1,n1,d1⟩:=h1;obtain⟨o2,e2,c2,n2,d2⟩:=h2;rw[e1]at e2;cases e2;rw[d1]at d2;cases d2;rfl
theorem N6{h:dq}{a:ak}{i1 i2:Array aj}(h1:h.IsTuple a i1)(h2:h.IsTuple a i2):i1=i2:=by obtain⟨o,e1,c1,n1,d1⟩:=h1;obtain⟨o2,e2,c2,n2,d2⟩:=h2;rw[e1]at e2;cases e2;rw[d1]at d2;cases d2;rfl
theorem Hn{f:D->D->Option Bool}(hf:∀d1 d2 b x y v,Rep X.K F d1 x->Zm x v->Rep X.K F d2 y->Zm y v->f d1 d2=aA b->b=aC){xs:List D}:∀{ys:List D} {vs ws:List V} {us:List aj} {b:Bool},Reps X.K F xs vs->Zw vs us->Reps X.K F ys ws->Zw ws us->Qq f xs ys=aA b->b=aC:=by
 induction xs with
 |nil=>intro ys vs ws us b _ _ _ _ e;cases e;rfl
 |cons x xs ih=>
  intro ys vs ws us b r1 v1 r2 v2 e;cases r1 with
  |cons h1 t1=>
   cases v1 with
   |cons a1 w1=>
    cases v2 with
    |cons a2 w2=>
     cases r2 with
     |cons h2 t2=>obtain⟨b,e1,e2⟩:=aa.mp e;obtain⟨c,e3,e4⟩:=aa.mp e2;cases e4;rw[hf _ _ _ _ _ _ h1 a1 h2 a2 e1,ih t1 w1 t2 w2 e3];rfl
theorem Iv(I:Inv X pins σ H s)(le:Ze F H){f:D->D->Option Bool}(ih:∀(d1 d2:D) (b:Bool) (x y:V) (v:aj),Rep X.K F d1 x->Zm x v->Rep X.K F d2 y->Zm y v->f d1 d2=aA b->b=aC)(d1 d2:D)(b:Bool)(x y:V)(v:aj)(r1:Rep X.K F d1 x)(v1:Zm x v)(r2:Rep X.K F d2 y)(v2:Zm y v)(e:Uy f d1 d2=aA b):b=aC:=by
  unfold Uy at e;split at e
  ·rename_i xs ys;cases r1 with
   |lst q1 _ p1=>
   cases r2 with
   |lst q2 _ p2=>
   cases v1;cases v2;obtain⟨i1,w1,l1,_⟩:=I.list (Y2 le q1);obtain⟨i2,w2,l2,_⟩:=I.list (Y2 le q2);have z:=Vl l1.isList l2.isList;have z:i1=i2:=by simpa using z
   subst z;split at e
   ·exact Hn (ih) p1 w1 p2 w2 e
   ·rename_i hl;have h1:=w1.length;have h2:=w2.length;have h3:=p1.length;have h4:=p2.length;exact absurd (by omega) hl
  ·rename_i xs ys;cases r1 with
   |tup q1 p1=>
   cases r2 with
   |tup q2 p2=>
   cases v1;cases v2;obtain⟨i1,w1,l1,_⟩:=I.tuple (W0 le (Bb q1));obtain⟨i2,w2,l2,_⟩:=I.tuple (W0 le (Bb q2));have z:=N6 l1 l2;have z:i1=i2:=by simpa using z
   subst z;obtain⟨c,e1,e2⟩:=aa.mp e;cases e2;have h1:=w1.length;have h2:=w2.length;have h3:=p1.length;have h4:=p2.length;rw[Hn (ih) p1 w1 p2 w2 e1,decide_eq_true (by omega)];rfl
  ·cases r1 with
   |lst q1 _ p1=>
   cases r2 with
   |tup q2 p2=>
   cases v1;cases v2;obtain⟨i1,w1,l1,_⟩:=I.list (Y2 le q1);obtain⟨i2,w2,l2,_⟩:=I.tuple (W0 le (Bb q2));exact absurd rfl (SeqAt.ne_of_list_tuple (s:=s) l1.isList l2)
  ·cases r1 with
   |tup q1 p1=>
   cases r2 with
   |lst q2 _ p2=>
   cases v1;cases v2;obtain⟨i1,w1,l1,_⟩:=I.tuple (W0 le (Bb q1));obtain⟨i2,w2,l2,_⟩:=I.list (Y2 le q2);exact absurd rfl (SeqAt.ne_of_list_tuple (s:=s) l2.isList l1)
  ·obtain⟨f1,f2,rfl⟩:=G0 (H:=H) e (Z7.of r1) (Z7.of r2);exact Zd0 v1 v2 f1 f2
theorem N7(I:Inv X pins σ H s)(le:Ze F H):∀(n:Nat) (d1 d2:D) (b:Bool) (x y:V) (v:aj),Rep X.K F d1 x->Zm x v->Rep X.K F d2 y->Zm y v->Wq n d1 d2=aA b->b=aC
 |0,_,_,_,_,_,_,_,_,_,_,e=>by cases e
 |n+1,d1,d2,b,x,y,v,r1,v1,r2,v2,e=>Iv I le (N7 I le n) d1 d2 b x y v r1 v1 r2 v2 e
theorem N8{A:cj}{f:D->D->Option Bool}(hf:∀d1 d2 b x y v u,Rep X.K F d1 x->Zm x v->Rep X.K F d2 y->Zm y u->f d1 d2=aA b->SeqAt.EqAt A s v u b){xs:List D}:∀{ys:List D} {vs ws:List V} {us zs:List aj} {b:Bool},Reps X.K F xs vs->Zw vs us->Reps X.K F ys ws->Zw ws zs->Qq f xs ys=aA b->
  ∃e:Nat->Bool,(∀j (h1:j<us.length) (h2:j<zs.length),SeqAt.EqAt A s us[j] zs[j] (e j))/\(cr (min us.length zs.length)).all e=b:=by
 induction xs with
 |nil=>intro ys vs ws us zs b r1 v1 _ _ e;cases r1;cases v1;cases e;exact⟨λ_=>aC,λj h1=>absurd h1 (fj _),by rw[List.length_nil,Nat.zero_min];rfl⟩
 |cons x xs ih=>
  intro ys vs ws us zs b r1 v1 r2 v2 e;cases r1 with
  |cons h1 t1=>
   cases v1 with
   |cons a1 w1=>
    cases v2 with
    |nil=>cases r2;cases e;exact⟨λ_=>aC,λj _ h2=>absurd h2 (fj _),by rw[List.length_nil,Nat.min_zero];rfl⟩
    |cons a2 w2=>
     cases r2 with
     |cons h2 t2=>
      obtain⟨b,e1,e2⟩:=aa.mp e;obtain⟨c,e3,e4⟩:=aa.mp e2;cases e4;obtain⟨g,g1,g2⟩:=ih t1 w1 t2 w2 e3;refine⟨λj=>Nat.casesOn j b g,λj h1 h2=>?_,?_⟩
      ·cases j with
       |zero=>exact hf _ _ _ _ _ _ _ ‹_› a1 ‹_› a2 e1
       |succ j=>exact g1 j (Nat.lt_of_succ_lt_succ h1) (Nat.lt_of_succ_lt_succ h2)
      ·rw[bn,bn,Nat.succ_min_succ,List.range_succ_eq_map,List.all_cons,List.all_map,<-g2];rfl
theorem rcN(I:Inv X pins σ H s)(le:Ze F H){A:cj}{f:D->D->Option Bool}{d1 d2:D}{b:Bool}{x y:V}{v u:aj}
  (ih:∀d1 d2 b x y v u,Rep X.K F d1 x->Zm x v->Rep X.K F d2 y->Zm y u->f d1 d2=aA b->SeqAt.EqAt A.in1 s v u b) (r1:Z7 X.K F H d1 x) (v1:Zm x v) (r2:Z7 X.K F H d2 y) (v2:Zm y u)
  (e:Uy f d1 d2=aA b) (hu:A.units<dw) (hr:Yd x=aD\/Yd y=aD):(∃a c,v= .ref a/\u= .ref c)/\SeqAt.RcAt A s v u b/\SeqAt.RcNeAt A s v u (!b):=by
 unfold Uy at e;split at e
 ·obtain⟨a1,vs1,rfl,q1,p1⟩:=r1.lst le;obtain⟨a2,vs2,rfl,q2,p2⟩:=r2.lst le;cases v1;cases v2;obtain⟨i1,w1,l1,_⟩:=I.list q1;obtain⟨i2,w2,l2,_⟩:=I.list q2;have h1:=w1.length;have h2:=w2.length;have h3:=p1.length;have h4:=p2.length;refine⟨⟨_,_,rfl,rfl⟩,?_⟩;split at e
  ·rename_i hl;obtain⟨g,g1,g2⟩:=N8 ih p1 w1 p2 w2 e;have hm:min i1.length i2.length=i1.toArray.size:=by simp;omega
   rw[hm]at g2;subst g2;have hz:i1.toArray.size=i2.toArray.size:=by simp;omega
   exact⟨SeqAt.RcAt.lists l1.isList l2.isList hz hu (λj j1 j2=>by simpa using g1 j (by simpa using j1) (by simpa using j2)),SeqAt.RcNeAt.lists l1.isList l2.isList hz hu (λj j1 j2=>by simpa using g1 j (by simpa using j1) (by simpa using j2))⟩
  ·rename_i hl;cases e;have hz:(i1.toArray.size !=i2.toArray.size)=aC:=by simp;omega
   exact⟨SeqAt.RcAt.lists_lengths l1.isList l2.isList hz hu,SeqAt.RcNeAt.lists_lengths l1.isList l2.isList hz hu⟩
 ·rename_i xs ys;obtain⟨a1,vs1,rfl,q1,p1⟩:=r1.tup le;obtain⟨a2,vs2,rfl,q2,p2⟩:=r2.tup le;cases v1;cases v2;obtain⟨i1,w1,l1,_⟩:=I.tuple q1;obtain⟨i2,w2,l2,_⟩:=I.tuple q2;have h1:=w1.length;have h2:=w2.length;have h3:=p1.length;have h4:=p2.length;obtain⟨c,e1,e2⟩:=aa.mp e;cases e2;refine⟨⟨_,_,rfl,rfl⟩,?_⟩;obtain⟨g,g1,g2⟩:=N8 ih p1 w1 p2 w2 e1;subst g2;have e3:((cr (min i1.length i2.length)).all g&&decide (xs.length=ys.length))=((cr (min i1.toArray.size i2.toArray.size)).all g&&i1.toArray.size==i2.toArray.size):=by
   have:(i1.toArray.size==i2.toArray.size)=decide (xs.length=ys.length):=by rw[bi,bi,<-h1,<-h2,<-h3,<-h4];rfl
   rw[this];simp
  rw[e3];exact⟨SeqAt.RcAt.tuples l1 l2 hu (λj j1 j2=>by simpa using g1 j (by simpa using j1) (by simpa using j2)),SeqAt.RcNeAt.tuples l1 l2 hu (λj j1 j2=>by simpa using g1 j (by simpa using j1) (by simpa using j2))⟩
 ·obtain⟨a1,vs1,rfl,q1,p1⟩:=r1.lst le;obtain⟨a2,vs2,rfl,q2,p2⟩:=r2.tup le;cases v1;cases v2;cases e;obtain⟨i1,w1,l1,_⟩:=I.list q1;obtain⟨i2,w2,l2,_⟩:=I.tuple q2;exact⟨⟨_,_,rfl,rfl⟩,SeqAt.RcAt.list_tuple l1.isList l2 hu,SeqAt.RcNeAt.list_tuple l1.isList l2 hu⟩
 ·obtain⟨a1,vs1,rfl,q1,p1⟩:=r1.tup le;obtain⟨a2,vs2,rfl,q2,p2⟩:=r2.lst le;cases v1;cases v2;cases e;obtain⟨i1,w1,l1,_⟩:=I.tuple q1;obtain⟨i2,w2,l2,_⟩:=I.list q2;exact⟨⟨_,_,rfl,rfl⟩,SeqAt.RcAt.tuple_list l1 l2.isList hu,SeqAt.RcNeAt.tuple_list l1 l2.isList hu⟩
 ·obtain⟨f1,f2,_⟩:=G0 e r1 r2;rcases hr with hr|hr
  ·rw[f1]at hr;cases hr
  ·rw[f2]at hr;cases hr
theorem T5(I:Inv X pins σ H s)(le:Ze F H):∀(n:Nat) (A:cj) (d1 d2:D) (b:Bool) (x y:V) (v u:aj),A.units+n<dw->Rep X.K F d1 x->Zm x v->Rep X.K F d2 y->Zm y u->Wq n d1 d2=aA b->SeqAt.EqAt A s v u b
 |0,_,_,_,_,_,_,_,_,_,_,_,_,_,e=>by cases e
 |n+1,A,d1,d2,b,x,y,v,u,hu,r1,v1,r2,v2,e=>by
  by_cases hf:Yd x=aC/\Yd y=aC
  ·have e':eqS d1 d2=aA b:=by
    unfold Wq Uy at e;split at e
    ·cases r1;cases hf.1
    ·cases r1;cases hf.1
    ·cases r1;cases hf.1
    ·cases r1;cases hf.1
    ·exact e
   obtain⟨f1,f2,rfl⟩:=G0 (H:=H) e' (Z7.of r1) (Z7.of r2);exact Vb v1 v2 f1 f2
  ·have hf':Yd x=aD\/Yd y=aD:=by
    cases h1:Yd x with
    |false=>exact .inl rfl
    |true=>cases h2:Yd y with
     |false=>exact .inr rfl
     |true=>exact absurd ⟨h1,h2⟩ hf
   obtain⟨⟨a,c,rfl,rfl⟩,h1,_⟩:=rcN I le (A:=A) (f:=Wq n) (λd1 d2 b x y v u q1 w1 q2 w2 e=>T5 I le n A.in1 d1 d2 b x y v u (by have:A.in1.units=A.units+1:=rfl;omega) q1 w1 q2 w2 e) (Z7.of r1) v1 (Z7.of r2) v2 e (by omega) hf';by_cases hac:a=c
   ·subst hac;rw[N7 I le (n+1) d1 d2 b x y _ r1 v1 r2 v2 e];exact SeqAt.EqAt.same _
   ·exact SeqAt.EqAt.of_refs hac h1
def Zid(K:af)(neg:Bool):R2:=λx y H Q=>∃F d1 d2 b,Ze F H/\Z7 K F H d1 x/\Z7 K F H d2 y/\Wq 48 d1 d2=aA b/\(Yd x=aD\/Yd y=aD)/\Q (.bl (if neg then !b else b)) H
theorem Zd1(hu:X.A.units+64<dw):Bh X (gh .Eq) (Zid X.K aD):=by intro pins s σ H x y v u Q I rx ry h;obtain⟨F,d1,d2,b,le,r1,r2,e,hf,q⟩:=h;obtain⟨_,h1,_⟩:=rcN I le (A:=X.A) (f:=Wq 47) (λd1 d2 b x y v u q1 w1 q2 w2 e=>T5 I le 47 X.A.in1 d1 d2 b x y v u (by have:X.A.in1.units=X.A.units+1:=rfl;omega) q1 w1 q2 w2 e) r1 rx r2 ry e (by omega) hf;exact h1 X.prog X.w X.xe _ ⟨.bl b,H,I,rfl,q⟩
theorem Zmw(hu:X.A.units+64<dw):Bh X (gh .NotEq) (Zid X.K aC):=by intro pins s σ H x y v u Q I rx ry h;obtain⟨F,d1,d2,b,le,r1,r2,e,hf,q⟩:=h;obtain⟨_,_,h1⟩:=rcN I le (A:=X.A) (f:=Wq 47) (λd1 d2 b x y v u q1 w1 q2 w2 e=>T5 I le 47 X.A.in1 d1 d2 b x y v u (by have:X.A.in1.units=X.A.units+1:=rfl;omega) q1 w1 q2 w2 e) r1 rx r2 ry e (by omega) hf;exact h1 X.prog X.w X.xe _ ⟨.bl !b,H,I,rfl,q⟩
end
@[simp] def D.isFlat:D->Bool
 | .non=>aC| .bl _=>aC| .int _=>aC| .str _=>aC|_=>aD
@[simp] def eqX(d1 d2:D):Option SV:=if d1.isFlat=true/\d2.isFlat=true then eqD d1 d2 else(Wq 48 d1 d2).bind λb=>some (.fz (.bl b))
@[simp] def neX(d1 d2:D):Option SV:=if d1.isFlat=true/\d2.isFlat=true then neD d1 d2 else(Wq 48 d1 d2).bind λb=>some (.fz (.bl !b))
theorem Qr{F H:Hp}{d:D}{x:V}(r:Z7 K F H d x)(h:d.isFlat=aD):Yd x=aD:=by
 obtain⟨sv,ns,e,n,sh,hp⟩:=r;cases sh with
 |fz r=>cases e;cases r<;> first|rfl|cases h
 |ol r=>rfl
 |oK e' r=>rfl
 |oT kb e' r=>rfl
 |oN e' r=>rfl
 |oX kb' e' r=>rfl
 |oD r=>rfl
 |oM kb' e' r=>rfl
 |oL _ r=>rfl
 |oQ e' r=>rfl
section
variable{Z:Ent K}
theorem Zkt:Yw Z (λx y H Q=>rEq x y H Q\/Zid K aD x y H Q) eqX:=by
 intro F H σ δ own x y d1 d2 sv Q s r1 r2 e k;unfold eqX at e;split at e
 ·exact .inl (Zqd F H σ δ own x y d1 d2 sv Q s r1 r2 e k)
 ·rename_i hf;obtain⟨b,e1,e2⟩:=aa.mp e;cases e2;refine .inr ⟨F,d1,d2,b,s.le,r1,r2,e1,?_,k.fz s (.bl _)⟩;cases h1:d1.isFlat with
  |false=>exact .inl (Qr r1 h1)
  |true=>cases h2:d2.isFlat with
   |false=>exact .inr (Qr r2 h2)
   |true=>exact absurd ⟨h1,h2⟩ hf
theorem Zqr:Yw Z (λx y H Q=>rNe x y H Q\/Zid K aC x y H Q) neX:=by
 intro F H σ δ own x y d1 d2 sv Q s r1 r2 e k;unfold neX at e;split at e
 ·exact .inl (Zqe F H σ δ own x y d1 d2 sv Q s r1 r2 e k)
 ·rename_i hf;obtain⟨b,e1,e2⟩:=aa.mp e;cases e2;refine .inr ⟨F,d1,d2,b,s.le,r1,r2,e1,?_,k.fz s (.bl _)⟩;cases h1:d1.isFlat with
  |false=>exact .inl (Qr r1 h1)
  |true=>cases h2:d2.isFlat with
   |false=>exact .inr (Qr r2 h2)
   |true=>exact absurd ⟨h1,h2⟩ hf
@[simp] def Zz8:D->Option SV
 | .int i=>aA (.fz (.int (-i)))
 |_=>aB
end
section
variable{X:Cx}{Z:Ent X.K}{a b c:ci}{fa fb fc:FE}{pos:Pos}
theorem Zqs(hv:X.A.units+64<dw)(ha:PE X a (Zc Z fa))(hb:PE X b (Zc Z fb)):PE X (.Compare a [.Eq] [b] pos) (Zc Z (Zt eqX fa fb)):=Zdu (Zcn.or (Zd1 hv)) Zkt ha hb (C4 _)
theorem Zqt(hv:X.A.units+64<dw)(ha:PE X a (Zc Z fa))(hb:PE X b (Zc Z fb)):PT X (.Compare a [.Eq] [b] pos) (Yh Z (Y5 (Zt eqX fa fb))):=T0 (Zcn.or (Zd1 hv)) Zkt ha hb (C4 _)
theorem Zku(hv:X.A.units+64<dw)(ha:PE X a (Zc Z fa))(hb:PE X b (Zc Z fb)):PT X (.Compare a [.NotEq] [b] pos) (Yh Z (Y5 (Zt neX fa fb))):=T0 (Zj5.or (Zmw hv)) Zqr ha hb (C4 _)
end
end DL
namespace L2
open PySem PySem.Spec PyProof.Rows
section
variable{X:Cx}{tg:ci}
def Its(z:Str):It:=⟨λi _=>i<z.length,λi H x H'=>H'=H/\∃c,z.cps[i]? =aA c/\x= .str ⟨#[c]⟩,λi _=>z.length<=i⟩
theorem Zba{P:bu}{w:ck}{K:af}{tg:ci}(z:Str)(t:Tok)(it:ak):Turn P w K tg (Its z) [it] it (λi h=>h.IsStrIter it (gq z) z t i)where
 mem:=by simp
 obj:=λi h st b hb=>by
  have e:b=it:=by simpa using hb
  subst e;obtain⟨o,e,c,d⟩:=st;exact⟨o,e,λv q=>by rw[d]at q;cases q⟩
 keep:=λi h h' st k=>by obtain⟨o,e,c,d⟩:=st;exact⟨o,k it (by simp) o e,c,d⟩
 item:=by
  intro X hP hw hK hc i pins s σ H E I hf st hg;subst hP hw hK;obtain⟨f0,f1,f2,f3,f4,f5⟩:=hf it (by simp);have hlt:i<z.cps.size:=hg;have hx:z.cps[i]? =aA z.cps[i]:=by simp[hlt]
  have fin:∀h',h'.IsStrIter it (gq z) z t (i+1)->g7 it s.heap h'->∃u,aA (Value.str ⟨#[z.cps[i]]⟩ s.toks)=aA u/\ba (bp X.prog X.w) X.A (letOwnedTupleGo tg (.ref it) u) (λ_ s2=>∃x H',Inv X pins σ H' s2/\Zm x u/\(Its z).yld i H x H'/\s2.heap.IsStrIter it (gq z) z t (i+1)/\∀b∈[it],H' b=aB) E {s with heap:=h',toks:=s.toks+1}:=λh' st' sb=>by
   have I1:Inv X pins σ H {s with heap:=h',toks:=s.toks+1}:=I.turned (t':=s.toks+1) (λb o hb q=>(sb.2 b hb).trans q) f0 f1 f3 f4 f5;obtain⟨o,e,c,d⟩:=id st';have hn:["enumerate","zip","dict_itemiterator","dict_reverseitemiterator","odict_iterator","itertools.zip_longest","itertools.pairwise"].contains (gq z)=aD:=by unfold gq;split<;> decide
   exact⟨_,rfl,Tl (s:={s with heap:=h',toks:=s.toks+1}) e c d hn ⟨.str ⟨#[z.cps[i]]⟩,H,I1,⟨_,rfl⟩,⟨rfl,_,hx,rfl⟩,st',λb hb=>(hf b hb).1⟩⟩
  cases ha:z.cps.all (· <128)with
  |false=>
   have et:gq z="str_iterator":=by unfold gq;rw[ha];rfl
   rw[et]at st fin;rw[et];exact wpAny_pyNext_wide_item st hx fin
  |true=>
   have et:gq z="str_ascii_iterator":=by unfold gq;rw[ha];rfl
   rw[et]at st fin;rw[et];exact wpAny_pyNext_ascii_item st hx fin
 done:=by
  intro X hP hw hK hc i pins s σ H E I hf st hg;subst hP hw hK;obtain⟨f0,f1,f2,f3,f4,f5⟩:=hf it (by simp);have hge:z.cps.size<=i:=hg;have hx:z.cps[i]? =aB:=by simp[hge]
  cases ha:z.cps.all (· <128)with
  |false=>
   have et:gq z="str_iterator":=by unfold gq;rw[ha];rfl
   rw[et]at st;exact wpAny_pyNext_wide_end (I.ok.hd hc) st hx λh' eb=>⟨rfl,I.turned (t':=s.toks) (λb o hb q=>eb b o hb q) f0 f1 f3 f4 f5⟩
  |true=>
   have et:gq z="str_ascii_iterator":=by unfold gq;rw[ha];rfl
   rw[et]at st;exact wpAny_pyNext_ascii_end (I.ok.hd hc) st hx λh' eb=>⟨rfl,I.turned (t':=s.toks) (λb o hb q=>eb b o hb q) f0 f1 f3 f4 f5⟩
 self:=λ_ _ _ _ _ st h=>by
  cases ha:z.cps.all (· <128)with
  |false=>
   have et:gq z="str_iterator":=by unfold gq;rw[ha];rfl
   rw[et]at st;exact wpAny_pyIter_striter_wide st h
  |true=>
   have et:gq z="str_ascii_iterator":=by unfold gq;rw[ha];rfl
   rw[et]at st;exact wpAny_pyIter_striter_ascii st h
def Zqu(K:af)(tl:TE):TI:=λσ H R=>tl σ H λx H1=>(∃a,x= .ref a/\(∃xs,Wp K H1 a xs)/\R (Itl K a) H1)\/(∃a,x= .ref a/\(∃xs,Uk K H1 a xs)/\R (Itt K a) H1)\/(∃z,x= .str z/\R (Its z) H1)
theorem Zmx{l:ci}{tl:TE}(hl:PE X l tl):PI X tg l (Zqu X.K tl):=by
 intro pins s σ H R I h;refine Wo (hl pins s σ H _ I h) λv s1 zq9=>?_;obtain⟨x,H1,I1,r1,q1⟩:=zq9;rcases q1 with⟨a,e,⟨xs,hq⟩,q⟩|⟨a,e,⟨xs,hq⟩,q⟩|⟨z,e,q⟩
 ·subst e;cases r1;obtain⟨its,rv,p,hz⟩:=I1.list hq;refine wpAny_pyIter_list p.isList ?_;refine⟨s1.heap.objs.size,[s1.heap.objs.size],_,_,H1,rfl,I1.kept (t':=s1.toks) λb o e=>aq _ e,E9 a _,⟨_,a9 _ rfl,rfl,rfl⟩,λb hb=>?_,q⟩;have e:b=s1.heap.objs.size:=by simpa using hb
  subst e;exact I1.fpOk (a8 _) (I1.hok.fresh (a8 _))
 ·subst e;cases r1;obtain⟨its,rv,p,hz⟩:=I1.tuple hq;refine wpAny_pyIter_tuple (show s1.heap.IsTuple a its.toArray from p) ?_;refine⟨s1.heap.objs.size,[s1.heap.objs.size],_,_,H1,rfl,I1.kept (t':=s1.toks) λb o e=>aq _ e,Tm a _,⟨_,a9 _ rfl,rfl,rfl⟩,λb hb=>?_,q⟩;have e:b=s1.heap.objs.size:=by simpa using hb
  subst e;exact I1.fpOk (a8 _) (I1.hok.fresh (a8 _))
 ·subst e;obtain⟨t,rfl⟩:=r1;refine wpAny_pyIter_strU ?_;refine⟨s1.heap.objs.size,[s1.heap.objs.size],_,_,H1,rfl,I1.kept (t':=s1.toks) λb o e=>aq _ e,Zba z t _,⟨_,a9 _ rfl,rfl,rfl⟩,λb hb=>?_,q⟩;have e:b=s1.heap.objs.size:=by simpa using hb
  subst e;exact I1.fpOk (a8 _) (I1.hok.fresh (a8 _))
def Zvd:V->List V->Hp->VK->Prop:=λx xs H Q=>∃a b,x= .str a/\xs=[.str b]/\(b.length==0)=aD/\a.length<=sizeLine/\(Txt.split a b).length<=sizeLine/\∀p,H p=aB->Q (.ref p) (Z5 H p (.lst ((Txt.split a b).map V.str)))
def Zxr:V->List V->Hp->VK->Prop:=λx xs H Q=>∃a b,x= .str a/\xs=[.str b]/\(b.length==0)=aD/\a.length<=sizeLine/\∀p,H p=aB->Q (.ref p) (Z5 H p (.tup [.str (Txt.partition a b).1,.str (Txt.partition a b).2.1,.str (Txt.partition a b).2.2]))
def Zqv(K:af):List V->Hp->VK->Prop:=λxs H Q=>∃(p:ak) (bs:List Bool),xs=[.ref p]/\Wp K H p (bs.map V.bl)/\Q (.bl (bs.all id)) H
theorem N9:∀{bs:List Bool} {us:List aj},Zw (bs.map V.bl) us->us=bs.map Value.bool
 | [],_,r=>by rw[List.map_nil]at r;cases r;rfl
 |b::bs,_,r=>by
  rw[av]at r;cases r with
  |cons h t=>cases(show _=Value.bool b from h);rw[N9 t];rfl
theorem Iw:∀bs:List Bool,(cr bs.length).all (λi=>(bs[i]?).getD aC)=bs.all id
 | []=>rfl
 |b::bs=>by rw[bn,List.range_succ_eq_map,List.all_cons,List.all_map,List.all_cons,<-Iw bs];rfl
theorem Zd2(hc:X.calm=aC):Qd X (.builtin "all") (Zqv X.K):=by
 intro pins s σ H xs us Q I rs h;obtain⟨p,bs,rfl,hq,q⟩:=h;obtain⟨u,rfl,ru⟩:=Jt rs;cases ru;obtain⟨its,rv,pl,hz⟩:=I.list hq;have e:=N9 rv;subst e;refine call_all_walk (wpAny_pyIter_list pl.isList ?_);have hne:p≠s.heap.objs.size:=λz=>by obtain⟨o,ho,_⟩:=pl.isList;have:=bc ho;rw[z]at this;exact gv _ this
 refine⟨s.heap.objs.size,_,_,_,_,_,λi=>(bs[i]?).getD aC,rfl,Walks.list (by first|exact I.ok.hd hc| (rw[show X.A.in1.handled=X.A.handled from rfl];exact I.ok.hd hc)) _ p hne (bs.map Value.bool).toArray,⟨⟨_,a9 _ rfl,rfl,rfl⟩,pl.isList.at λo e=>aq _ e⟩,?_,λh' tk hk=>?_⟩
 ·intro i v s' Q' E' hP hQ;have hP':(bs.map Value.bool)[i]? =aA v:=by simpa using hP
  rw[bf]at hP';cases hb:bs[i]? with
  |none=>rw[hb]at hP';cases hP'
  |some b=>rw[hb]at hP';cases hP';dsimp only at hQ;rw[hb]at hQ;exact wpAny_truthy_bool hQ
 ·have e:(cr (bs.map Value.bool).toArray.size).all (λi=>(bs[i]?).getD aC)=bs.all id:=by rw[bi,ao];exact Iw bs
  rw[e];refine⟨.bl _,H,I.kept (t':=tk) λb o hb=>hk b o (λz=>?_) (aq _ hb),rfl,q⟩;have z':b=s.heap.objs.size:=by simpa using z
  have:=bc hb;rw[z']at this;exact gv _ this
end
end L2
namespace DL
open PySem PySem.Spec PyProof.Rows L2
variable{K:af}
def Pa(z:Str):List D:=z.cps.toList.map λc=>.str ⟨#[c]⟩
theorem Pb{z:Str}{F:Hp}:Ux K (Its z) F (Pa z):=λF' H sF sH i=>by
 have hl:(Pa z).length=z.length:=by unfold Pa;rw[ao];rfl
 refine⟨λd hd=>?_,λh=>by rw[hl]at h;exact h⟩;have hi:i<z.length:=by have:=(ax.mp hd).1;rw[hl]at this;exact this
 refine⟨hi,λx H' zq9=>?_⟩;obtain⟨e1,c,e2,e3⟩:=zq9;subst e1 e3;unfold Pa at hd;rw[bf]at hd;have e4:z.cps.toList[i]? =aA c:=by simpa using e2
 rw[e4]at hd;cases hd;exact⟨Ze.refl _,[],c7,λ_ h=>(nomatch h),.str _⟩
section
variable{Z:Ent K}{H:Hp}{σ:L2.St}{Q:VK}{E:Yq}
@[simp] def Co(fe:FE):FD:=λδ=>(fe δ).bind λp=>(frz p.1 p.2).bind λq=>match q.1 with
 | .lst xs=>aA (xs,q.2)
 | .tup xs=>aA (xs,q.2)
 | .str z=>aA (Pa z,q.2)
 |_=>aB
theorem Zmy{fe:FE}{R:It->Hp->Prop}(h:W5 Z (Co fe) σ H R):Zqu K (Zc Z fe) σ H R:=by
 obtain⟨F,δ,own,ds,δ',s,e,k⟩:=h;obtain⟨⟨rv,δ1⟩,e1,e2⟩:=aa.mp e;obtain⟨⟨d,δ2⟩,e3,e4⟩:=aa.mp e2;refine⟨F,δ,own,rv,δ1,s,e1,λv H1 F1 own1 sH sF s1 r1=>?_⟩;obtain⟨F2,sF2,s2,r2⟩:=s1.settleR r1;obtain⟨F3,own3,sF3,s3,r3⟩:=s2.frzR r2 e3;dsimp only at e4;split at e4
 ·cases e4;cases r3 with
  |lst h _ r=>exact .inl ⟨_,rfl,⟨_,Y2 s3.le h⟩,k _ H1 F3 own3 sH (sF.trans (sF2.trans sF3)) s3 (Nz h r)⟩
 ·cases e4;cases r3 with
  |tup h r=>exact .inr (.inl ⟨_,rfl,⟨_,W0 s3.le (Bb h)⟩,k _ H1 F3 own3 sH (sF.trans (sF2.trans sF3)) s3 (Vf (Bb h) r)⟩)
 ·cases e4;cases r3 with
  |str x=>exact .inr (.inr ⟨_,rfl,k _ H1 F3 own3 sH (sF.trans (sF2.trans sF3)) s3 Pb⟩)
 ·cases e4
@[simp] def inS(i j:Str):Bool:=!(c8 j i 0 j.length 1).isEmpty
@[simp] def inD:D->D->Option SV
 | .str i,.str j=>aA (.fz (.bl (inS i j)))
 |_,_=>aB
@[simp] def K9:D->D->Option SV
 | .str i,.str j=>aA (.fz (.bl (!inS i j)))
 |_,_=>aB
theorem Zve:Yw Z (λx y H Q=>∃i j,x= .str i/\y= .str j/\Q (.bl (!(c8 j i 0 j.length 1).isEmpty)) H) inD:=by
 intro F H σ δ own x y d1 d2 sv Q s r1 r2 e k;unfold inD at e;split at e
 ·cases e;exact⟨_,_,r1.str,r2.str,k.fz s (.bl _)⟩
 ·cases e
theorem Zie:Yw Z (λx y H Q=>∃i j,x= .str i/\y= .str j/\Q (.bl (!(!(c8 j i 0 j.length 1).isEmpty))) H) K9:=by
 intro F H σ δ own x y d1 d2 sv Q s r1 r2 e k;unfold K9 at e;split at e
 ·cases e;exact⟨_,_,r1.str,r2.str,k.fz s (.bl _)⟩
 ·cases e
@[simp] def Zvf:List D->Option SV
 | [.str a,.str b]=>if(b.length==0)=aD/\a.length<=a7/\(Txt.split a b).length<=a7 then aA (.ol ((Txt.split a b).map D.str))else aB
 |_=>aB
@[simp] def Zmz:List D->Option SV
 | [.str a,.str b]=>if(b.length==0)=aD/\a.length<=a7 then aA (.fz (.tup [.str (Txt.partition a b).1,.str (Txt.partition a b).2.1,.str (Txt.partition a b).2.2]))else aB
 |_=>aB
@[simp] def bools?:List D->Option (List Bool)
 | []=>aA []
 | .bl x::r=>(bools? r).bind λt=>aA (x::t)
 |_=>aB
theorem Pc{F:Hp}:∀{ds:List D} {xs:List Bool} {vs:List V},bools? ds=aA xs->Reps K F ds vs->vs=xs.map V.bl
 | [],_,_,e,r=>by cases e;cases r;rfl
 |d::ds,_,_,e,r=>by
  cases r with
  |cons h t=>
   unfold bools? at e;split at e
   ·rename_i e0;cases e0
   ·rename_i x r0 e0;cases e0;obtain⟨ys,e1,e2⟩:=aa.mp e;cases e2;cases h;rw[Pc e1 t];rfl
   ·cases e
@[simp] def Zif:List D->Option SV
 | [.lst xs]=>(bools? xs).bind λbs=>aA (.fz (.bl (bs.all id)))
 |_=>aB
theorem Zqw:Jy Z (Zqv K) Zif:=by
 intro F H σ δ own vs ds sv Q s r e k;unfold Zif at e;split at e
 ·obtain⟨bs,e1,e2⟩:=aa.mp e;cases e2;cases r with
  |cons h1 t=>cases t;obtain⟨a,vs,rfl,ha,ra⟩:=h1.lst s.le;rw[Pc e1 ra]at ha;exact⟨a,bs,rfl,ha,k.fz s (.bl _)⟩
 ·cases e
@[simp] def Zvg(i:Nat):FS:=λδ=>match δ[i]? with
 |some (aA (.ol _))=>aA (.nx (δ.set i (aA (.ol []))))
 |_=>aB
end
section
variable{X:Cx}{Z:Ent X.K}{a b c:ci}{fa fb fc:FE}{pos:Pos}{tg:ci}
theorem Uq(ha:PE X a (Zc Z fa)):PI X tg a (W5 Z (Co fa)):=λpins s σ H R I h=>Zmx ha pins s σ H R I (Zmy h)
theorem Zqx{p:Pos}(hm:X.mg "all"=aB)(ha:PE X a (Zc Z fa))(hc:X.calm=aC:=by rfl)(hg:Gl X "all":=by rfl)(he:ay [a] X.env=(aD,f8 a X.env)::ay [] X.env:=by rfl)(hpl:(f6 pos (ay [] X.env)).any (·.1)=aD:=by rfl):PE X (.Call (.Name "all" p) [a] [] pos) (Zc Z (Yl Zif (Zd fa Zp))):=
 M6 (Zd2 hc) Zqw hm boot_all (Zq ha Ym he) hg (by decide) (by decide) he hpl
end
end DL
namespace L2
open PySem PySem.Spec PyProof.Rows
open AutoSeq1 (wpAny_loadPart')
section
variable{prog:bu}{w:ck}{A:cj}{E:aj->am->Prop}{s:am}
theorem M3{it t:ak}{i:Nat}{items:Array aj}{x:aj}{Q:aj->am->Prop}(hit:s.heap.IsTupleIter it t i)(ht:s.heap.IsTuple t items)(hx:items[i]? =aA x)
  (hQ:∀h',h'.IsTupleIter it t (i+1)->g7 it s.heap h'->Q x {s with heap:=h'}):ba (bp prog w) A (Builtin.SmallTypes.nextOf (.ref it)) Q E s:=by
 obtain⟨o,ho,hc,hd⟩:=id hit;obtain⟨ol,hol,_,nl,hdl⟩:=ht;unfold Builtin.SmallTypes.nextOf;refine ad (fw (name:=b9 "__next__") hit.typeIs F.slot_tuple_iterator_next (c5 F.slot_tuple_iterator_next hit.typeIs F.entry_tuple_iterator_next ?_ (F.args_tuple_iterator_next_1 _)));show ba _ _ (field (.ref it) 0 >>=_) _ _ s;refine ad (wpAny_field ho hd (x:=.ref t) rfl ?_);show ba _ _ (if(bv t==cf)=aC then _ else _) _ _ s;rw[if_neg (show¬((bv t==cf)=aC)from bh)];show ba _ _ (field (.ref it) 1 >>=_) _ _ s;refine ad (wpAny_field ho hd (x:=.int i 0) rfl ?_);show ba _ _ (seqItems? (.ref t) >>=_) _ _ s;refine ad (wpAny_seqItems hol hdl ?_);simp only[Int.toNat_natCast,hx];refine ad (wpAny_setField ho hd (by simp) (ag ⟨x,rfl,ag (hQ _ ⟨_,Heap.get?_update_self _ ho (Obj.isFreed_of_fields (Obj.data_mapFields hd _)),(Obj.cls_mapFields ..).trans hc,by rw[Obj.data_mapFields hd];simp[rawInt]⟩ (Heap.SameBut.update ..))⟩))
theorem Bz{it t:ak}{i:Nat}{items:Array aj}{Q:aj->am->Prop}(hh:A.handled=aB)(hit:s.heap.IsTupleIter it t i)(ht:s.heap.IsTuple t items)(hx:items[i]? =aB)
  (hE:∀h' e,Heap.ExtBut it s.heap h'->(∃o,h'.get? e=aA o/\o.cls= .type "StopIteration")->E (.ref e) {s with heap:=h'}):ba (bp prog w) A (Builtin.SmallTypes.nextOf (.ref it)) Q E s:=by
 obtain⟨o,ho,hc,hd⟩:=id hit;obtain⟨ol,hol,_,nl,hdl⟩:=ht;unfold Builtin.SmallTypes.nextOf;refine ad (fw (name:=b9 "__next__") hit.typeIs F.slot_tuple_iterator_next (c5 F.slot_tuple_iterator_next hit.typeIs F.entry_tuple_iterator_next ?_ (F.args_tuple_iterator_next_1 _)));show ba _ _ (field (.ref it) 0 >>=_) _ _ s;refine ad (wpAny_field ho hd (x:=.ref t) rfl ?_);show ba _ _ (if(bv t==cf)=aC then _ else _) _ _ s;rw[if_neg (show¬((bv t==cf)=aC)from bh)];show ba _ _ (field (.ref it) 1 >>=_) _ _ s;refine ad (wpAny_field ho hd (x:=.int i 0) rfl ?_);show ba _ _ (seqItems? (.ref t) >>=_) _ _ s;refine ad (wpAny_seqItems hol hdl ?_);simp only[Int.toNat_natCast,hx];refine ad (wpAny_rule (ad (wpAny_setField ho hd (by simp) ?_)));show ba _ _ (newExc (.type "StopIteration") [] >>=_) _ _ _;refine ad ?_;simp only[newExc,newTuple];refine ad (dv ?_ (by size_fits));refine ad (m:=firstArgMember _ _) (wpAny_of_eq (a:=cf) (by first|rfl| (simp only[firstArgMember];rfl)) ?_);refine dv ?_ (by size_fits);simp only[raiseNew];refine ad (wpAny_handled ?_);first|rw[show A.in1.handled=aB from hh]|rw[hh]
 refine ad (ag (wpAny_throw ?_));exact hE _ _ (((Heap.SameBut.update ..).extBut.push _).push _) ⟨_,a9 _ rfl,rfl⟩
theorem Pd{h h':dq}{t it:ak}{items:Array aj}(x:h.IsTuple t items)(hs:Heap.ExtBut it h h')(hne:t≠it):h'.IsTuple t items:=let⟨o,ho,r⟩:=x;⟨o,hs t o hne ho,r⟩
theorem Zbb{prog:bu}{w:ck}{A:cj}(hh:A.handled=aB)(it l:ak)(hne:l≠it)(items:Array aj):
  Draws prog w A it [it,l] items.size (λi v=>items[i]? =aA v) (λi h=>h.IsTupleIter it l i/\h.IsTuple l items)where
 live:=λ_ _ st=>let⟨o,ho,_⟩:=st.1;⟨o,ho⟩
 frame:=λ_ _ _ st hk=>⟨st.1.at λo e=>hk it (by simp) o e,let⟨o,ho,r⟩:=st.2;⟨o,hk l (by simp) o ho,r⟩⟩
 item:=λi s Q E hi st hQ=>by refine M3 st.1 st.2 (x:=items[i]) (by simp[hi]) λh' hit' hs'=>?_;exact hQ _ h' s.toks (by simp[hi]) ⟨hit',Pd st.2 hs'.extBut hne⟩ hs'
 done:=λs Q E st hE=>Bz hh st.1 st.2 (by simp) hE
theorem La(l:ak)(items:Array aj)(n:Nat)(dct:Option ak)(sl:Array (Option aj)):
  Meets (Builtin.«enumerate.__new__» ⟨[.type "enumerate",.ref l],[]⟩) (λ_ R s=>s.heap.get? l=aA {cls:=.type "tuple",dict:=dct,data:=.seq items n,slots:=sl}/\
   R (.ok (.ret (.ref (s.heap.push {cls:=.type "tuple_iterator",data:=.fields #[.ref l,.int 0 0]}).objs.size))) {s with heap:=(s.heap.push {cls:=.type "tuple_iterator",data:=.fields #[.ref l,.int 0 0]}).push {cls:=.type "enumerate",data:=.fields #[.none,.bool aD,.ref s.heap.objs.size,rawInt 0,.none,.none]}}):=
 .of_wp λprog w A R s h=>by
  obtain⟨hp,g,d,tk,os⟩:=s;obtain⟨hl,h⟩:=h;have hsub:=sub_enumerate;have hL:Heap.IsTuple (Shared.heap ⟨hp,g,d,tk,os⟩) l items:=⟨_,hl,rfl,n,rfl⟩
  wp_walk using dg hl;refine wpAny_stack_any λst=>ag ?_;split
  ·rename_i c _ _ _ _ _;cases(c==Value.type "enumerate")
   ·wp_walk using dg hl,wpAny_pyIter_tuple hL;exact⟨_,rfl,h⟩
   ·wp_walk using dg hl,wpAny_pyIter_tuple hL;exact⟨_,rfl,h⟩
  ·wp_walk using dg hl,wpAny_pyIter_tuple hL;exact⟨_,rfl,h⟩
theorem Ex{l:ak}{items:Array aj}{Q:aj->am->Prop}(hL:s.heap.IsTuple l items)
  (h:∀h',IsEnum h' (s.heap.objs.size+1) s.heap.objs.size 0 .none->h'.IsTupleIter s.heap.objs.size l 0->h'.objs.size=s.heap.objs.size+2->(∀b o,s.heap.get? b=aA o->h'.get? b=aA o)->Q (.ref (s.heap.objs.size+1)) {s with heap:=h'}):
  ba (bp prog w) A (call (.type "enumerate") [.ref l]) Q E s:=by
 obtain⟨⟨c,dct,dt,sl⟩,hl,hc,n,hd⟩:=hL;replace hc:c= .type "tuple":=hc;replace hd:dt= .seq items n:=hd;subst hc hd;refine callType_new F.called_enumerate (by decide) (F.typeCall_enumerate_1 _) (F.newCall_enumerate_1 _) (λobj=>F.args_object_init_2 obj _) F.entry_enumerate_new (La l items n dct sl) ⟨hl,?_⟩;have hz:(s.heap.push {cls:=.type "tuple_iterator",data:=.fields #[.ref l,.int 0 0]}).objs.size=s.heap.objs.size+1:=Heap.size_push ..;show _/\_;rw[hz];have he:IsEnum ((s.heap.push {cls:=.type "tuple_iterator",data:=.fields #[.ref l,.int 0 0]}).push {cls:=.type "enumerate",data:=.fields #[.none,.bool aD,.ref s.heap.objs.size,rawInt 0,.none,.none]}) (s.heap.objs.size+1) s.heap.objs.size 0 .none:=by have:=a9 (s.heap.push {cls:=.type "tuple_iterator",data:=.fields #[.ref l,.int 0 0]}) (o:={cls:=.type "enumerate",data:=.fields #[.none,.bool aD,.ref s.heap.objs.size,rawInt 0,.none,.none]}) rfl;rw[hz]at this;exact this
 exact⟨⟨_,he,rfl⟩,h _ he ⟨_,aq _ (a9 _ rfl),rfl,rfl⟩ (by rw[Heap.size_push,hz]) λb o x=>aq _ (aq _ x)⟩
theorem Lb{e it l:ak}{i:Nat}{items:Array aj}{old:aj}{Q:Option aj->am->Prop}(hh:A.handled=aB)(he:IsEnum s.heap e it i old)(hit:s.heap.IsTupleIter it l i)(hl:s.heap.IsTuple l items)(hx:items[i]? =aB)
  (hQ:∀h',Heap.ExtBut it s.heap h'->Q aB {s with heap:=h'}):ba (bp prog w) A (pyNext (.ref e)) Q E s:=by
 have hT:s.TypeIs (.ref e) "enumerate":=⟨_,he,rfl⟩;unfold pyNext;refine ad (wpAny_attempt (fw (name:=b9 "__next__") hT F.slot_enumerate_next (c5 F.slot_enumerate_next hT F.entry_enumerate_next ?_ (F.args_enumerate_next_1 _))));show ba _ _ (field (.ref e) 2 >>=_) _ _ _;refine ad (wpAny_field he rfl (x:=.ref it) rfl ?_);refine ad (Bz (by first|exact hh| (rw[show A.in1.handled=A.handled from rfl];exact hh)) hit hl hx λh' x he' hx'=>?_);obtain⟨o,ho,hc⟩:=hx';refine ad (gg (T:="StopIteration") (b:=aC) ⟨o,ho,hc⟩ isSubtype_stop ?_);exact ag (hQ _ he')
end
section
variable{X:Cx}{tg:ci}
def Zm0(K:af)(a:ak):It:=
 ⟨λi H=>∃xs x,Uk K H a xs/\xs[i]? =aA x,λi H x H'=>∃p v,x= .ref p/\H p=aB/\H'=Z5 H p (.tup [.int (i:Nat),v])/\∀xs,Uk K H a xs->xs[i]? =aA v,λi H=>∃xs,Uk K H a xs/\xs.length<=i⟩
theorem Vm{P:bu}{w:ck}{K:af}{elts:List ci}{kk:Nat}{tpos:Pos}(a e it:ak)(hei:e≠it):Turn P w K (.Tuple elts kk tpos) (Zm0 K a) [e,it] e (λi h=>(∃old,IsEnum h e it ((i:Nat):Int) old)/\h.IsTupleIter it a i)where
 mem:=by simp
 obj:=λi h st b hb=>by
  have hb':b=e\/b=it:=by simpa using hb
  rcases hb' with z|z
  ·subst z;obtain⟨old,q⟩:=st.1;exact⟨_,q,λv y=>by
    have y':Data.fields _=Data.cell v:=y;cases y'⟩
  ·subst z;obtain⟨o,q,c,d⟩:=st.2;exact⟨o,q,λv y=>by rw[d]at y;cases y⟩
 keep:=λi h h' st k=>⟨let⟨old,q⟩:=st.1;⟨old,k e (by simp) _ q⟩,st.2.at λo q=>k it (by simp) o q⟩
 item:=by
  intro X hP hw hK hc i pins s σ H E I hf st hg;subst hP hw hK;obtain⟨xs,x,hq,hx⟩:=hg;obtain⟨its,rv,p,hz⟩:=I.tuple hq;obtain⟨u,hu,ru⟩:=rv.get hx;obtain⟨⟨old,he⟩,hit⟩:=st;have hl:s.heap.IsTuple a its.toArray:=p;have ai:a≠it:=λz=>by obtain⟨o1,q1,c1,_⟩:=hit;obtain⟨o2,q2,c2,_⟩:=hl;rw[z,q1]at q2;cases q2;rw[c1]at c2;exact absurd c2 (by decide)
  have ae:e∉[it,a]:=λz=>by
   have z':e=it\/e=a:=by simpa using z
   rcases z' with z|z
   ·exact hei z
   ·obtain⟨o2,q2,c2,_⟩:=hl;rw[<-z,he]at q2;cases q2;exact absurd (show Value.type "enumerate"=Value.type "tuple"from c2) (by decide)
  have D:=Zbb (prog:=X.prog) (w:=X.w) (A:=X.A.in1) (by first|exact I.ok.hd hc| (rw[show X.A.in1.handled=X.A.handled from rfl];exact I.ok.hd hc)) it a ai its.toArray;have hlt:i<its.toArray.size:=by have:=(ax.mp hu).1;rw[bi];exact this
  refine wpAny_pyNext_enum_itemD D he ⟨hit,hl⟩ hlt hei ae λy h' tk hy hout st' hT hsz hk=>⟨.ref s.heap.objs.size,rfl,?_⟩
  refine wpAny_letOwnedTupleGo_enum hout λh2 he2 hs2=>?_;have hy':its.toArray[i]? =aA y:=hy;have ey:y=u:=by
   have:its[i]? =aA y:=by simpa using hy'
   rw[hu]at this;cases this;rfl
  subst ey;have kk:∀b o,b≠e->b≠it->s.heap.get? b=aA o->h2.get? b=aA o:=λb o h1 h3 q=>(hs2.2 b h1).trans (hk b o h1 h3 q);have neT:s.heap.objs.size≠e:=Nat.ne_of_gt (bc he);have I2:=I.turnedT (h':=h2) (t':=tk+1) (e:=e) (it:=it) (T:=s.heap.objs.size) (xs:=[.int (i:Nat),x]) (its:=[.int i tk,y]) kk (hf e (by simp)) (hf it (by simp)) rfl ⟨_,(hs2.2 _ neT).trans hT,rfl,_,rfl⟩ (.cons ⟨tk,rfl⟩ (.cons ru .nil)) (by show 2<=sizeLine;decide)
   ⟨_,he2⟩ (let⟨o,q,_⟩:=st'.1;⟨o,(hs2.2 it (Ne.symm hei)).trans q⟩)
  refine⟨.ref s.heap.objs.size,_,I2,rfl,⟨s.heap.objs.size,x,rfl,I.hok.fresh (a8 _),rfl,λys hy2=>by rw[I.tuple_inj hy2 hq];exact hx⟩,⟨⟨_,he2⟩,st'.1.at λo q=>(hs2.2 it (Ne.symm hei)).trans q⟩,λb hb=>?_⟩;rw[Zn λz=>?_]
  ·exact(hf b hb).1
  ·have hb':b=e\/b=it:=by simpa using hb
   rcases hb' with y|y
   ·rw[<-z,y]at neT;exact neT rfl
   ·obtain⟨o,q,_⟩:=hit;rw[y]at z;exact absurd (bc q) (by rw[z];exact gv _)
 done:=by intro X hP hw hK hc i pins s σ H E I hf st hg;subst hP hw hK;obtain⟨xs,hq,hx⟩:=hg;obtain⟨its,rv,p,hz⟩:=I.tuple hq;obtain⟨⟨old,he⟩,hit⟩:=st;obtain⟨f0,f1,f2,f3,f4,f5⟩:=hf it (by simp);have hl:=rv.length;exact Lb (I.ok.hd hc) he hit (show s.heap.IsTuple a its.toArray from p) (by simp;omega) λh' eb=>⟨rfl,I.turned (t':=s.toks) (λb o hb q=>eb b o hb q) f0 f1 f3 f4 f5⟩
 self:=λ_ _ _ _ _ st h=>let⟨⟨old,he⟩,_⟩:=st;wpAny_pyIter_enum he h
def Zd3(K:af)(ta:TA):TI:=λσ H R=>ta σ H λvs H1=>∃a xs,vs=[.ref a]/\Uk K H1 a xs/\R (Zm0 K a) H1
theorem Zd4{l:ci}{elts:List ci}{kk:Nat}{tpos p pos:Pos}{ta:TA}(hg:Gl X "enumerate")(hm:X.mg "enumerate"=aB)(ha:PA X [l] ta)(hs:ay [l] X.env=[(aD,f8 l X.env)]:=by rfl):
  PI X (.Tuple elts kk tpos) (.Call (.Name "enumerate" p) [l] [] pos) (Zd3 X.K ta):=by
 intro pins s σ H R I h;refine Call_ (Bo I hg hm boot_enumerate (PyProof.Rows.callWith_type1 (Wo (ha pos pins s σ H _ I h) λus s1 ⟨vs,H1,I1,r1,q1⟩=>?_) hs rfl));obtain⟨a,xs,e,hq,q⟩:=q1;subst e;obtain⟨u,rfl,ru⟩:=Jt r1;cases ru;obtain⟨its,rv,p,hz⟩:=I1.tuple hq;refine Ex (show s1.heap.IsTuple a its.toArray from p) λh' he hit hsz hk=>wpAny_pyIter_enum he ?_;have I2:Inv X pins σ H1 {s1 with heap:=h'}:=I1.kept (t':=s1.toks) hk;refine⟨s1.heap.objs.size+1,[s1.heap.objs.size+1,s1.heap.objs.size],_,_,H1,rfl,I2,Vm a _ _ (Nat.succ_ne_self _),⟨⟨.none,by simpa using he⟩,hit⟩,λb hb=>?_,q⟩;have hb':b=s1.heap.objs.size+1\/b=s1.heap.objs.size:=by simpa using hb
 rcases hb' with z|z
 ·subst z;exact I1.fpOk (Nat.le_succ _) (I1.hok.fresh (Nat.le_succ _))
 ·subst z;exact I1.fpOk (a8 _) (I1.hok.fresh (a8 _))
end
end L2
namespace DL
open PySem PySem.Spec PyProof.Rows L2
variable{K:af}
theorem Lc{F:Hp}{a:ak}{xs:List D}{vs:List V}(h:Uk K F a vs)(r:Reps K F xs vs):Ux K (Zm0 K a) F (Qf xs):=λF' H sF sH i=>by
 have q:Uk K H a vs:=W0 (sF.trans sH) h;refine⟨λd hd=>?_,λhl=>⟨vs,q,by rw[<-r.length,<-Ir];exact hl⟩⟩;obtain⟨x,hx,rfl⟩:=Iq hd;obtain⟨v,h1,h2⟩:=r.get hx;refine⟨⟨vs,v,q,h1⟩,λy H' zq9=>?_⟩;obtain⟨p,w,e1,e2,e3,e4⟩:=zq9;subst e1 e3;have e5:=e4 vs q;rw[h1]at e5;cases e5;have hp:F' p=aB:=sH.free e2;have sm:Ze F' (Qb F' [(p,.tup [.int (i:Nat),v])]):=Wt λz hz=>by obtain rfl:=au.mp hz;exact hp
 refine⟨Qe e2,[(p,.tup [.int (i:Nat),v])],Er,λz hz=>?_,.tup Z3 (.cons (.int _) (.cons (h2.mono (sF.trans sm)) .nil))⟩;obtain rfl:=au.mp hz;exact⟨e2,Z3⟩
section
variable{Z:Ent K}{H:Hp}{σ:L2.St}{Q:VK}
@[simp] def Zd5(fd:FD):FD:=λδ=>(fd δ).bind λp=>match p.1 with
 | [.tup xs]=>aA (Qf xs,p.2)
 |_=>aB
theorem Zd6{fd:FD}{R:It->Hp->Prop}(h:W5 Z (Zd5 fd) σ H R):Zd3 K (Wj Z fd) σ H R:=by
 obtain⟨F,δ,own,ds,δ',s,e,k⟩:=h;obtain⟨⟨ds1,δ1⟩,e1,e2⟩:=aa.mp e;refine⟨F,δ,own,ds1,δ1,s,e1,λvs H1 F1 own1 sH sF s1 r1=>?_⟩;dsimp only at e2;split at e2
 ·rename_i xs;cases e2;cases r1 with
  |cons h t=>
   cases t;cases h with
   |tup h r=>exact⟨_,_,rfl,W0 s1.le (Bb h),k _ H1 F1 own1 sH sF s1 (Lc (Bb h) r)⟩
 ·cases e2
end
section
variable{X:Cx}{Z:Ent X.K}{a:ci}{fa:FE}{pos:Pos}
@[simp] def C8(fd:FD):FD:=λδ=>(fd δ).bind λp=>match p.1 with
 | [.lst xs]=>aA (Qf xs,p.2)
 | [.tup xs]=>aA (Qf xs,p.2)
 |_=>aB
theorem Zd7{H:Hp}{σ:L2.St}{fd:FD}{R:It->Hp->Prop}(h:W5 Z (C8 fd) σ H R):W5 Z (Zkp fd) σ H R\/W5 Z (Zd5 fd) σ H R:=by
 obtain⟨F,δ,own,ds,δ',s,e,k⟩:=h;obtain⟨⟨ds1,δ1⟩,e1,e2⟩:=aa.mp e;dsimp only at e2;split at e2
 ·rename_i xs;exact .inl ⟨F,δ,own,ds,δ',s,aa.mpr ⟨_,e1,e2⟩,k⟩
 ·rename_i xs;exact .inr ⟨F,δ,own,ds,δ',s,aa.mpr ⟨_,e1,e2⟩,k⟩
 ·cases e2
theorem G3{elts:List ci}{kk:Nat}{tpos p:Pos}{fd:FD}(hm:X.mg "enumerate"=aB)(ha:PA X [a] (Wj Z fd))(hg:Gl X "enumerate":=by rfl)(hs:ay [a] X.env=[(aD,f8 a X.env)]:=by rfl):
  PI X (.Tuple elts kk tpos) (.Call (.Name "enumerate" p) [a] [] pos) (W5 Z (C8 fd)):=λpins s σ H R I h=>by
 rcases Zd7 h with h|h
 ·exact Zh7 hg hm ha hs pins s σ H R I (Zh8 h)
 ·exact Zd4 hg hm ha hs pins s σ H R I (Zd6 h)
end
end DL
namespace L2
open PySem PySem.Spec PyProof.Rows
variable{X:Cx}
def Zvh(K:af):V->List V->Hp->VK->Prop:=λx xs H Q=>∃sep p ys,x= .str sep/\xs=[.ref p]/\(Wp K H p (ys.map V.str)\/Uk K H p (ys.map V.str))/\JoinOk sep ys=aC/\Q (.str (Txt.join sep ys)) H
end L2
namespace DL
open PySem PySem.Spec PyProof.Rows L2
variable{K:af}
@[simp] def Zvi:List D->Option SV
 | [.str sep,.lst xs]=>(strs? xs).bind λys=>if JoinOk sep ys=aC then aA (.fz (.str (Txt.join sep ys)))else aB
 | [.str sep,.tup xs]=>(strs? xs).bind λys=>if JoinOk sep ys=aC then aA (.fz (.str (Txt.join sep ys)))else aB
 |_=>aB
end DL
namespace L2
open PySem PySem.Spec PyProof.Rows
variable{X:Cx}
def Zqy:R2:=λx y H Q=>∃a v,x= .ref a/\Jc H a y (aA v)/\Q v H
def Zd8:R2:=λy x H Q=>∃a o,x= .ref a/\Jc H a y o/\Q (.bl o.isSome) H
def G4:R2:=λy x H Q=>∃a o,x= .ref a/\Jc H a y o/\Q (.bl (!o.isSome)) H
theorem T6(hu:X.A.units+1<dw):Bh X (gh .In) Zd8:=by intro pins s σ H y x v u Q I ry rx h;obtain⟨a,o,rfl,g,q⟩:=h;cases rx;exact Zui hu I g ry λs' I'=>⟨.bl o.isSome,H,I',rfl,q⟩
theorem Ey(hu:X.A.units+1<dw):Bh X (gh .NotIn) G4:=by intro pins s σ H y x v u Q I ry rx h;obtain⟨a,o,rfl,g,q⟩:=h;cases rx;exact Zhp hu I g ry λs' I'=>⟨.bl (!o.isSome),H,I',rfl,q⟩
end L2
namespace DL
open PySem PySem.Spec PyProof.Rows L2
variable{K:af}
@[simp] def D.key?:D->Option Key
 | .int i=>aA (.inl i)
 | .str x=>aA (.inr x)
 |_=>aB
@[simp] def keys?:List D->Option (List Key)
 | []=>aA []
 |d::r=>d.key?.bind λk=>(keys? r).bind λt=>aA (k::t)
section
variable{κ:Type}[DecidableEq κ]
@[simp] def look(ks:List κ)(vs:List D)(k:κ):Option D:=match ks,vs with
 |a::ks,v::vs=>if a=k then aA v else look ks vs k
 |_,_=>aB
theorem G5{F:Hp}(k:κ):∀(kvs:List (κ×V)) (ds:List D),Reps K F ds (kvs.map (·.2))->match look (kvs.map (·.1)) ds k with
  |some d=>∃v,Wy kvs k=aA v/\Rep K F d v
  |none=>Wy kvs k=aB
 | [],_,r=>by cases r;exact Zcz
 |p::kvs,_,r=>by
  cases r with
  | @cons d v ds vs h t=>
   show match(if p.1=k then aA d else look (kvs.map (·.1)) ds k)with
    |some d=>∃v,Wy (p::kvs) k=aA v/\Rep K F d v
    |none=>Wy (p::kvs) k=aB
   by_cases e:p.1=k
   ·rw[if_pos e];exact⟨p.2,U6 e,h⟩
   ·rw[if_neg e,Jx e];exact G5 k kvs ds t
@[simp] def Wh(ks:List κ)(vs:List D)(k:κ)(v:D):List κ×List D:=
 if k∈ks then(ks,(ks.zip vs).map λp=>if p.1=k then v else p.2)else(ks++[k],vs++[v])
theorem Reps.length_map{F:Hp}{α:Type}{ds:List D}{kvs:List (α×V)}(r:Reps K F ds (kvs.map (·.2))):ds.length=kvs.length:=by rw[r.length,ao]
theorem Ho{F:Hp}{k:κ}{d:D}{v:V}(hd:Rep K F d v):∀(kvs:List (κ×V)) (ds:List D),Reps K F ds (kvs.map (·.2))->
  Reps K F (((kvs.map (·.1)).zip ds).map λp=>if p.1=k then d else p.2) ((kvs.map λkv=>if kv.1=k then(kv.1,v)else kv).map (·.2))
 | [],_,r=>by cases r;exact .nil
 |p::kvs,_,r=>by
  cases r with
  | @cons d' v' ds vs h t=>
   have ih:=Ho (k:=k) hd kvs ds t;show Reps K F ((if p.1=k then d else d')::(((kvs.map (·.1)).zip ds).map λp=>if p.1=k then d else p.2)) ((if p.1=k then(p.1,v)else p).2::((kvs.map λkv=>if kv.1=k then(kv.1,v)else kv).map (·.2)));refine .cons ?_ ih;by_cases e:p.1=k
   ·rw[if_pos e,if_pos e];exact hd
   ·rw[if_neg e,if_neg e];exact h
theorem Zd9{k:κ}{v:V}(kvs:List (κ×V)):(kvs.map λkv=>if kv.1=k then(kv.1,v)else kv).map (·.1)=kvs.map (·.1):=by rw[bx];refine fg λp _=>?_;show(if p.1=k then(p.1,v)else p).1=p.1;split<;> rfl
theorem G6(k:κ)(kvs:List (κ×V)):(kvs.any λkv=>decide (kv.1=k))=aC↔k∈kvs.map (·.1):=by
 rw[List.any_eq_true,a6];constructor
 ·rintro⟨p,h1,h2⟩;exact⟨p,h1,of_decide_eq_true h2⟩
 ·rintro⟨p,h1,h2⟩;exact⟨p,h1,decide_eq_true h2⟩
theorem Vn{F:Hp}{k:κ}{d:D}{v:V}(hd:Rep K F d v)(kvs:List (κ×V))(ds:List D)(r:Reps K F ds (kvs.map (·.2))):
  (Qa kvs k v).map (·.1)=(Wh (kvs.map (·.1)) ds k d).1/\Reps K F (Wh (kvs.map (·.1)) ds k d).2 ((Qa kvs k v).map (·.2)):=by
 unfold Qa Wh;by_cases h:k∈kvs.map (·.1)
 ·rw[if_pos h,if_pos ((G6 k kvs).mpr h)];exact⟨Zd9 kvs,Ho hd kvs ds r⟩
 ·rw[if_neg h,if_neg λz=>h ((G6 k kvs).mp z),cq,cq];exact⟨rfl,r.snoc hd⟩
end
theorem T7{F H:Hp}{d:D}{k:Key}{y:V}(e:d.key? =aA k)(r:Z7 K F H d y):y=kV k:=by
 cases d with
 |int i=>cases e;exact r.int
 |str x=>cases e;exact r.str
 |_=>cases e
theorem Hq{F:Hp}{d:D}{k:Key}{y:V}(e:d.key? =aA k)(r:Rep K F d y):y=kV k:=T7 (H:=F) e (Z7.of r)
theorem Ld{F:Hp}:∀{ds:List D} {ks:List Key} {vs:List V},keys? ds=aA ks->Reps K F ds vs->vs=ks.map kV
 | [],_,_,e,r=>by cases e;cases r;rfl
 |d::ds,_,_,e,r=>by
  cases r with
  |cons h t=>obtain⟨k,e1,e2⟩:=aa.mp e;obtain⟨t',e3,e4⟩:=aa.mp e2;cases e4;rw[Hq e1 h,Ld e3 t];rfl
theorem Z7.tupH{F H:Hp}{xs:List D}{v:V}(le:Ze F H)(h:Z7 K F H (.tup xs) v):∃a vs,v= .ref a/\H a=aA (.tup vs)/\Reps K F xs vs:=by
 obtain⟨sv,ns,e,n,sh,hp⟩:=h;cases sh with
 |fz r=>cases e;cases r with|tup h r=>exact⟨_,_,rfl,le _ _ h,r⟩
 |ol r=>cases e
 |oK e' r=>cases e
 |oT kb e' r=>cases e
 |oN e' r=>cases n
 |oX kb' e' r=>cases n
 |oD r=>cases n
 |oM kb' e' r=>cases n
 |oL _ r=>cases n
 |oQ e' r=>cases e
@[simp] def Vo:D->D->Option (Option D)
 | .dK ks vs,d=>d.key?.bind λk=>aA (look ks vs k)
 | .dT ks vs,.tup xs=>(keys? xs).bind λk=>aA (look ks vs k)
 |_,_=>aB
theorem T8{F H:Hp}{d1 d2:D}{x y:V}{o:Option D}(le:Ze F H)(e:Vo d1 d2=aA o)(r1:Z7 K F H d1 x)(r2:Z7 K F H d2 y):
  ∃a,x= .ref a/\IsD H a/\match o with
   |some d=>∃v,Jc H a y (aA v)/\Rep K F d v
   |none=>Jc H a y aB:=by
 unfold Vo at e;split at e
 ·obtain⟨k,e1,e2⟩:=aa.mp e;obtain⟨a,kvs,rfl,ha,rfl,rr⟩:=r1.dK le;refine⟨a,rfl,.inl ⟨kvs,ha.rd⟩,?_⟩;rw[T7 e1 r2];have z:=G5 k kvs _ rr;have g:=Jc.k (k:=k) ha;rw[dm.inj e2]at z;cases o with
  |none=>rw[show Wy kvs k=aB from z]at g;exact g
  |some d=>obtain⟨v,z1,z2⟩:=z;rw[z1]at g;exact⟨v,g,z2⟩
 ·obtain⟨k,e1,e2⟩:=aa.mp e;obtain⟨a,kvs,rfl,ha,rfl,rr⟩:=r1.dT le;obtain⟨b,vs,rfl,hb,rb⟩:=r2.tupH le;refine⟨a,rfl,.inr ⟨kvs,ha.rd⟩,?_⟩;rw[Ld e1 rb]at hb;have z:=G5 k kvs _ rr;have g:=Jc.t ha hb;rw[dm.inj e2]at z;cases o with
  |none=>rw[show Wy kvs k=aB from z]at g;exact g
  |some d=>obtain⟨v,z1,z2⟩:=z;rw[z1]at g;exact⟨v,g,z2⟩
 ·cases e
section
variable{Z:Ent K}
@[simp] def Zea(d1 d2:D):Option SV:=(Vo d1 d2).bind λo=>o.bind λd=>some (.fz d)
theorem Zm1:Yw Z Zqy Zea:=by intro F H σ δ own x y d1 d2 sv Q s r1 r2 e k;obtain⟨o,e1,e2⟩:=aa.mp e;obtain⟨d,e3,e4⟩:=aa.mp e2;cases e4;subst e3;obtain⟨a,rfl,_,v,g,rv⟩:=T8 s.le e1 r1 r2;exact⟨a,v,rfl,g,k.fz s rv⟩
@[simp] def Zqz(d1 d2:D):Option SV:=(Vo d2 d1).bind λo=>some (.fz (.bl o.isSome))
@[simp] def Hr(d1 d2:D):Option SV:=(Vo d2 d1).bind λo=>some (.fz (.bl (!o.isSome)))
theorem Zm2:Yw Z Zd8 Zqz:=by
 intro F H σ δ own x y d1 d2 sv Q s r1 r2 e k;obtain⟨o,e1,e2⟩:=aa.mp e;cases e2;obtain⟨a,rfl,_,g⟩:=T8 s.le e1 r2 r1;cases o with
 |none=>exact⟨a,aB,rfl,g,k.fz s (.bl _)⟩
 |some d=>obtain⟨v,g,_⟩:=g;exact⟨a,aA v,rfl,g,k.fz s (.bl _)⟩
theorem Zbc:Yw Z G4 Hr:=by
 intro F H σ δ own x y d1 d2 sv Q s r1 r2 e k;obtain⟨o,e1,e2⟩:=aa.mp e;cases e2;obtain⟨a,rfl,_,g⟩:=T8 s.le e1 r2 r1;cases o with
 |none=>exact⟨a,aB,rfl,g,k.fz s (.bl _)⟩
 |some d=>obtain⟨v,g,_⟩:=g;exact⟨a,aA v,rfl,g,k.fz s (.bl _)⟩
@[simp] def D.isD:D->Bool
 | .dK _ _=>aC| .dT _ _=>aC|_=>aD
@[simp] def Cp(d1 d2:D):Option SV:=if d1.isD=true then Zea d1 d2 else ixD d1 d2
@[simp] def inX(d1 d2:D):Option SV:=if d2.isD=true then Zqz d1 d2 else inD d1 d2
@[simp] def Vp(d1 d2:D):Option SV:=if d2.isD=true then Hr d1 d2 else K9 d1 d2
theorem Zbd{H:Hp}{σ:L2.St}{Q:VK}{fa fb:FE}{g g1 g2':D->D->Option SV}(hg:∀d1 d2 sv,g d1 d2=aA sv->g1 d1 d2=aA sv\/g2' d1 d2=aA sv)(h:Zc Z (Zt g fa fb) σ H Q):Zc Z (Zt g1 fa fb) σ H Q\/Zc Z (Zt g2' fa fb) σ H Q:=by
 obtain⟨F,δ,own,rv,δ',s,e,k⟩:=h;obtain⟨⟨rvs,δ1⟩,e1,e2⟩:=aa.mp e;obtain⟨ds,e3,e4⟩:=aa.mp e2;obtain⟨sv,e5,e6⟩:=aa.mp e4;have:(g2 g1) ds=aA sv\/(g2 g2') ds=aA sv:=by
  unfold g2 at e5⊢;split at e5
  ·exact hg _ _ _ e5
  ·cases e5
 rcases this with z|z
 ·exact .inl ⟨F,δ,own,rv,δ',s,aa.mpr ⟨_,e1,aa.mpr ⟨_,e3,aa.mpr ⟨_,z,e6⟩⟩⟩,k⟩
 ·exact .inr ⟨F,δ,own,rv,δ',s,aa.mpr ⟨_,e1,aa.mpr ⟨_,e3,aa.mpr ⟨_,z,e6⟩⟩⟩,k⟩
theorem Zq0:Yw Z (λx y H Q=>(∃i j,x= .str i/\y= .str j/\Q (.bl (!(c8 j i 0 j.length 1).isEmpty)) H)\/Zd8 x y H Q) inX:=by
 intro F H σ δ own x y d1 d2 sv Q s r1 r2 e k;unfold inX at e;split at e
 ·exact .inr (Zm2 F H σ δ own x y d1 d2 sv Q s r1 r2 e k)
 ·exact .inl (Zve F H σ δ own x y d1 d2 sv Q s r1 r2 e k)
theorem Zeb:Yw Z (λx y H Q=>(∃i j,x= .str i/\y= .str j/\Q (.bl (!(!(c8 j i 0 j.length 1).isEmpty))) H)\/G4 x y H Q) Vp:=by
 intro F H σ δ own x y d1 d2 sv Q s r1 r2 e k;unfold Vp at e;split at e
 ·exact .inr (Zbc F H σ δ own x y d1 d2 sv Q s r1 r2 e k)
 ·exact .inl (Zie F H σ δ own x y d1 d2 sv Q s r1 r2 e k)
end
section
variable{X:Cx}{Z:Ent X.K}{a b c:ci}{fa fb fc:FE}{pos:Pos}
theorem Y3(hu:X.A.units+1<dw)(ha:PE X a (Zc Z fa))(hb:PE X b (Zc Z fb))(hs:Kk b:=by intro _ _;rfl):PE X (.Subscript a b pos) (Zc Z (Zt Cp fa fb)):=λpins s σ H Q I h=>by
 rcases Zbd (g1:=Zea) (g2':=ixD) (λd1 d2 sv e=>by
  unfold Cp at e;split at e
  ·exact .inl e
  ·exact .inr e) h with h|h
 ·exact Zhq hu ha hb hs pins s σ H Q I (Io Zm1 h)
 ·exact Hg Kl ha hb hs pins s σ H Q I (Io Zqg h)
end
end DL
namespace L2
open PySem PySem.Spec PyProof.Rows
variable{X:Cx}
def Zec:V->List V->Hp->VK->Prop:=λx xs H Q=>∃a,x= .ref a/\((∃y o,xs=[y]/\Jc H a y o/\Q (o.getD .non) H)\/(∃y z o,xs=[y,z]/\Jc H a y o/\Q (o.getD z) H))
theorem Zig(hu:X.A.units+1<dw):MtR X "dict.get" Zec:=by
 intro pins s σ H x xs v us Q I rx rs h;obtain⟨a,rfl,h⟩:=h;cases rx;rcases h with⟨y,o,rfl,g,q⟩|⟨y,z,o,rfl,g,q⟩
 ·obtain⟨u,rfl,ru⟩:=Jt rs;exact Zmi hu I g ru λw' s' I' r'=>⟨_,H,I',r',q⟩
 ·obtain⟨u,w',rfl,r1,r2⟩:=Zj7 rs;exact Zmj hu I g r1 r2 λw' s' I' r'=>⟨_,H,I',r',q⟩
end L2
namespace DL
open PySem PySem.Spec PyProof.Rows L2
variable{K:af}
section
variable{Z:Ent K}{H:Hp}{σ:L2.St}{Q:VK}{E:Yq}
@[simp] def Pe:FE:=λδ=>some (.tmp (.oK [] []),δ)
@[simp] def Zxt:FE:=λδ=>some (.tmp (.oT [] []),δ)
theorem Zih(h:Zc Z Pe σ H Q):Zc2 σ H Q:=by obtain⟨F,δ,own,rv,δ',s,e,k⟩:=h;cases e;intro p hp;have f:Fin Z F H σ δ own (.oK [] []) Q:=λv H' F' ns a b c t=>k v H' F' own a b c ⟨ns,t⟩;exact f.one s (.oK (kvs:=[]) rfl .nil) hp
@[simp] def SV.isOD:Option (Option SV)->Bool
 |some (aA (.oK _ _))=>aC
 |some (aA (.oT _ _))=>aC
 |some (aA (.oQ _ _ _))=>aC
 |_=>aD
@[simp] def Zq1(kd d:D):Option (Option SV)->Option SV
 |some (aA (.oK ks vs))=>kd.key?.bind λk=>if vs.length<a7 then aA (.oK (Wh ks vs k d).1 (Wh ks vs k d).2)else aB
 |some (aA (.oT ks vs))=>match kd with
  | .tup xs=>(keys? xs).bind λk=>if vs.length<a7 then aA (.oT (Wh ks vs k d).1 (Wh ks vs k d).2)else aB
  |_=>aB
 |some (aA (.oQ q ks vs))=>kd.key?.bind λk=>if vs.length<a7 then aA (.oQ q (Wh ks vs k d).1 (Wh ks vs k d).2)else aB
 |_=>aB
@[simp] def Ry(i:Nat)(fk fv:FE):FS:=λδ=>(fv δ).bind λp=>(frz p.1 p.2).bind λq=>if SV.isOD (q.2[i]?)=true then(fk q.2).bind λr=>(Ev r.1 r.2).bind λkd=>(Zq1 kd q.1 (r.2[i]?)).bind λsv=>some (.nx (r.2.set i (some sv)))else none
theorem T9{F:Hp}{ks:List Key}{ds:List D}{v:V}{ns:Zo}(h:Shape K F (.oK ks ds) v ns):∃a kvs ep,v= .ref a/\ns=[(a,.dK kvs ep)]/\kvs.map (·.1)=ks/\Reps K F ds (kvs.map (·.2)):=by
 cases h with
 |oK e r=>exact⟨_,_,_,rfl,rfl,e,r⟩
theorem Zed{F:Hp}{q:ak}{ks:List Key}{ds:List D}{v:V}{ns:Zo}(h:Shape K F (.oQ q ks ds) v ns):∃kvs ep,v= .ref q/\ns=[(q,.dK kvs ep)]/\kvs.map (·.1)=ks/\Reps K F ds (kvs.map (·.2)):=by
 cases h with
 |oQ e r=>exact⟨_,_,rfl,rfl,e,r⟩
theorem Zee{F:Hp}{ks:List (List Key)}{ds:List D}{v:V}{ns:Zo}(h:Shape K F (.oT ks ds) v ns):∃a kvs ep bs,v= .ref a/\ns=[(a,.dT kvs ep bs)]/\KB F kvs bs/\kvs.map (·.1)=ks/\Reps K F ds (kvs.map (·.2)):=by
 cases h with
 |oT kb e r=>exact⟨_,_,_,_,rfl,rfl,kb,e,r⟩
theorem KB.put{F:Hp}{kvs:List (List Key×V)}{bs:List ak}{k:List Key}{b:ak}{v:V}(h:KB F kvs bs)(hb:F b=aA (.tup (k.map kV))):KB F (Qa kvs k v) (Nk kvs bs k b):=by
 unfold Qa Nk;split
 ·unfold KB at*;clear hb;rename_i hq;clear hq;induction h with
  |nil=>exact .nil
  | @cons p c ps cs h1 t ih=>
   rw[av];refine .cons ?_ ih;by_cases e:p.1=k
   ·rw[if_pos e];exact h1
   ·rw[if_neg e];exact h1
 ·exact Paired.snoc h hb
theorem Z7.tupF{F H:Hp}{xs:List D}{v:V}(h:Z7 K F H (.tup xs) v):∃a vs,v= .ref a/\F a=aA (.tup vs)/\Reps K F xs vs:=by
 obtain⟨sv,ns,e,n,sh,hp⟩:=h;cases sh with
 |fz r=>cases e;cases r with|tup h r=>exact⟨_,_,rfl,h,r⟩
 |ol r=>cases e
 |oK e' r=>cases e
 |oT kb e' r=>cases e
 |oN e' r=>cases n
 |oX kb' e' r=>cases n
 |oD r=>cases n
 |oM kb' e' r=>cases n
 |oL _ r=>cases n
 |oQ e' r=>cases e
theorem Zii{o:Option (Option SV)}(h:SV.isOD o=aC):∃sv,o=aA (aA sv):=by
 unfold SV.isOD at h;split at h
 ·exact⟨_,rfl⟩
 ·exact⟨_,rfl⟩
 ·exact⟨_,rfl⟩
 ·cases h
theorem Zq2{i:Nat}{fk fv:FE}(h:Z1 Z (Ry i fk fv) E σ H):Zkb (Ja i) (Zc Z fk) (Zc Z fv) E σ H:=by
 obtain⟨F,δ,own,fl,s,e,k⟩:=h;obtain⟨⟨rv,δ1⟩,e1,e⟩:=aa.mp e;obtain⟨⟨d,δ2⟩,e2,e⟩:=aa.mp e;dsimp only at e;split at e
 ·rename_i hod;obtain⟨⟨rk,δ3⟩,e3,e⟩:=aa.mp e;obtain⟨kd,e4,e⟩:=aa.mp e;obtain⟨sv,e5,e⟩:=aa.mp e;cases e;refine⟨F,δ,own,rv,δ1,s,e1,λv H1 F1 own1 sH1 sF1 s1 r1=>?_⟩;obtain⟨F2,sF2,s2,r2⟩:=s1.settleR r1;obtain⟨F3,own3,sF3,s3,r3⟩:=s2.frzR r2 e2;obtain⟨sv0,hsv0⟩:=Zii hod;obtain⟨x,hx,_⟩:=s3.at' i sv0 hsv0;refine⟨x,hx,F3,δ2,own3,rk,δ3,s3,e3,λy H4 F4 own4 sH4 sF4 s4 r4=>?_⟩;obtain⟨F5,sF5,s5,r5⟩:=s4.settleR r4;have rk':=s5.rd r5 e4;have rd:Rep K F5 d v:=r3.mono (sF4.trans sF5);have sF:Ze F F5:=sF1.trans (sF2.trans (sF3.trans (sF4.trans sF5)));dsimp only at e5;generalize ho:δ3[i]? =o at e5;unfold Zq1 at e5;split at e5
  ·rename_i ks vs;obtain⟨kk,f1,f2⟩:=aa.mp e5;split at f2
   ·rename_i hz;cases f2;obtain⟨x',hx',sh⟩:=s5.at' i _ ho;rw[hx]at hx';cases hx';obtain⟨a,kvs,ep0,ea,en,rfl,rr⟩:=T9 sh;subst ea;have mb:(a,HO.dK kvs ep0)∈own4 i:=by rw[en];exact ah
    have hH:=(s5.ok i _ mb).2.2;have z:=Vn (k:=kk) rd kvs vs rr;refine⟨a,rfl,?_⟩;rw[T7 f1 rk'];refine Eu.k ⟨_,hH⟩ (by rw[<-rr.length_map];exact hz) λep=>?_;exact k σ _ F5 _ sF (s5.change (sv':=.oK (Wh (kvs.map (·.1)) vs kk d).1 (Wh (kvs.map (·.1)) vs kk d).2) (o':=.dK (Qa kvs kk v) ep) (ns':=[(a,.dK (Qa kvs kk v) ep)]) ho hx mb (.oK z.1 z.2) (λp hp=>.inl (au.mp hp)) Er)
   ·cases f2
  ·rename_i ks vs;split at e5
   ·rename_i xs;obtain⟨kk,f1,f2⟩:=aa.mp e5;split at f2
    ·rename_i hz;cases f2;obtain⟨x',hx',sh⟩:=s5.at' i _ ho;rw[hx]at hx';cases hx';obtain⟨a,kvs,ep0,bs0,ea,en,kb,rfl,rr⟩:=Zee sh;subst ea;have mb:(a,HO.dT kvs ep0 bs0)∈own4 i:=by rw[en];exact ah
     have hH:=(s5.ok i _ mb).2.2;have z:=Vn (k:=kk) rd kvs vs rr;obtain⟨b,us,rfl,hbF,rb⟩:=rk'.tupF;rw[Ld f1 rb]at hbF;refine⟨a,rfl,Eu.t ⟨_,_,hH⟩ (s5.le _ _ hbF) (by rw[<-rr.length_map];exact hz) λep ep1 bs1 hq=>?_⟩;rw[hH]at hq;cases hq;exact k σ _ F5 _ sF (s5.change (sv':=.oT (Wh (kvs.map (·.1)) vs kk d).1 (Wh (kvs.map (·.1)) vs kk d).2) (o':=.dT (Qa kvs kk v) ep (Nk kvs bs0 kk b)) (ns':=[(a,.dT (Qa kvs kk v) ep (Nk kvs bs0 kk b))]) ho hx mb (.oT (kb.put hbF) z.1 z.2) (λp hp=>.inl (au.mp hp)) Er)
    ·cases f2
   ·cases e5
  ·rename_i q ks vs;obtain⟨kk,f1,f2⟩:=aa.mp e5;split at f2
   ·rename_i hz;cases f2;obtain⟨x',hx',sh⟩:=s5.at' i _ ho;rw[hx]at hx';cases hx';obtain⟨kvs,ep0,ea,en,rfl,rr⟩:=Zed sh;subst ea;have mb:(q,HO.dK kvs ep0)∈own4 i:=by rw[en];exact ah
    have hH:=(s5.ok i _ mb).2.2;have z:=Vn (k:=kk) rd kvs vs rr;refine⟨q,rfl,?_⟩;rw[T7 f1 rk'];refine Eu.k ⟨_,hH⟩ (by rw[<-rr.length_map];exact hz) λep=>?_;exact k σ _ F5 _ sF (s5.change (sv':=.oQ q (Wh (kvs.map (·.1)) vs kk d).1 (Wh (kvs.map (·.1)) vs kk d).2) (o':=.dK (Qa kvs kk v) ep) (ns':=[(q,.dK (Qa kvs kk v) ep)]) ho hx mb (.oQ z.1 z.2) (λp hp=>.inl (au.mp hp)) Er)
   ·cases f2
  ·cases e5
 ·cases e
@[simp] def Zm3(T:String)(g:D->List D->Option SV)(fo:FE)(fd:FD):FE:=λδ=>(fo δ).bind λp=>(Ev p.1 p.2).bind λd0=>if Zdt T d0=true then(fd p.2).bind λq=>(Ev p.1 q.2).bind λd1=>(g d1 q.1).bind λsv=>some (.tmp sv,q.2)else none
def Zkv(Z:Ent K)(r:V->List V->Hp->VK->Prop)(g:D->List D->Option SV):Prop:=
 ∀(F H:Hp) (σ:L2.St) (δ:Yg) (own:Nat->Zo) (x:V) (d:D) (vs:List V) (ds:List D) (sv:SV) (Q:VK),SR Z F H σ δ own->Z7 K F H d x->Reps K F ds vs->g d ds=aA sv->Fin Z F H σ δ own sv Q->r x vs H Q
theorem Zq3{T:String}{r:V->List V->Hp->VK->Prop}{g:D->List D->Option SV}{fo:FE}{fd:FD}(hg:Zkv Z r g)(h:Zc Z (Zm3 T g fo fd) σ H Q):tBM K T r (Zc Z fo) (Wj Z fd) σ H Q:=by
 obtain⟨F,δ,own,rv,δ',s,e,k⟩:=h;obtain⟨⟨rv1,δ1⟩,e1,e⟩:=aa.mp e;obtain⟨d0,e2,e⟩:=aa.mp e;dsimp only at e;split at e
 ·rename_i ht;obtain⟨⟨ds,δ2⟩,e3,e⟩:=aa.mp e;obtain⟨d1,e4,e⟩:=aa.mp e;obtain⟨sv,e5,e⟩:=aa.mp e;cases e;refine⟨F,δ,own,rv1,δ1,s,e1,λv H1 F1 own1 sH1 sF1 s1 r1=>?_⟩;obtain⟨F1',sF1',s1',r1'⟩:=s1.settleR r1;refine⟨Zqk s1'.le (s1'.rd r1' e2) ht,F1',δ1,own1,ds,δ2,s1',e3,λvs H2 F2 own2 sH2 sF2 s2 r2=>?_⟩;exact hg F2 H2 σ δ2 own2 v d1 vs ds sv Q s2 (s2.rd (r1'.mono sF2) e4) r2 e5 λq H4 F4 ns sH4 sF4 s4 t4=>
   k q H4 F4 own2 (sH1.trans (sH2.trans sH4)) (sF1.trans (sF1'.trans (sF2.trans sF4))) s4 ⟨ns,t4⟩
 ·cases e
@[simp] def Le:D->List D->Option SV
 |d,[y]=>(Vo d y).bind λo=>aA (.fz (o.getD .non))
 |d,[y,z]=>(Vo d y).bind λo=>aA (.fz (o.getD z))
 |_,_=>aB
theorem Zij:Zkv Z Zec Le:=by
 intro F H σ δ own x d vs ds sv Q s r1 r2 e k;unfold Le at e;split at e
 ·obtain⟨o,e1,e2⟩:=aa.mp e;cases e2;cases r2 with
  |cons h t=>
   cases t;obtain⟨a,rfl,_,g⟩:=T8 s.le e1 r1 (Z7.of h);cases o with
   |none=>exact⟨a,rfl,.inl ⟨_,aB,rfl,g,k.fz s .non⟩⟩
   |some d=>obtain⟨v,g,rv⟩:=g;exact⟨a,rfl,.inl ⟨_,aA v,rfl,g,k.fz s rv⟩⟩
 ·obtain⟨o,e1,e2⟩:=aa.mp e;cases e2;cases r2 with
  |cons h t=>
   cases t with
   |cons h2 t=>
    cases t;obtain⟨a,rfl,_,g⟩:=T8 s.le e1 r1 (Z7.of h);cases o with
    |none=>exact⟨a,rfl,.inr ⟨_,_,aB,rfl,g,k.fz s h2⟩⟩
    |some d=>obtain⟨v,g,rv⟩:=g;exact⟨a,rfl,.inr ⟨_,_,aA v,rfl,g,k.fz s rv⟩⟩
 ·cases e
end
section
variable{X:Cx}{Z:Ent X.K}{a b c:ci}{fa fb fc:FE}{pos:Pos}
theorem Lf:PE X (.Dict [] [] pos) (Zc Z Pe):=Zc3.imp λ_ _ _ h=>Zih h
theorem Zm4{apos cpos:Pos}{es:List ci}{fd:FD}(hu:X.A.units+1<dw)(ha:PE X a (Zc Z fa))(hb:PA X (b::es) (Wj Z fd))(hbase:attributeBase a "get" X.env (f8 a X.env)=f8 a X.env:=by rfl)
  (hfew:((f6 cpos (ay (b::es) X.env)).all (λx=>!x.1)&&(backToKw cpos (keywordEach [] X.env)).all (λx=>x.1.isSome)&&decide ((b::es).length+([]:List Keyword).length+(if([]:List Keyword).isEmpty then 0 else 1)<30))=aC:=by rfl)
  (hline:(apos.endLine==cpos.line)=aC:=by rfl) (hs:ay (b::es) X.env=(aD,f8 b X.env)::ay es X.env:=by rfl) (hpl:(f6 cpos (ay es X.env)).any (·.1)=aD:=by rfl):
  PE X (.Call (.Attribute a "get" apos) (b::es) [] cpos) (Zc Z (Zm3 "dict" Le fa fd)):=
 (Ii PySem.F.plainAttrs_dict PySem.F.slot_dict_get PySem.F.type_dict_get (Zig hu) ha hb hbase hfew hline hs hpl).imp λ_ _ _ h=>Zq3 Zij h
theorem Aa(i:Nat){x:Str}{px p1:Pos}(hu:X.A.units+1<dw)(hb:PE X b (Zc Z fb))(hv':PE X a (Zc Z fa))(hN:X.N[i]? =aA x:=by rfl)(hv:Sy X.env.scope x:=by first|exact Or.inl rfl|exact gp (Or.inl rfl)|exact gp (gp rfl))(hd:(x==("__debug__":Str))=aD:=by decide)
  (hcd:(x==("__classdict__":Str))=aD:=by decide) (hs:swapsWith a (aA (.Subscript (.Name x px) b p1)) pos.line X.env=pure aD:=by rfl):
  PS X (.Assign [.Subscript (.Name x px) b p1] a pos) (Z1 Z (Ry i fb fa)):=(Zhr hu (Js (i:=i) hN hv hd hcd) hb hv' hs).imp λ_ _ _ h=>Zq2 h
end
end DL
namespace L2
open PySem PySem.Spec PyProof.Rows
variable{X:Cx}
def Hs:List V->Hp->VK->Prop:=λxs H Q=>∃a kvs,xs=[.ref a]/\RdK H a kvs/\∀p ep,H p=aB->Q (.ref p) (Z5 H p (.dK kvs ep))
theorem Pf:Qd X (.type "dict") Hs:=by intro pins s σ H xs us Q I rs h;obtain⟨a,kvs,rfl,e,q⟩:=h;obtain⟨u,rfl,ru⟩:=Jt rs;cases ru;exact Zc7 I e λp ep s' hp I'=>⟨.ref p,_,I',rfl,q p ep hp⟩
end L2
namespace DL
open PySem PySem.Spec PyProof.Rows L2
variable{K:af}
section
variable{Z:Ent K}{H:Hp}{σ:L2.St}{Q:VK}{E:Yq}
@[simp] def Pg:List D->Option SV
 | [.dK ks vs]=>aA (.oK ks vs)
 |_=>aB
theorem Zef:Jy Z Hs Pg:=by
 intro F H σ δ own vs ds sv Q s r e k;unfold Pg at e;split at e
 ·cases e;cases r with
  |cons h t=>cases t;obtain⟨a,kvs,rfl,ha,ek,rr⟩:=h.dK s.le;exact⟨a,kvs,rfl,ha.rd,λp ep hp=>k.one s (.oK ek rr) hp⟩
 ·cases e
@[simp] def Zvk(k:Str)(i:Nat):FE:=λδ=>match δ[i]? with
 |some (aA sv)=>aA (.tmp (.oK [.inr k] [sv.toD]),δ.set i (aA (.fz sv.toD)))
 |_=>aB
@[simp] def J2(ks:List Key)(vs:List D)(k:Key):List Key×List D:=(((ks.zip vs).filter λp=>decide (p.1≠k)).map (·.1),((ks.zip vs).filter λp=>decide (p.1≠k)).map (·.2))
theorem Ht{F:Hp}(k:Key):∀(kvs:List (Key×V)) (ds:List D),Reps K F ds (kvs.map (·.2))->
  (Jw kvs k).map (·.1)=(J2 (kvs.map (·.1)) ds k).1/\Reps K F (J2 (kvs.map (·.1)) ds k).2 ((Jw kvs k).map (·.2))
 | [],_,r=>by cases r;exact⟨rfl,.nil⟩
 |p::kvs,_,r=>by
  cases r with
  | @cons d v ds vs h t=>
   obtain⟨i1,i2⟩:=Ht k kvs ds t;have e1:Jw (p::kvs) k=if p.1≠k then p::Jw kvs k else Jw kvs k:=by unfold Jw;rw[List.filter_cons];by_cases e:p.1=k<;> simp[e]
   have e2:J2 ((p::kvs).map (·.1)) (d::ds) k=if p.1≠k then(p.1::(J2 (kvs.map (·.1)) ds k).1,d::(J2 (kvs.map (·.1)) ds k).2)else J2 (kvs.map (·.1)) ds k:=by unfold J2;rw[av,List.zip_cons_cons,List.filter_cons];by_cases e:p.1=k<;> simp[e]
   rw[e1,e2];by_cases e:p.1=k
   ·rw[if_neg (λz=>z e),if_neg (λz=>z e)];exact⟨i1,i2⟩
   ·rw[if_pos e,if_pos e];exact⟨by rw[av,i1],.cons h i2⟩
@[simp] def Zik(i:Nat)(fk:FE):FS:=λδ=>match δ[i]? with
 |some (aA (.oK _ _))=>(fk δ).bind λr=>(Ev r.1 r.2).bind λkd=>kd.key?.bind λk=>match r.2[i]? with
  |some (aA (.oK ks vs))=>if(look ks vs k).isSome=aC then aA (.nx (r.2.set i (aA (.oK (J2 ks vs k).1 (J2 ks vs k).2))))else aB
  |_=>aB
 |_=>aB
theorem Zq4{i:Nat}{fk:FE}(h:Z1 Z (Zik i fk) E σ H):Bp (Zc5 (Ja i) (Zc Z fk)) E σ H:=by
 obtain⟨F,δ,own,fl,s,e,k⟩:=h;unfold Zik at e;split at e
 ·rename_i ks0 vs0 hx0;obtain⟨⟨rk,δ1⟩,e1,e⟩:=aa.mp e;obtain⟨kd,e2,e⟩:=aa.mp e;obtain⟨kk,e3,e⟩:=aa.mp e;obtain⟨x,hx,sh0⟩:=s.at' i _ hx0;obtain⟨a,kvs0,ep0,ea,en0,ek0,rr0⟩:=T9 sh0;subst ea;have mb0:(a,HO.dK kvs0 ep0)∈own i:=by rw[en0];exact ah
  refine⟨_,hx,a,rfl,.inl ⟨kvs0,ep0,.inl (s.ok i _ mb0).2.2⟩,F,δ,own,rk,δ1,s,e1,λy H1 F1 own1 sH1 sF1 s1 r1=>?_⟩;obtain⟨F2,sF2,s2,r2⟩:=s1.settleR r1;have rk':=s2.rd r2 e2;dsimp only at e;split at e
  ·rename_i ks vs ho;split at e
   ·rename_i hl;cases e;obtain⟨x',hx',sh⟩:=s2.at' i _ ho;rw[hx]at hx';cases hx';obtain⟨b,kvs,ep1,eb,en,rfl,rr⟩:=T9 sh;cases eb;have mb:(a,HO.dK kvs ep1)∈own1 i:=by rw[en];exact ah
    have z:=G5 kk kvs vs rr;obtain⟨d,hd⟩:=Option.isSome_iff_exists.mp hl;rw[hd]at z;obtain⟨v,z1,_⟩:=z;have dk:=Ht kk kvs vs rr;refine⟨kvs,kk,v,⟨_,(s2.ok i _ mb).2.2⟩,T7 e3 rk',z1,λep=>?_⟩;exact k σ _ F2 _ (sF1.trans sF2) (s2.change (sv':=.oK (J2 (kvs.map (·.1)) vs kk).1 (J2 (kvs.map (·.1)) vs kk).2) (o':=.dK (Jw kvs kk) ep) (ns':=[(a,.dK (Jw kvs kk) ep)]) ho hx mb (.oK dk.1 dk.2) (λp hp=>.inl (au.mp hp)) Er)
   ·cases e
  ·cases e
 ·cases e
end
section
variable{X:Cx}{Z:Ent X.K}{a b c:ci}{fa fb fc:FE}{pos:Pos}
theorem Ph{p:Pos}(hm:X.mg "dict"=aB)(ha:PE X a (Zc Z fa))(hg:Gl X "dict":=by rfl)(he:ay [a] X.env=(aD,f8 a X.env)::ay [] X.env:=by rfl)(hpl:(f6 pos (ay [] X.env)).any (·.1)=aD:=by rfl):PE X (.Call (.Name "dict" p) [a] [] pos) (Zc Z (Yl Pg (Zd fa Zp))):=
 Gy Pf Zef hm boot_dict (Zq ha Ym he) hg (by decide) (by decide) he hpl
theorem Zq5(i:Nat){x:Str}{px apos cpos:Pos}(hb:PE X b (Zc Z fb))(hN:X.N[i]? =aA x:=by rfl)(hv:Sy X.env.scope x:=by first|exact Or.inl rfl|exact gp (Or.inl rfl)|exact gp (gp rfl))(hd:(x==("__debug__":Str))=aD:=by decide)
  (hcd:(x==("__classdict__":Str))=aD:=by decide) (m:M1 X (.Name x px) "pop" apos b cpos:=by exact⟨rfl,rfl,rfl,rfl⟩) (hsw:swapsWith (.Call (.Attribute (.Name x px) "pop" apos) [b] [] cpos) aB pos.line X.env=pure aD:=by rfl):
  PS X (.Expr (.Call (.Attribute (.Name x px) "pop" apos) [b] [] cpos) pos) (Z1 Z (Zik i fb)):=
 (Og (Zc6 (Js (i:=i) hN hv hd hcd) hb m) hsw).imp λ_ _ _ h=>Zq4 h
end
end DL
namespace L2
open PySem PySem.Spec PyProof.Rows
section
variable{prog:bu}{w:ck}{A:cj}{E:aj->am->Prop}{s:am}
theorem Vq{Q:Int->am->Prop}(h:Q 0xFCA86420 {s with toks:=s.toks+1}):ba (bp prog w) A (pyHash .none) Q E s:=by have hT:s.TypeIs .none "NoneType":=rfl;refine PySem.W.pyHash_slot (v:=.none) (Q:=Q) hT F.slot_NoneType_hash F.entry_NoneType_hash (F.args_NoneType_hash_1 _) rfl (.inl rfl) ?_;show ba (bp prog w) A.in1 (mkInt 0xFCA86420 >>=λv=>ret v) _ E s;refine ad (wpAny_mkInt ?_);exact ag ⟨_,_,rfl,h⟩
end
def Zeg:Option Key->aj->Bool
 |none,.none=>aC
 |none,_=>aD
 |some k,v=>Bm k v
theorem Yx{k:Option Key}{v:aj}(h:Zeg k v=aC):(k=aB/\v= .none)\/∃j,k=aA j/\Bm j v=aC:=by
 cases k with
 |none=>cases v<;> first|exact .inl ⟨rfl,rfl⟩|cases h
 |some j=>exact .inr ⟨j,rfl,h⟩
theorem Ab{j:Key}(h:Bm j .none=aC):False:=by rcases Z0 h with⟨i,t,_,e⟩|⟨x,t,_,e⟩<;> cases e
def Lg(prog:bu)(w:ck):PySem.KeyKind prog w (Option Key)where
 is:=Zeg
 hash:=λ|none=>0xFCA86420|some k=>(Zk prog w).hash k
 inj:=λv a b ha hb=>by
  rcases Yx ha with⟨rfl,rfl⟩|⟨i,rfl,hi⟩
  ·rcases Yx hb with⟨rfl,_⟩|⟨j,rfl,hj⟩
   ·rfl
   ·exact(Ab hj).elim
  ·rcases Yx hb with⟨rfl,rfl⟩|⟨j,rfl,hj⟩
   ·exact(Ab hi).elim
   ·rw[(Zk prog w).inj v i j hi hj]
 byValue:=λk v h=>by
  rcases Yx h with⟨rfl,rfl⟩|⟨i,rfl,hi⟩
  ·rfl
  ·exact(Zk prog w).byValue i v hi
 pyHash:=fun{A E s k v Q} hv h=>by
  rcases Yx hv with⟨rfl,rfl⟩|⟨i,rfl,hi⟩
  ·exact Vq h
  ·exact(Zk prog w).pyHash hi h
 eqBool:=fun{A E s a b u v Q} hu hv h=>by
  rcases Yx hu with⟨rfl,rfl⟩|⟨i,rfl,hi⟩
  ·rcases Yx hv with⟨rfl,rfl⟩|⟨j,rfl,hj⟩
   ·exact SeqAt.EqAt.same _ _ _ _ _ (by simpa using h)
   ·rw[decide_eq_false (λz=>nomatch z)]at h;rcases Z0 hj with⟨i,t,rfl,rfl⟩|⟨x,t,rfl,rfl⟩
    ·exact SeqAt.EqAt.none_int i t _ _ _ _ h
    ·exact SeqAt.EqAt.none_str x t _ _ _ _ h
  ·rcases Yx hv with⟨rfl,rfl⟩|⟨j,rfl,hj⟩
   ·rw[decide_eq_false (λz=>nomatch z)]at h;rcases Z0 hi with⟨i,t,rfl,rfl⟩|⟨x,t,rfl,rfl⟩
    ·exact SeqAt.EqAt.int_none i t _ _ _ _ h
    ·exact SeqAt.EqAt.str_none x t _ _ _ _ h
   ·refine(Zk prog w).eqBool hi hj ?_;have e:decide (aA i=aA j)=decide (i=j):=by simp
    rw[<-e];exact h
 «strs»:=λk x t v h=>by
  rcases Yx h with⟨rfl,e⟩|⟨i,rfl,hi⟩
  ·cases e
  ·exact(Zk prog w).strs i x t v hi
variable{X:Cx}
theorem Hu{P:bu}{w:ck}{h:dq}{a:ak}{vs:List (Key×aj)}(d:h.DictOf (Zk P w) a vs):h.MapOf (Lg P w) a (λ|none=>aB|some k=>valueAt vs k):=by
 obtain⟨o,es,ep,ho,hc,hd,hk,hf⟩:=d.mapOf;refine⟨o,es,ep,ho,hc,hd,λe he=>?_,λk=>?_⟩
 ·obtain⟨k,h1,h2⟩:=hk e he;exact⟨aA k,h1,h2⟩
 ·cases k with
  |some k=>exact hf k
  |none=>
   show(es.find? λe=>Zeg aB e.key).map (·.val)=aB;rw[Array.find?_eq_none.mpr λe he z=>?_]
   ·rfl
   ·obtain⟨k,h1,_⟩:=hk e he;rcases Yx z with⟨_,e2⟩|⟨j,e2,_⟩
    ·rw[e2]at h1;exact Ab h1
    ·cases e2
def R5(neg:Bool):R2:=λy x H Q=>∃a kvs,y= .non/\x= .ref a/\RdK H a kvs/\Q (.bl neg) H
theorem Ix:Bh X (gh .In) (R5 aD):=by intro pins s σ H y x v u Q I ry rx h;obtain⟨a,kvs,rfl,rfl,e,q⟩:=h;cases ry;cases rx;obtain⟨z,hd,vs,rel,dd⟩:=Bt I.hok e;exact wpAny_in_of (knd:=Lg X.prog X.w) (k:=aB) rfl hd (Hu dd) ⟨.bl aD,H,I.tok _,rfl,q⟩
theorem Lh:Bh X (gh .NotIn) (R5 aC):=by intro pins s σ H y x v u Q I ry rx h;obtain⟨a,kvs,rfl,rfl,e,q⟩:=h;cases ry;cases rx;obtain⟨z,hd,vs,rel,dd⟩:=Bt I.hok e;exact wpAny_notIn_of (knd:=Lg X.prog X.w) (k:=aB) rfl hd (Hu dd) ⟨.bl aC,H,I.tok _,rfl,q⟩
end L2
namespace L2
open PySem PySem.Spec PyProof.Rows
def Li(es:Array DictEntry)(kvs:List (Str×aj)):Prop:=es.size=kvs.length/\∀(i:Nat) (p:Str×aj),kvs[i]? =aA p->∃e t,es[i]? =aA e/\e.key= .str p.1 t/\e.val=p.2
def G7(h:dq)(a:ak)(kvs:List (Str×aj)):Prop:=∃o es ep,h.get? a=aA o/\o.ExactDict/\o.data= .dict es ep/\Li es kvs
def place(kvs:List (Str×aj))(x:Str):Option Nat:=kvs.findIdx? λp=>decide (p.1=x)
theorem Li.find{es:Array DictEntry}{kvs:List (Str×aj)}(h:Li es kvs)(x:Str):(es.findIdx? λe=>e.key.isStr x)=place kvs x:=by
 unfold place;have hA:(es.findIdx? λe=>e.key.isStr x)=es.toList.findIdx? λe=>e.key.isStr x:=by obtain⟨l⟩:=es;simp
 rw[hA];have:∀(es:List DictEntry) (kvs:List (Str×aj)),es.length=kvs.length->(∀(i:Nat) (p:Str×aj),kvs[i]? =aA p->∃e t,es[i]? =aA e/\e.key= .str p.1 t/\e.val=p.2)->
   es.findIdx? (λe=>e.key.isStr x)=kvs.findIdx? λp=>decide (p.1=x):=by
  intro es;induction es with
  |nil=>intro kvs hl _;cases kvs with
   |nil=>rfl
   |cons p r=>cases hl
  |cons e es ih=>
   intro kvs hl hp;cases kvs with
   |nil=>cases hl
   |cons p r=>
    obtain⟨e',t,h1,h2,h3⟩:=hp 0 p rfl;obtain rfl:e=e':=by simpa using h1
    have hk:e.key.isStr x=decide (p.1=x):=by
     rw[h2];show(p.1==x)=_;by_cases z:p.1=x
     ·rw[z];simp
     ·rw[decide_eq_false z];exact beq_eq_false_iff_ne.mpr z
    rw[List.findIdx?_cons,List.findIdx?_cons,hk,ih r (by simpa using hl) (λi q hq=>hp (i+1) q (by simpa using hq))]
 exact this es.toList kvs (by rw[aw];exact h.1) (λi p hp=>by
  obtain⟨e,t,h1,h2⟩:=h.2 i p hp;exact⟨e,t,by rw[b5];exact h1,h2⟩)
section
variable{prog:bu}{w:ck}{A:cj}{E:aj->am->Prop}{s:am}
theorem Zbe{d:ak}{o:Obj}{es:Array DictEntry}{ep:Nat}{kvs:List (Str×aj)}{x:Str}{t:Tok}{n:Int}{Q:Option Nat->am->Prop}(ho:s.heap.get? d=aA o)(hd:o.data= .dict es ep)(hp:Li es kvs)(q:Q (place kvs x) s):
  ba (bp prog w) A (dictFind d (.str x t) n) Q E s:=by
 have hall:(es.all λe=>isExactStrKey e.key)=aC:=by
  rw[Array.all_eq_true];intro i hi;have hi':i<kvs.length:=by rw[<-hp.1];exact hi
  obtain⟨e,t',h1,h2,_⟩:=hp.2 i kvs[i] (by simp[hi']);rw[Array.getElem?_eq_getElem hi]at h1;cases h1;rw[h2];rfl
 unfold dictFind
 try with_reducible refine f9 ?_
 refine ad (wpAny_dictEntries ho hd ?_);dsimp only;rw[if_pos hall];unfold foundByValue;rw[hp.find x];cases hj:place kvs x with
 |none=>rw[hj]at q;exact ag q
 |some j=>rw[hj]at q;obtain⟨hlt,hx,_⟩:=List.findIdx?_eq_some_iff_getElem.mp hj;obtain⟨e,t',h1,h2,h3⟩:=hp.2 j kvs[j] (by simp[hlt]);have hx':kvs[j].1=x:=of_decide_eq_true hx;rw[hx']at h2;dsimp only;rw[h1];dsimp only;refine ad (wpAny_dictEpoch ho hd ?_);rw[h2];refine ad (SeqAt.EqAt.str_str x t' x t prog w _ _ ?_);refine ad (wpAny_dictEpoch ho hd ?_);rw[if_neg (by simp)];simp only[beq_self_eq_true,if_true];exact ad (wpAny_rule (ag q))
end
inductive SHits(A:cj)(s:am)(kb:List (Str×aj)):List (Str×aj)->Bool->Prop where
 |nil:SHits A s kb [] aC
 |miss {k:Str} {v:aj} {r:List (Str×aj)}:place kb k=aB->SHits A s kb ((k,v)::r) aD
 |hit {k:Str} {v:aj} {r:List (Str×aj)} {j:Nat} {p:Str×aj} {e b:Bool}:place kb k=aA j->kb[j]? =aA p->SeqAt.EqAt A s v p.2 e->SHits A s kb r b->SHits A s kb ((k,v)::r) (e&&b)
section
variable{prog:bu}{w:ck}{A:cj}{E:aj->am->Prop}{s:am}
theorem Ac{nm:String}{a b:ak}{ka kb:List (Str×aj)}{r:Bool}{Q:Bool->am->Prop}(ha:(a==d8)=aD)(hb:(b==d8)=aD)(da:G7 s.heap a ka)(db:G7 s.heap b kb)
  (hits:ka.length=kb.length->SHits A s kb ka r) (q:Q (ka.length==kb.length&&r) s):ba (bp prog w) A (Builtin.Dict.samePairs nm a b) Q E s:=by
 obtain⟨oa,es,ep,ga,_,dta,pa⟩:=da;obtain⟨ob,es',ep',gb,_,dtb,pb⟩:=db;have la:=pa.1;have lb:=pb.1;unfold Builtin.Dict.samePairs Builtin.Dict.showsAll;rw[if_neg (by rw[ha];exact bh),if_neg (by rw[hb];exact bh)];refine ad (ag (ad (ag (ad (wpAny_dictEntries ga dta ?_)))));refine ad (wpAny_dictEntries gb dtb ?_);by_cases hz:es.size=es'.size
 ·have hl:ka.length=kb.length:=by omega
  have q':Q r s:=by simpa[hl]using q
  have hh:=hits hl;rw[if_neg (by rw[hz];simp)];refine ad (wpAny_dictEpoch ga dta (ad ?_));rw[Std.Legacy.Range.forIn_eq_forIn_range'];simp only[Std.Legacy.Range.size,Nat.sub_zero,Nat.add_sub_cancel,Nat.div_one];refine wpAny_forIn_list _ (λrest x s'=>s'=s/\x=(aB,())/\∃i,rest=List.range' i (es.size- i)/\i<=es.size/\SHits A s kb (ka.drop i) r) _ ?_ ?_ _ _ ⟨rfl,rfl,0,by simp,dn _,hh⟩
  ·rintro x rest y s' ⟨rfl,rfl,i,hr,hi,hS⟩;have hlt:i<es.size:=by
    rcases gx i es.size with z|z
    ·exact z
    ·rw[Nat.sub_eq_zero_of_le z]at hr;cases hr
   rw[show es.size- i=(es.size- (i+1))+1 by omega,List.range'_succ]at hr;injection hr with hx hrest;subst hx;have hlk:x<ka.length:=by omega
   obtain⟨e,t,h1,h2,h3⟩:=pa.2 x ka[x] (by simp[hlk]);rw[List.drop_eq_getElem_cons hlk]at hS;refine ad (wpAny_dictEntries ga dta ?_);rw[h1];show ba _ _ (holding [e.key,e.val] _ >>=_) _ _ _;rw[h2];refine ad (f9 (ad (Zbe gb dtb pb ?_)));generalize hk:ka[x]=p at hS h2 h3⊢;obtain⟨k,v⟩:=p;cases hS with
   |miss hn=>rw[hn];refine ag ?_;show ba _ _ (if(!aD)=aC then _ else _) _ _ _;rw[if_pos (by decide)];exact ag (ag q')
   | @hit _ _ _ j p' eb bb hn hp he hr'=>
    rw[hn];obtain⟨f,t',g1,g2,g3⟩:=pb.2 j p' hp;refine ad (wpAny_dictEntries gb dtb ?_);rw[g1];rw[show e.val=v from h3];dsimp only;rw[g3];refine f9 (he prog w _ _ ?_);cases eb with
    |false=>rw[Bool.false_and]at q';show ba _ _ (if(!aD)=aC then _ else _) _ _ _;rw[if_pos (by decide)];exact ag (ag q')
    |true=>show ba _ _ (if(!aC)=aC then _ else _) _ _ _;rw[if_neg (by decide)];refine ad (wpAny_dictEpoch ga dta ?_);rw[if_neg (by simp)];exact ag ⟨rfl,rfl,x+1,hrest,hlt,by rw[Bool.true_and];exact hr'⟩
  ·rintro x s' ⟨rfl,rfl,i,hr,hi,hS⟩;have e:i=es.size:=by
    rcases gx i es.size with z|z
    ·rw[show es.size- i=(es.size- (i+1))+1 by omega,List.range'_succ]at hr;cases hr
    ·omega
   rw[e,la,List.drop_length]at hS;cases hS;exact ag q'
 ·rw[if_pos (by simpa using hz)];have hf:(ka.length==kb.length)=aD:=by rw[<-la,<-lb];simpa using hz
  rw[hf,Bool.false_and]at q;exact ad (wpAny_rule (ag q))
end
section
variable{A:cj}{s:am}{a b:ak}{ka kb:List (Str×aj)}{r:Bool}
theorem G7.typeIs(d:G7 s.heap a ka):s.TypeIs (.ref a) "dict":=let⟨o,_,_,ho,hc,_⟩:=d;⟨o,ho,hc.1⟩
theorem Pi(ha:(a==d8)=aD)(hb:(b==d8)=aD)(da:G7 s.heap a ka)(db:G7 s.heap b kb)(hu:A.units<dw)(hits:ka.length=kb.length->SHits A.in1 s kb ka r):SeqAt.RcAt A s (.ref a) (.ref b) (ka.length==kb.length&&r):=λprog w E Q q=>by refine wpAny_richCompare_same_room (op:=.Eq) da.typeIs db.typeIs PySem.F.slot_dict_eq (c5 PySem.F.slot_dict_eq da.typeIs PySem.F.entry_dict_eq ?_ (PySem.F.args_dict_eq_2 _ _)) hu;show ba _ _ (Builtin.Dict.dictSlotArgs "__eq__" ⟨[.ref a,.ref b],[]⟩>>=_) _ _ s;refine ad ?_;unfold Builtin.Dict.dictSlotArgs;refine ad (wpAny_notOrdered_dict da.typeIs ?_);show ba _ _ (pure (bv a,bv b)) _ _ s;refine ag (ad (gg (T:="dict") db.typeIs PySem.F.sub_dict_dict ?_));simp only[du,bg,if_false];refine ad (ag (ad (ag (ad (Ac ha hb da db hits ?_)))));exact ag ⟨_,rfl,(λx=>nomatch x),by simpa using q⟩
theorem Ad(ha:(a==d8)=aD)(hb:(b==d8)=aD)(da:G7 s.heap a ka)(db:G7 s.heap b kb)(hu:A.units<dw)(hits:ka.length=kb.length->SHits A.in1 s kb ka r):SeqAt.RcNeAt A s (.ref a) (.ref b) (!(ka.length==kb.length&&r)):=λprog w E Q q=>by refine wpAny_richCompare_same_room (op:=.NotEq) da.typeIs db.typeIs PySem.F.slot_dict_ne (c5 PySem.F.slot_dict_ne da.typeIs PySem.F.entry_dict_ne ?_ (PySem.F.args_dict_ne_2 _ _)) hu;show ba _ _ (Builtin.Dict.dictSlotArgs "__ne__" ⟨[.ref a,.ref b],[]⟩>>=_) _ _ s;refine ad ?_;unfold Builtin.Dict.dictSlotArgs;refine ad (wpAny_notOrdered_dict da.typeIs ?_);show ba _ _ (pure (bv a,bv b)) _ _ s;refine ag (ad (gg (T:="dict") db.typeIs PySem.F.sub_dict_dict ?_));simp only[du,bg,if_false];refine ad (ag (ad (ag (ad (Ac ha hb da db hits ?_)))));exact ag ⟨_,rfl,(λx=>nomatch x),by simpa using q⟩
end
end L2
namespace DL
open PySem PySem.Spec PyProof.Rows L2
variable{K:af}
@[simp] def strK?:List Key->Option (List Str)
 | []=>aA []
 | .inr x::r=>(strK? r).bind λt=>aA (x::t)
 |_=>aB
@[simp] def Lj(f:D->D->Option Bool)(ys:List Str)(us:List D):List Str->List D->Option Bool
 |x::xs,v::vs=>match look ys us x with
  |none=>aA aD
  |some u=>(f v u).bind λb=>(Lj f ys us xs vs).bind λc=>aA (b&&c)
 |_,_=>aA aC
@[simp] def Cd(f:D->D->Option Bool):D->D->Option Bool
 | .dK ks vs,.dK ks' vs'=>(strK? ks).bind λxs=>(strK? ks').bind λys=>if xs.length=ys.length then Lj f ys vs' xs vs else aA aD
 |d1,d2=>Uy f d1 d2
@[simp] def M7:Nat->D->D->Option Bool
 |0=>λ_ _=>aB
 |n+1=>Cd (M7 n)
theorem Hv{P:bu}{w:ck}:∀{es:List DictEntry} {kvs:List (Key×aj)} {xs:List Str},Pairs (Zk P w) es kvs->strK? (kvs.map (·.1))=aA xs->
  ∃skv:List (Str×aj),skv.map (·.1)=xs/\skv.map (·.2)=kvs.map (·.2)/\es.length=skv.length/\∀(i:Nat) (p:Str×aj),skv[i]? =aA p->∃e t,es[i]? =aA e/\e.key= .str p.1 t/\e.val=p.2
 |_,_,_,.nil,e=>by cases e;exact⟨[],rfl,rfl,rfl,λi p h=>by simp at h⟩
 |_,_,_,@Pairs.cons _ _ _ _ _ en kv es kvs hi hv t,e=>by
  obtain⟨k,v⟩:=kv;cases k with
  |inl i=>cases e
  |inr x=>
   have e:(strK? (kvs.map (·.1))).bind (λt=>aA (x::t))=aA _:=e;obtain⟨xs,e1,e2⟩:=aa.mp e;cases e2;obtain⟨skv,h1,h2,h3,h4⟩:=Hv t e1;refine⟨(x,v)::skv,by rw[av,h1],by rw[av,av,h2],by rw[bn,bn,h3],λi p hp=>?_⟩;cases i with
   |zero=>
    obtain rfl:(x,v)=p:=by simpa using hp
    rcases Z0 (show Bm (.inr x) en.key=aC from hi)with⟨j,t',e3,_⟩|⟨y,t',e3,e4⟩
    ·cases e3
    ·cases e3;exact⟨en,t',rfl,e4,hv⟩
   |succ i=>exact h4 i p (by simpa using hp)
theorem Ll:∀{kvs:List (Key×V)} {vs:List (Key×aj)},KV kvs vs->vs.map (·.1)=kvs.map (·.1)/\Zw (kvs.map (·.2)) (vs.map (·.2))
 |_,_,.nil=>⟨rfl,.nil⟩
 |_,_,.cons h t=>⟨by rw[av,av,h.1,(Ll t).1],.cons h.2 (Ll t).2⟩
section
variable{X:Cx}{pins:List (ak×Obj)}{σ:L2.St}{F H:Hp}{s:am}
theorem Ae(I:Inv X pins σ H s){a:ak}{kvs:List (Key×V)}{xs:List Str}(ha:HK H a kvs)(e:strK? (kvs.map (·.1))=aA xs):
  (a==d8)=aD/\∃skv:List (Str×aj),G7 s.heap a skv/\skv.map (·.1)=xs/\Zw (kvs.map (·.2)) (skv.map (·.2))/\(kvs.map (·.1)).Nodup:=by
 obtain⟨z,hd,vs,rel,dd⟩:=Hh I.hok ha;obtain⟨k1,k2⟩:=Ll rel;obtain⟨o,es,ep,ho,hc,hdt,_,hp,nd⟩:=dd;rw[<-k1]at e;obtain⟨skv,h1,h2,h3,h4⟩:=Hv hp e;refine⟨hd,skv,⟨o,es,ep,ho,hc,hdt,by rw[<-h3];simp,λi p hpp=>?_⟩,h1,by rw[h2];exact k2,by rw[<-k1];exact nd⟩;obtain⟨en,t,g1,g2⟩:=h4 i p hpp;exact⟨en,t,by rw[<-b5];exact g1,g2⟩
theorem C9(x:Str):∀(skv:List (Str×aj)) (us:List D) (Us:List V),Reps X.K F us Us->Zw Us (skv.map (·.2))->match look (skv.map (·.1)) us x with
  |none=>place skv x=aB
  |some u=>∃j p U,place skv x=aA j/\skv[j]? =aA p/\Rep X.K F u U/\Zm U p.2
 | [],_,_,r,v=>by cases v;cases r;rfl
 |p::skv,_,_,r,v=>by
  cases v with
  | @cons U u' Us us' hU tU=>
  cases r with
  | @cons d v' ds vs' h t=>
   have ih:=C9 x skv ds Us t tU;show match(if p.1=x then aA d else look (skv.map (·.1)) ds x)with
    |none=>place (p::skv) x=aB
    |some u=>∃j q U,place (p::skv) x=aA j/\(p::skv)[j]? =aA q/\Rep X.K F u U/\Zm U q.2
   have hpl:place (p::skv) x=if p.1=x then aA 0 else(place skv x).map (· +1):=by unfold place;rw[List.findIdx?_cons];by_cases e:p.1=x<;> simp[e]
   by_cases e:p.1=x
   ·rw[if_pos e,hpl,if_pos e];exact⟨0,p,U,rfl,rfl,h,hU⟩
   ·rw[if_neg e,hpl,if_neg e];cases hl:look (skv.map (·.1)) ds x with
    |none=>rw[hl]at ih;dsimp only at ih⊢;rw[ih];rfl
    |some u=>rw[hl]at ih;obtain⟨j,q,U',h1,h2,h3,h4⟩:=ih;exact⟨j+1,q,U',by rw[h1];rfl,by simpa using h2,h3,h4⟩
theorem Hw{A:cj}{f:D->D->Option Bool}(ih:∀d1 d2 b x y v u,Rep X.K F d1 x->Zm x v->Rep X.K F d2 y->Zm y u->f d1 d2=aA b->SeqAt.EqAt A s v u b){skv2:List (Str×aj)}{us:List D}{Us:List V}(ru:Reps X.K F us Us)(vu:Zw Us (skv2.map (·.2))):
  ∀(skv:List (Str×aj)) (vs:List D) (Vs:List V) (r:Bool),Reps X.K F vs Vs->Zw Vs (skv.map (·.2))->Lj f (skv2.map (·.1)) us (skv.map (·.1)) vs=aA r->SHits A s skv2 skv r
 | [],_,_,_,r,v,e=>by cases v;cases r;cases e;exact .nil
 |p::skv,_,_,_,r,v,e=>by
  obtain⟨k,w⟩:=p;cases v with
  | @cons V0 u' Vs us' hV tV=>
  cases r with
  | @cons d v' ds vs' h t=>
   have lp:=C9 (X:=X) (F:=F) k skv2 us Us ru vu;have e:(match look (skv2.map (·.1)) us k with
    |none=>aA aD
    |some u=>(f d u).bind λb=>(Lj f (skv2.map (·.1)) us (skv.map (·.1)) ds).bind λc=>aA (b&&c))=aA _:=e
   cases hl:look (skv2.map (·.1)) us k with
   |none=>rw[hl]at lp e;cases e;exact .miss lp
   |some u=>rw[hl]at lp e;obtain⟨j,q,U,h1,h2,h3,h4⟩:=lp;obtain⟨b,e1,e2⟩:=aa.mp e;obtain⟨c,e3,e4⟩:=aa.mp e2;cases e4;exact .hit h1 h2 (ih _ _ _ _ _ _ _ h hV h3 h4 e1) (Hw ih ru vu skv ds Vs c t tV e3)
end
end DL
namespace DL
open PySem PySem.Spec PyProof.Rows L2
variable{K:af}
theorem Iy:∀(skv:List (Str×aj)),(skv.map (·.1)).Nodup->∀q∈skv,∃j,place skv q.1=aA j/\skv[j]? =aA q
 | [],_,_,h=>nomatch h
 |p::r,nd,q,h=>by
  obtain⟨n1,n2⟩:=fq.mp nd;have hpl:place (p::r) q.1=if p.1=q.1 then aA 0 else(place r q.1).map (· +1):=by unfold place;rw[List.findIdx?_cons];by_cases e:p.1=q.1<;> simp[e]
  rcases bo.mp h with e|e
  ·subst e;exact⟨0,by rw[hpl,if_pos rfl],rfl⟩
  ·obtain⟨j,h1,h2⟩:=Iy r n2 q e;have hne:¬p.1=q.1:=λz=>n1 (a6.mpr ⟨q,e,z.symm⟩);exact⟨j+1,by rw[hpl,if_neg hne,h1];rfl,by simpa using h2⟩
theorem Pj:∀{ks:List Key} {xs:List Str},strK? ks=aA xs->ks=xs.map b8
 | [],_,e=>by cases e;rfl
 | .inr x::ks,_,e=>by obtain⟨t,e1,e2⟩:=aa.mp e;cases e2;rw[Pj e1];rfl
 | .inl i::ks,_,e=>by cases e
theorem Vr{ks:List Key}{xs:List Str}(e:strK? ks=aA xs)(nd:ks.Nodup):xs.Nodup:=by rw[Pj e]at nd;have z:(xs.map b8:List Key).Pairwise (· ≠ ·):=nd;rw[df]at z;exact z.imp λh e=>h (by rw[e])
section
variable{X:Cx}{pins:List (ak×Obj)}{σ:L2.St}{F H:Hp}{s:am}
theorem Iz{f:D->D->Option Bool}(ih:∀(d1 d2:D) (b:Bool) (x y:V) (v:aj),Rep X.K F d1 x->Zm x v->Rep X.K F d2 y->Zm y v->f d1 d2=aA b->b=aC){skv:List (Str×aj)}{us:List D}{Us:List V}(ru:Reps X.K F us Us)(vu:Zw Us (skv.map (·.2))):
  ∀(skv1:List (Str×aj)) (vs:List D) (Vs:List V) (r:Bool),(∀q∈skv1,∃j,place skv q.1=aA j/\skv[j]? =aA q)->Reps X.K F vs Vs->Zw Vs (skv1.map (·.2))->Lj f (skv.map (·.1)) us (skv1.map (·.1)) vs=aA r->r=aC
 | [],_,_,_,_,r,v,e=>by cases v;cases r;cases e;rfl
 |p::skv1,_,_,_,hs,r,v,e=>by
  obtain⟨k,w⟩:=p;cases v with
  | @cons V0 u' Vs us' hV tV=>
  cases r with
  | @cons d v' ds vs' h t=>
   have lp:=C9 (X:=X) (F:=F) k skv us Us ru vu;obtain⟨j,hj1,hj2⟩:=hs (k,w) ah;have e:(match look (skv.map (·.1)) us k with
    |none=>aA aD
    |some u=>(f d u).bind λb=>(Lj f (skv.map (·.1)) us (skv1.map (·.1)) ds).bind λc=>aA (b&&c))=aA _:=e
   cases hl:look (skv.map (·.1)) us k with
   |none=>rw[hl]at lp;rw[show place skv k=aA j from hj1]at lp;cases lp
   |some u=>rw[hl]at lp e;obtain⟨j',q,U,h1,h2,h3,h4⟩:=lp;rw[show place skv k=aA j from hj1]at h1;cases h1;rw[hj2]at h2;cases h2;obtain⟨b,e1,e2⟩:=aa.mp e;obtain⟨c,e3,e4⟩:=aa.mp e2;cases e4;rw[ih _ _ _ _ _ _ h hV h3 h4 e1,Iz ih ru vu skv1 ds Vs c (λq hq=>hs q (ar _ hq)) t tV e3];rfl
theorem Af(I:Inv X pins σ H s)(le:Ze F H):∀(n:Nat) (d1 d2:D) (b:Bool) (x y:V) (v:aj),Rep X.K F d1 x->Zm x v->Rep X.K F d2 y->Zm y v->M7 n d1 d2=aA b->b=aC
 |0,_,_,_,_,_,_,_,_,_,_,e=>by cases e
 |n+1,d1,d2,b,x,y,v,r1,v1,r2,v2,e=>by
  unfold M7 Cd at e;split at e
  ·cases r1 with
   | @dK a ks ds kvs ep1 h1 e1 rr1=>
   cases r2 with
   | @dK a' ks' ds' kvs' ep2 h2 e2 rr2=>
   cases v1;cases(show bv a=bv a' from v2);rw[h1]at h2;cases h2;subst e1 e2;obtain⟨xs,f1,e⟩:=aa.mp e;obtain⟨ys,f2,e⟩:=aa.mp e;rw[f1]at f2;cases f2;rw[if_pos rfl]at e;obtain⟨_,skv,_,hk,hv,nd⟩:=Ae I ⟨_,le _ _ h1⟩ f1;have ndx:=Vr f1 nd;rw[<-hk]at e ndx;exact Iz (Af I le n) rr2 hv skv _ _ b (Iy skv ndx) rr1 hv e
  ·exact Iv I le (Af I le n) d1 d2 b x y v r1 v1 r2 v2 e
theorem rcM(I:Inv X pins σ H s)(le:Ze F H){A:cj}{f:D->D->Option Bool}{d1 d2:D}{b:Bool}{x y:V}{v u:aj}
  (ih:∀d1 d2 b x y v u,Rep X.K F d1 x->Zm x v->Rep X.K F d2 y->Zm y u->f d1 d2=aA b->SeqAt.EqAt A.in1 s v u b) (r1:Z7 X.K F H d1 x) (v1:Zm x v) (r2:Z7 X.K F H d2 y) (v2:Zm y u)
  (e:Cd f d1 d2=aA b) (hu:A.units<dw) (hr:Yd x=aD\/Yd y=aD):(∃a c,v= .ref a/\u= .ref c)/\SeqAt.RcAt A s v u b/\SeqAt.RcNeAt A s v u (!b):=by
 unfold Cd at e;split at e
 ·obtain⟨a1,kvs1,rfl,ha1,rfl,rr1⟩:=r1.dK le;obtain⟨a2,kvs2,rfl,ha2,rfl,rr2⟩:=r2.dK le;cases v1;cases v2;obtain⟨xs,f1,e⟩:=aa.mp e;obtain⟨ys,f2,e⟩:=aa.mp e;obtain⟨m1,skv1,sd1,hk1,hv1,_⟩:=Ae I ha1 f1;obtain⟨m2,skv2,sd2,hk2,hv2,_⟩:=Ae I ha2 f2;have l1:skv1.length=xs.length:=by rw[<-hk1,ao]
  have l2:skv2.length=ys.length:=by rw[<-hk2,ao]
  refine⟨⟨_,_,rfl,rfl⟩,?_⟩;split at e
  ·rename_i hl;rw[<-hk1,<-hk2]at e;have hits:skv1.length=skv2.length->SHits A.in1 s skv2 skv1 b:=λ_=>Hw ih rr2 hv2 skv1 _ _ b rr1 hv1 e;have hb:b=(skv1.length==skv2.length&&b):=by rw[l1,l2,hl];simp
   rw[hb];exact⟨Pi m1 m2 sd1 sd2 hu hits,Ad m1 m2 sd1 sd2 hu hits⟩
  ·rename_i hl;cases e;have hits:skv1.length=skv2.length->SHits A.in1 s skv2 skv1 aD:=λz=>absurd (by omega) hl;have hb:aD=(skv1.length==skv2.length&&aD):=by simp
   rw[hb];exact⟨Pi m1 m2 sd1 sd2 hu hits,Ad m1 m2 sd1 sd2 hu hits⟩
 ·exact rcN I le ih r1 v1 r2 v2 e hu hr
theorem Vt(I:Inv X pins σ H s)(le:Ze F H):∀(n:Nat) (A:cj) (d1 d2:D) (b:Bool) (x y:V) (v u:aj),A.units+n<dw->Rep X.K F d1 x->Zm x v->Rep X.K F d2 y->Zm y u->M7 n d1 d2=aA b->SeqAt.EqAt A s v u b
 |0,_,_,_,_,_,_,_,_,_,_,_,_,_,e=>by cases e
 |n+1,A,d1,d2,b,x,y,v,u,hu,r1,v1,r2,v2,e=>by
  by_cases hf:Yd x=aC/\Yd y=aC
  ·have e':eqS d1 d2=aA b:=by
    unfold M7 Cd at e;split at e
    ·cases r1;cases hf.1
    ·unfold Uy at e;split at e
     ·cases r1;cases hf.1
     ·cases r1;cases hf.1
     ·cases r1;cases hf.1
     ·cases r1;cases hf.1
     ·exact e
   obtain⟨f1,f2,rfl⟩:=G0 (H:=H) e' (Z7.of r1) (Z7.of r2);exact Vb v1 v2 f1 f2
  ·have hf':Yd x=aD\/Yd y=aD:=by
    cases h1:Yd x with
    |false=>exact .inl rfl
    |true=>cases h2:Yd y with
     |false=>exact .inr rfl
     |true=>exact absurd ⟨h1,h2⟩ hf
   obtain⟨⟨a,c,rfl,rfl⟩,h1,_⟩:=rcM I le (A:=A) (f:=M7 n) (λd1 d2 b x y v u q1 w1 q2 w2 e=>Vt I le n A.in1 d1 d2 b x y v u (by have:A.in1.units=A.units+1:=rfl;omega) q1 w1 q2 w2 e) (Z7.of r1) v1 (Z7.of r2) v2 e (by omega) hf';by_cases hac:a=c
   ·subst hac;rw[Af I le (n+1) d1 d2 b x y _ r1 v1 r2 v2 e];exact SeqAt.EqAt.same _
   ·exact SeqAt.EqAt.of_refs hac h1
def Zil(K:af)(neg:Bool):R2:=λx y H Q=>∃F d1 d2 b,Ze F H/\Z7 K F H d1 x/\Z7 K F H d2 y/\M7 48 d1 d2=aA b/\(Yd x=aD\/Yd y=aD)/\Q (.bl (if neg then !b else b)) H
theorem Zm5(hu:X.A.units+64<dw):Bh X (gh .Eq) (Zil X.K aD):=by intro pins s σ H x y v u Q I rx ry h;obtain⟨F,d1,d2,b,le,r1,r2,e,hf,q⟩:=h;obtain⟨_,h1,_⟩:=rcM I le (A:=X.A) (f:=M7 47) (λd1 d2 b x y v u q1 w1 q2 w2 e=>Vt I le 47 X.A.in1 d1 d2 b x y v u (by have:X.A.in1.units=X.A.units+1:=rfl;omega) q1 w1 q2 w2 e) r1 rx r2 ry e (by omega) hf;exact h1 X.prog X.w X.xe _ ⟨.bl b,H,I,rfl,q⟩
theorem Zm6(hu:X.A.units+64<dw):Bh X (gh .NotEq) (Zil X.K aC):=by intro pins s σ H x y v u Q I rx ry h;obtain⟨F,d1,d2,b,le,r1,r2,e,hf,q⟩:=h;obtain⟨_,_,h1⟩:=rcM I le (A:=X.A) (f:=M7 47) (λd1 d2 b x y v u q1 w1 q2 w2 e=>Vt I le 47 X.A.in1 d1 d2 b x y v u (by have:X.A.in1.units=X.A.units+1:=rfl;omega) q1 w1 q2 w2 e) r1 rx r2 ry e (by omega) hf;exact h1 X.prog X.w X.xe _ ⟨.bl !b,H,I,rfl,q⟩
end
end DL
namespace DL
open PySem PySem.Spec PyProof.Rows L2
variable{K:af}
@[simp] def eqY(d1 d2:D):Option SV:=if d1.isFlat=true/\d2.isFlat=true then eqD d1 d2 else(M7 48 d1 d2).bind λb=>some (.fz (.bl b))
@[simp] def neY(d1 d2:D):Option SV:=if d1.isFlat=true/\d2.isFlat=true then neD d1 d2 else(M7 48 d1 d2).bind λb=>some (.fz (.bl !b))
@[simp] def inY(d1 d2:D):Option SV:=match d1,d2 with
 | .non,.dK _ _=>aA (.fz (.bl aD))
 |_,_=>inX d1 d2
@[simp] def Vu(d1 d2:D):Option SV:=match d1,d2 with
 | .non,.dK _ _=>aA (.fz (.bl aC))
 |_,_=>Vp d1 d2
section
variable{Z:Ent K}
theorem Hx{F H:Hp}{d1 d2:D}{x y:V}(r1:Z7 K F H d1 x)(r2:Z7 K F H d2 y)(hf:¬(d1.isFlat=aC/\d2.isFlat=aC)):Yd x=aD\/Yd y=aD:=by
 cases h1:d1.isFlat with
 |false=>exact .inl (Qr r1 h1)
 |true=>cases h2:d2.isFlat with
  |false=>exact .inr (Qr r2 h2)
  |true=>exact absurd ⟨h1,h2⟩ hf
theorem Zq7:Yw Z (λx y H Q=>rEq x y H Q\/Zil K aD x y H Q) eqY:=by
 intro F H σ δ own x y d1 d2 sv Q s r1 r2 e k;unfold eqY at e;split at e
 ·exact .inl (Zqd F H σ δ own x y d1 d2 sv Q s r1 r2 e k)
 ·rename_i hf;obtain⟨b,e1,e2⟩:=aa.mp e;cases e2;exact .inr ⟨F,d1,d2,b,s.le,r1,r2,e1,Hx r1 r2 hf,k.fz s (.bl _)⟩
theorem Zq8:Yw Z (λx y H Q=>rNe x y H Q\/Zil K aC x y H Q) neY:=by
 intro F H σ δ own x y d1 d2 sv Q s r1 r2 e k;unfold neY at e;split at e
 ·exact .inl (Zqe F H σ δ own x y d1 d2 sv Q s r1 r2 e k)
 ·rename_i hf;obtain⟨b,e1,e2⟩:=aa.mp e;cases e2;exact .inr ⟨F,d1,d2,b,s.le,r1,r2,e1,Hx r1 r2 hf,k.fz s (.bl _)⟩
theorem Zq9:Yw Z (λx y H Q=>((∃i j,x= .str i/\y= .str j/\Q (.bl (!(c8 j i 0 j.length 1).isEmpty)) H)\/Zd8 x y H Q)\/R5 aD x y H Q) inY:=by
 intro F H σ δ own x y d1 d2 sv Q s r1 r2 e k;unfold inY at e;split at e
 ·cases e;obtain⟨a,kvs,rfl,ha,_,_⟩:=r2.dK s.le;exact .inr ⟨a,kvs,r1.non,rfl,ha.rd,k.fz s (.bl _)⟩
 ·exact .inl (Zq0 F H σ δ own x y d1 d2 sv Q s r1 r2 e k)
theorem Zeh:Yw Z (λx y H Q=>((∃i j,x= .str i/\y= .str j/\Q (.bl (!(!(c8 j i 0 j.length 1).isEmpty))) H)\/G4 x y H Q)\/R5 aC x y H Q) Vu:=by
 intro F H σ δ own x y d1 d2 sv Q s r1 r2 e k;unfold Vu at e;split at e
 ·cases e;obtain⟨a,kvs,rfl,ha,_,_⟩:=r2.dK s.le;exact .inr ⟨a,kvs,r1.non,rfl,ha.rd,k.fz s (.bl _)⟩
 ·exact .inl (Zeb F H σ δ own x y d1 d2 sv Q s r1 r2 e k)
end
section
variable{X:Cx}{Z:Ent X.K}{a b c:ci}{fa fb fc:FE}{pos:Pos}
theorem Zra(hv:X.A.units+64<dw)(ha:PE X a (Zc Z fa))(hb:PE X b (Zc Z fb)):PE X (.Compare a [.Eq] [b] pos) (Zc Z (Zt eqY fa fb)):=Zdu (Zcn.or (Zm5 hv)) Zq7 ha hb (C4 _)
theorem Zkw(hv:X.A.units+64<dw)(ha:PE X a (Zc Z fa))(hb:PE X b (Zc Z fb)):PT X (.Compare a [.NotEq] [b] pos) (Yh Z (Y5 (Zt neY fa fb))):=T0 (Zj5.or (Zm6 hv)) Zq8 ha hb (C4 _)
end
end DL
namespace DL
open PySem PySem.Spec PyProof.Rows L2
variable{K:af}
theorem SR.changeT{Z:Ent K}{F H:Hp}{σ:L2.St}{δ:Yg}{own:Nat->Zo}{i:Nat}{sv sv' svT:SV}{a:ak}{o o':HO}{v vT:V}{ns' nsT:Zo}(s:SR Z F H σ δ own)(t:TmpOk Z F H own svT vT nsT)(e:δ[i]? =aA (aA sv))(hv:σ[i]? =aA (aA v))
  (ha:(a,o)∈own i) (hs:Shape K F sv' v ns') (hns:∀p∈ns',p=(a,o')\/(p∈own i/\p.1≠a)\/p∈nsT) (nd:(Cu ns').Nodup):SR Z F (Z5 H a o') σ (δ.set i (aA sv')) (put own i ns'):=by
 obtain⟨fa,ha0,hHa⟩:=s.ok i (a,o) ha;have hi:i<δ.length:=(ax.mp e).1;refine⟨λb u eb=>?_,s.fro,λb u eb=>?_,by rw[List.length_set];exact s.len,λj sw ej=>?_,λj=>?_,λj p hp=>?_,λj k p q hjk hp hq=>?_⟩
 ·rw[Zn λz=>by rw[z]at eb;rw[fa]at eb;cases eb];exact s.le b u eb
 ·rw[Zn λz=>by rw[z]at eb;rw[ha0]at eb;cases eb];exact s.old b u eb
 ·by_cases hj:j=i
  ·subst hj;rw[d5 hi]at ej;cases ej;rw[Z4];exact⟨v,hv,hs⟩
  ·rw[d6 (Ne.symm hj)]at ej;rw[Yb hj];exact s.at' j sw ej
 ·by_cases hj:j=i
  ·subst hj;rw[Z4];exact nd
  ·rw[Yb hj];exact s.nod j
 ·by_cases hj:j=i
  ·subst hj;rw[Z4]at hp;rcases hns p hp with z|⟨z,ne⟩|z
   ·subst z;exact⟨fa,ha0,Z3⟩
   ·obtain⟨x,y,w⟩:=s.ok j p z;exact⟨x,y,by rw[Zn ne];exact w⟩
   ·obtain⟨x,y,w⟩:=t.ok p z;exact⟨x,y,by rw[Zn (t.sep j p (a,o) z ha)];exact w⟩
  ·rw[Yb hj]at hp;obtain⟨x,y,w⟩:=s.ok j p hp;exact⟨x,y,by rw[Zn (s.sep j i p (a,o) hj hp ha)];exact w⟩
 ·have far:∀(l:Nat) (r q:ak×HO),l≠i->r∈ns'->q∈own l->r.1≠q.1:=λl r q hl hr hq=>by
   rcases hns r hr with z|⟨z,_⟩|z
   ·subst z;exact s.sep i l (a,o) q (Ne.symm hl) ha hq
   ·exact s.sep i l r q (Ne.symm hl) z hq
   ·exact t.sep l r q z hq
  by_cases hj:j=i
  ·subst hj;rw[Z4]at hp;rw[Yb (Ne.symm hjk)]at hq;exact far k p q (Ne.symm hjk) hp hq
  ·by_cases hk:k=i
   ·subst hk;rw[Z4]at hq;rw[Yb hj]at hp;exact λz=>far j q p hj hq hp z.symm
   ·rw[Yb hj]at hp;rw[Yb hk]at hq;exact s.sep j k p q hjk hp hq
theorem Kids.snoc{F:Hp}:∀{xss:List (List D)} {ws:List V} {ns:Zo} {xs:List D} {b:ak} {vs:List V},Kids K F xss ws ns->Reps K F xs vs->Kids K F (xss++[xs]) (ws++[.ref b]) (ns++[(b,.lst vs)])
 |_,_,_,_,_,_,.nil,r=>.cons r .nil
 |_,_,_,_,_,_,.cons h t,r=>.cons h (t.snoc r)
section
variable{Z:Ent K}{H:Hp}{σ:L2.St}{Q:VK}{E:Yq}
@[simp] def Zxu:FE:=λδ=>some (.tmp (.oN [] []),δ)
@[simp] def Zxv(i j:Nat):FS:=λδ=>match δ[i]?,δ[j]? with
 |some (aA (.oN ks xss)),aA (aA (.fz kd))=>kd.key?.bind λk=>if(ks.any λx=>decide (x=k))=aD/\xss.length<a7 then aA (.nx (δ.set i (aA (.oN (ks++[k]) (xss++[[]])))))else aB
 |_,_=>aB
theorem Kids.length{F:Hp}:∀{xss:List (List D)} {ws:List V} {ns:Zo},Kids K F xss ws ns->xss.length=ws.length
 |_,_,_,.nil=>rfl
 |_,_,_,.cons _ t=>by rw[bn,bn,t.length]
end
theorem Kids.ref{F:Hp}:∀{xss:List (List D)} {ws:List V} {ns:Zo} {p:Nat} {v:V},Kids K F xss ws ns->ws[p]? =aA v->∃b,v= .ref b
 |_,_,_,_,_,.nil,e=>by simp at e
 |_,_,_,0,_,.cons _ _,e=>by simp at e;exact⟨_,e.symm⟩
 |_,_,_,p+1,_,.cons _ t,e=>t.ref (p:=p) (by simpa using e)
@[simp] def Zei:List Key->Key->Option Nat
 | [],_=>aB
 |a::r,k=>if a=k then aA 0 else(Zei r k).map (· +1)
section
variable{Z:Ent K}{H:Hp}{σ:L2.St}{Q:VK}{E:Yq}
@[simp] def Zxw(i j:Nat)(fe:FE):FS:=λδ=>match δ[i]?,δ[j]? with
 |some (aA (.oN ks _)),aA (aA (.fz kd))=>kd.key?.bind λk=>(Zei ks k).bind λp=>(fe δ).bind λq=>(frz q.1 q.2).bind λr=>match r.2[i]? with
  |some (aA (.oN ks' xss))=>if ks'=ks then(xss[p]?).bind λxs=>if xs.length<a7 then aA (.nx (r.2.set i (aA (.oN ks (xss.set p (xs++[r.1]))))))else aB else aB
  |_=>aB
 |_,_=>aB
end
end DL
namespace DL
open PySem PySem.Spec PyProof.Rows L2
variable{K:af}
section
variable{Z:Ent K}{H:Hp}{σ:L2.St}{E:Yq}
@[simp] def Zm7(fe:FE):FS:=λδ=>(fe δ).bind λp=>(frz p.1 p.2).bind λq=>some (.rt (.fz q.1))
theorem Zm8{fe:FE}(h:Z1 Z (Zm7 fe) E σ H):Zl0 (Zc Z fe) E σ H:=by obtain⟨F,δ,own,fl,s,e,k⟩:=h;obtain⟨⟨rv,δ1⟩,e1,e2⟩:=aa.mp e;obtain⟨⟨d,δ2⟩,e3,e4⟩:=aa.mp e2;cases e4;refine⟨F,δ,own,rv,δ1,s,e1,λv H1 F1 own1 sH sF s1 r1=>?_⟩;obtain⟨F2,sF2,s2,r2⟩:=s1.settleR r1;obtain⟨F3,own3,sF3,s3,r3⟩:=s2.frzR r2 e3;exact k v H1 F3 [] (sF.trans (sF2.trans sF3)) s3.le s3.fro s3.old (.fz r3) c7 λ_ h=>(nomatch h)
end
section
variable{X:Cx}{Z:Ent X.K}{a b c:ci}{fa fb fc:FE}{pos:Pos}
theorem Zm9(h:PE X a (Zc Z fa)):PS X (.Return (aA a) pos) (Z1 Z (Zm7 fa)):=(Zce h).imp λ_ _ _ h=>Zm8 h
end
end DL
namespace L2
open PySem PySem.Spec PyProof.Rows
variable{X:Cx}
def Ztk(K:af):V->List V->Hp->VK->Prop:=λx xs H Q=>∃p ys y j,x= .ref p/\xs=[y]/\Wp K H p ys/\Yd y=aC/\ys.all Yd=aC/\(ys.findIdx? λz=>Nt z y)=aA j/\Q (.int (j:Nat)) H
def Ztl:V->List V->Hp->VK->Prop:=λx xs H Q=>∃a b i rest,x= .str a/\xs=[.str b]/\c8 a b 0 a.length 1=i::rest/\Q (.int (i:Nat)) H
def Ztm:V->List V->Hp->VK->Prop:=λx xs H Q=>∃a b,x= .str a/\xs=[.str b]/\a.length<=sizeLine/\Q (.str (Txt.rstripChars a b)) H
def Zkx:R2:=λx y H Q=>∃a k,x= .str a/\y= .int k/\MulOk a k/\Q (.str (Txt.mul a k)) H
theorem Zim:Bh X (binaryOp .Mult) Zkx:=by intro pins s σ H x y v u Q I rx ry h;obtain⟨a,k,rfl,rfl,hm,q⟩:=h;obtain⟨t,rfl⟩:=rx;obtain⟨t',rfl⟩:=ry;exact SB.mul hm λt' k=>⟨.str _,H,I.tok _,⟨_,rfl⟩,q⟩
end L2
namespace DL
open PySem PySem.Spec PyProof.Rows L2
variable{K:af}
@[simp] def D.fv:D->V
 | .bl b=>.bl b
 | .int i=>.int i
 | .str x=>.str x
 |_=>.non
theorem Zej{F H:Hp}{d:D}{x:V}(r:Z7 K F H d x)(h:d.isFlat=aC):x=d.fv/\Yd x=aC:=by
 cases d with
 |non=>rw[r.non];exact⟨rfl,rfl⟩
 |bl b=>rw[r.bl];exact⟨rfl,rfl⟩
 |int i=>rw[r.int];exact⟨rfl,rfl⟩
 |str y=>rw[r.str];exact⟨rfl,rfl⟩
 |_=>cases h
theorem Vv{F:Hp}:∀{ds:List D} {vs:List V},Reps K F ds vs->ds.all D.isFlat=aC->vs=ds.map D.fv/\vs.all Yd=aC
 |_,_,.nil,_=>⟨rfl,rfl⟩
 |_,_,.cons h t,e=>by rw[List.all_cons,Bool.and_eq_true]at e;obtain⟨a1,a2⟩:=Zej (H:=F) (Z7.of h) e.1;obtain⟨b1,b2⟩:=Vv t e.2;refine⟨by rw[av,<-a1,<-b1],by rw[List.all_cons,a2,b2];rfl⟩
def Vw(y x:D):Bool:=Nt y.fv x.fv
@[simp] theorem Zrb(a b:Str):Vw (.str a) (.str b)=decide (a=b):=by
 show(a==b)=decide (a=b);by_cases h:a=b
 ·subst h;simp
 ·rw[decide_eq_false h];exact beq_eq_false_iff_ne.mpr h
@[simp] theorem Zin(a b:Bool):Vw (.bl a) (.bl b)=decide (a=b):=by cases a<;> cases b<;> rfl
@[simp] theorem Zrc:Vw .non .non=true:=rfl
@[simp] theorem Ztn(a:Str):Vw (.str a) .non=false:=rfl
def Lm(x:D)(xs:List D):Bool:=xs.any λy=>Vw y x
theorem Hy{d:D}{ds:List D}:inV d.fv (ds.map D.fv)=Lm d ds:=by unfold inV Lm;rw[List.any_map];rfl
def D.seq?:D->Option (List D)
 | .lst xs=>aA xs
 | .tup xs=>aA xs
 |_=>aB
@[simp] theorem Zto(xs:List D):D.seq? (.lst xs)=some xs:=rfl
@[simp] theorem Ztp(xs:List D):D.seq? (.tup xs)=some xs:=rfl
@[simp] theorem Ztq(x:Str):D.seq? (.str x)=none:=rfl
@[simp] theorem Zvn(ks:List Key)(vs:List D):D.seq? (.dK ks vs)=none:=rfl
@[simp] theorem Zvo(ks:List (List Key))(vs:List D):D.seq? (.dT ks vs)=none:=rfl
@[simp] def inZ(d1 d2:D):Option SV:=match d2.seq? with
 |some xs=>if d1.isFlat=aC/\xs.all D.isFlat=aC then aA (.fz (.bl (Lm d1 xs)))else aB
 |none=>inY d1 d2
@[simp] def J3(d1 d2:D):Option SV:=match d2.seq? with
 |some xs=>if d1.isFlat=aC/\xs.all D.isFlat=aC then aA (.fz (.bl (!Lm d1 xs)))else aB
 |none=>Vu d1 d2
section
variable{Z:Ent K}{H:Hp}{σ:L2.St}{Q:VK}{E:Yq}
theorem Zek{F:Hp}{d:D}{x:V}{xs:List D}(le:Ze F H)(r:Z7 K F H d x)(h:d.seq? =aA xs):∃a vs,x= .ref a/\(Wp K H a vs\/Uk K H a vs)/\Reps K F xs vs:=by
 cases d with
 |lst ys=>cases h;obtain⟨a,vs,e,q,rr⟩:=r.lst le;exact⟨a,vs,e,.inl q,rr⟩
 |tup ys=>cases h;obtain⟨a,vs,e,q,rr⟩:=r.tup le;exact⟨a,vs,e,.inr q,rr⟩
 |_=>cases h
theorem Zky:Yw Z (λx y H Q=>(((∃i j,x= .str i/\y= .str j/\Q (.bl (!(c8 j i 0 j.length 1).isEmpty)) H)\/Zd8 x y H Q)\/R5 aD x y H Q)\/rIn K aD x y H Q) inZ:=by
 intro F H σ δ own x y d1 d2 sv Q s r1 r2 e k;unfold inZ at e;split at e
 ·rename_i xs hx;split at e
  ·rename_i hf;cases e;obtain⟨a,vs,rfl,hq,rr⟩:=Zek s.le r2 hx;obtain⟨e1,f1⟩:=Zej r1 hf.1;obtain⟨e2,f2⟩:=Vv rr hf.2;refine .inr ⟨a,vs,rfl,hq,f1,f2,?_⟩;rw[e1,e2,Hy];exact k.fz s (.bl _)
  ·cases e
 ·exact .inl (Zq9 F H σ δ own x y d1 d2 sv Q s r1 r2 e k)
theorem Zel:Yw Z (λx y H Q=>(((∃i j,x= .str i/\y= .str j/\Q (.bl (!(!(c8 j i 0 j.length 1).isEmpty))) H)\/G4 x y H Q)\/R5 aC x y H Q)\/rIn K aC x y H Q) J3:=by
 intro F H σ δ own x y d1 d2 sv Q s r1 r2 e k;unfold J3 at e;split at e
 ·rename_i xs hx;split at e
  ·rename_i hf;cases e;obtain⟨a,vs,rfl,hq,rr⟩:=Zek s.le r2 hx;obtain⟨e1,f1⟩:=Zej r1 hf.1;obtain⟨e2,f2⟩:=Vv rr hf.2;refine .inr ⟨a,vs,rfl,hq,f1,f2,?_⟩;rw[e1,e2,Hy];exact k.fz s (.bl _)
  ·cases e
 ·exact .inl (Zeh F H σ δ own x y d1 d2 sv Q s r1 r2 e k)
@[simp] def Zvp:List D->Option SV
 | [.lst xs,x]=>if x.isFlat=aC/\xs.all D.isFlat=aC then(xs.findIdx? λy=>Vw y x).bind λj=>aA (.fz (.int (j:Nat)))else aB
 |_=>aB
@[simp] def Ztr:List D->Option SV
 | [.str a,.str b]=>match c8 a b 0 a.length 1 with
  |i::_=>aA (.fz (.int (i:Nat)))
  | []=>aB
 |_=>aB
@[simp] def Zts:List D->Option SV
 | [.str a,.str b]=>if a.length<=a7 then aA (.fz (.str (Txt.rstripChars a b)))else aB
 |_=>aB
open Classical in
def Zip(a:Str)(k:Int):Option SV:=if MulOk a k then aA (.fz (.str (Txt.mul a k)))else aB
theorem Ziq{a:Str}{k:Int}{sv:SV}(h:Zip a k=aA sv):MulOk a k/\sv= .fz (.str (Txt.mul a k)):=by
 unfold Zip at h;split at h
 ·rename_i hm;cases h;exact⟨hm,rfl⟩
 ·cases h
def Hz(i j:Int):Prop:=Zdo i j=aC
open Classical in
def Pk(i j:Int):Option SV:=if Hz i j then aA (.fz (.int (i*j)))else aB
theorem Zir{i j:Int}{sv:SV}(h:Pk i j=aA sv):Zp7 (.int i) (.int j)=aA sv:=by
 unfold Pk at h;split at h
 ·rename_i hc;cases h;unfold Hz at hc;simp[hc]
 ·cases h
theorem Zna{i j:Int}(h:-(2^64)<j/\j<2^64):Pk i j=aA (.fz (.int (i*j))):=by unfold Pk;rw[if_pos];unfold Hz Zdo;rw[decide_eq_true h.1,decide_eq_true h.2];simp
theorem Znb{i j:Int}(h:-(2^64)<i/\i<2^64):Pk i j=aA (.fz (.int (i*j))):=by unfold Pk;rw[if_pos];unfold Hz Zdo;rw[decide_eq_true h.1,decide_eq_true h.2];simp
def Vx:D->D->Option SV
 | .str a,.int k=>Zip a k
 | .int i,.int j=>Pk i j
 |_,_=>aB
@[simp] theorem Ztt(a:Str)(k:Int):Vx (.str a) (.int k)=Zip a k:=rfl
@[simp] theorem Ztu(i j:Int):Vx (.int i) (.int j)=Pk i j:=rfl
theorem Znc:Yw Z (λx y H Q=>rI Zcl (λi j=>V.int (i*j)) x y H Q\/Zkx x y H Q) Vx:=by
 intro F H σ δ own x y d1 d2 sv Q s r1 r2 e k;unfold Vx at e;split at e
 ·obtain⟨hm,rfl⟩:=Ziq e;exact .inr ⟨_,_,r1.str,r2.int,hm,k.fz s (.str _)⟩
 ·exact .inl (Zqa F H σ δ own x y _ _ sv Q s r1 r2 (Zir e) k)
 ·cases e
@[simp] def Pl:List D->Option SV
 | [.int i]=>if i.natAbs.log2<1920 then aA (.fz (.str (toString i)))else aB
 |_=>aB
theorem Znd:Jy Z (λxs H Q=>∃i:Int,xs=[.int i]/\i.natAbs.log2<1920/\Q (.str (toString i)) H) Pl:=by
 intro F H σ δ own vs ds sv Q s r e k;unfold Pl at e;split at e
 ·split at e
  ·rename_i hm;cases e;cases r with
   |cons h1 t=>cases t;exact⟨_,by rw[h1.int],hm,k.fz s (.str _)⟩
  ·cases e
 ·cases e
@[simp] def Zrd(kd d:D):Option (Option SV)->Option SV
 |some (aA (.ol xs))=>match kd with
  | .int i=>(ixN xs.length i).bind λj=>aA (.ol (xs.set j d))
  |_=>aB
 |_=>aB
@[simp] def SV.isOL:Option (Option SV)->Bool
 |some (aA (.ol _))=>aC
 |_=>aD
@[simp] def Zxx(i:Nat)(fk fv:FE):FS:=λδ=>(fv δ).bind λp=>(frz p.1 p.2).bind λq=>if SV.isOL (q.2[i]?)=true then(fk q.2).bind λr=>(Ev r.1 r.2).bind λkd=>(Zrd kd q.1 (r.2[i]?)).bind λsv=>some (.nx (r.2.set i (some sv)))else none
@[simp] def SV.ol?:RV->Option (List D)
 | .tmp (.ol ys)=>aA ys
 |_=>aB
@[simp] def Zvq(i:Nat)(fe:FE):FS:=λδ=>match δ[i]? with
 |some (aA (.ol _))=>(fe δ).bind λp=>(SV.ol? p.1).bind λys=>match p.2[i]? with
  |some (aA (.ol xs))=>if xs.length+ys.length<=a7 then aA (.nx (p.2.set i (aA (.ol (xs++ys)))))else aB
  |_=>aB
 |_=>aB
end
section
variable{X:Cx}{Z:Ent X.K}{a b c:ci}{fa fb fc:FE}{pos:Pos}
theorem Zkz(hu:X.A.units+1<dw)(ha:PE X a (Zc Z fa))(hb:PE X b (Zc Z fb))(hm:behindInMarks .In b=aD:=by rfl):PE X (.Compare a [.In] [b] pos) (Zc Z (Zt inZ fa fb)):=Zdu (((Ia.or (T6 hu)).or Ix).or Ih) Zky ha hb hm
theorem Zre(hu:X.A.units+1<dw)(ha:PE X a (Zc Z fa))(hb:PE X b (Zc Z fb))(hm:behindInMarks .In b=aD:=by rfl):PT X (.Compare a [.In] [b] pos) (Yh Z (Y5 (Zt inZ fa fb))):=T0 (((Ia.or (T6 hu)).or Ix).or Ih) Zky ha hb hm
theorem Ag(hu:X.A.units+1<dw)(ha:PE X a (Zc Z fa))(hb:PE X b (Zc Z fb))(hm:behindInMarks .NotIn b=aD:=by rfl):PT X (.Compare a [.NotIn] [b] pos) (Yh Z (Y5 (Zt J3 fa fb))):=T0 (((Kq.or (Ey hu)).or Lh).or Ko) Zel ha hb hm
theorem Zem(ha:PE X a (Zc Z fa))(hb:PE X b (Zc Z fb)):PE X (.BinOp a .Mult b pos) (Zc Z (Zt Vx fa fb)):=Hk (Zl6.or Zim) Znc ha hb
theorem Zen{p:Pos}(hm:X.mg "str"=aB)(ha:PE X a (Zc Z fa))(hg:Gl X "str":=by rfl)(he:ay [a] X.env=(aD,f8 a X.env)::ay [] X.env:=by rfl)(hpl:(f6 pos (ay [] X.env)).any (·.1)=aD:=by rfl):PE X (.Call (.Name "str" p) [a] [] pos) (Zc Z (Yl Pl (Zd fa Zp))):=
 Gy Ki Znd hm boot_str (Zq ha Ym he) hg (by decide) (by decide) he hpl
end
end DL
namespace DL
open PySem PySem.Spec PyProof.Rows L2
end DL
namespace DL
open PySem PySem.Spec PyProof.Rows L2
variable{K:af}
section
variable{Z:Ent K}{H:Hp}{σ:L2.St}{Q:Bool->Hp->Prop}
@[simp] def Da(f:FT):FT:=λδ=>(f δ).bind λp=>some (p.1,δ)
theorem Zis{f:FT}(h:Yh Z (Da f) σ H Q):Yh Z f σ H Q:=by obtain⟨F,δ,own,b,δ',s,e,k⟩:=h;obtain⟨⟨b1,δ1⟩,e1,e2⟩:=aa.mp e;cases e2;exact⟨F,δ,own,b1,δ1,s,e1,λH' F' own' sH sF s'=>k H' F own sH (Ze.refl F) (s.grow sH)⟩
end
section
variable{X:Cx}{Z:Ent X.K}{a:ci}{ft:FT}
theorem Zeo(ha:PT X a (Yh Z ft)):PT X a (Yh Z (Da ft)):=ha.imp λ_ _ _ h=>Zis h
end
end DL
namespace DL
open PySem PySem.Spec PyProof.Rows L2
variable{K:af}
def Zrf(n:Nat)(k:Int):Prop:=-(2^63)<=k/\k<2^63/\n*k.toNat<=a7
section
variable{Z:Ent K}{H:Hp}{σ:L2.St}{Q:VK}
open Classical in
def Zne(xs:List D):D->Option SV
 | .int k=>if Zrf xs.length k then aA (.ol (List.replicate k.toNat xs).flatten)else aB
 |_=>aB
@[simp] theorem Zrg{xs:List D}{k:Int}(h:Zrf xs.length k):Zne xs (.int k)=some (.ol (List.replicate k.toNat xs).flatten):=by unfold Zne;dsimp only;rw[if_pos h]
@[simp] def Zz9(fa fb:FE):FE:=λδ=>(fa δ).bind λp=>(SV.ol? p.1).bind λxs=>(fb p.2).bind λq=>(Ev q.1 q.2).bind λd=>(Zne xs d).bind λsv=>some (.tmp sv,q.2)
end
end DL
namespace DL
open PySem PySem.Spec PyProof.Rows L2
variable{K:af}
section
variable{Z:Ent K}
@[simp] def slT:D->Option Int->Option Int->Option SV
 | .tup xs,lo,hi=>if¬(HT.sIx xs.length 0 lo=0/\HT.sIx xs.length xs.length hi=xs.length)then aA (.fz (.tup (Ew xs lo hi)))else aB
 |_,_,_=>aB
end
end DL
namespace DL
open PySem L2
variable{K:af}
inductive RX where
 |v (rv:RV) (δ:Yg)|x (e:Exn) (δ:Yg)
inductive RL(α:Type)where
 |v (xs:List α) (δ:Yg)|x (e:Exn) (δ:Yg)
abbrev FX:=Yg->Option RX
abbrev FAX:=Yg->Option (RL RV)
abbrev FDX:=Yg->Option (RL D)
def XOk(Z:Ent K)(F:Hp)(σ:St)(e:Exn)(δ:Yg):Prop:=∀H' F' own' cls od,Ze F F'->SR Z F' H' σ δ own'->Ky K F' e cls od->Z.x cls od σ H'
def Zri(Z:Ent K)(f:FX):TE:=λσ H Q=>∃F δ own r,SR Z F H σ δ own/\f δ=aA r/\match r with
 | .v rv δ'=>∀v H' F' own',Ze H H'->Ze F F'->SR Z F' H' σ δ' own'->Hj Z F' H' σ own' rv v->Q v H'
 | .x e δ'=>XOk Z F σ e δ'
def Zvs(Z:Ent K)(f:FAX):TA:=λσ H Q=>∃F δ own r,SR Z F H σ δ own/\f δ=aA r/\match r with
 | .v rvs δ'=>∀vs H' F' own',Ze H H'->Ze F F'->SR Z F' H' σ δ' own'->RVSs K F' σ rvs vs->Q vs H'
 | .x e δ'=>XOk Z F σ e δ'
def Zvt(Z:Ent K)(f:FDX):TA:=λσ H Q=>∃F δ own r,SR Z F H σ δ own/\f δ=aA r/\match r with
 | .v ds δ'=>∀vs H' F' own',Ze H H'->Ze F F'->SR Z F' H' σ δ' own'->Reps K F' ds vs->Q vs H'
 | .x e δ'=>XOk Z F σ e δ'
@[simp] def FX.val(f:FX):FE:=λδ=>match f δ with
 |some (.v rv δ')=>aA (rv,δ')
 |_=>aB
section
variable{Z:Ent K}{H:Hp}{σ:St}{Q:VK}{E:Yq}
@[simp] def Zxy(fe:FE):FX:=λδ=>(fe δ).bind λp=>some (.v p.1 p.2)
@[simp] def Ztv:FAX:=λδ=>some (.v [] δ)
@[simp] def Zrj(fx:FX)(fa:FAX):FAX:=λδ=>(fx δ).bind fun
 | .v rv δ1=>(fa δ1).bind fun
  | .v rvs δ2=>aA (.v (rv::rvs) δ2)
  | .x e δ2=>aA (.x e δ2)
 | .x e δ1=>aA (.x e δ1)
@[simp] def Zrk:FDX:=λδ=>some (.v [] δ)
@[simp] def Zov(fx:FX)(fd:FDX):FDX:=λδ=>(fx δ).bind fun
 | .v rv δ1=>(frz rv δ1).bind λq=>(fd q.2).bind fun
  | .v ds δ2=>aA (.v (q.1::ds) δ2)
  | .x e δ2=>aA (.x e δ2)
 | .x e δ1=>aA (.x e δ1)
@[simp] def Z0a(fd:FDX):FX:=λδ=>(fd δ).bind fun
 | .v ds δ1=>if ds.length<=a7 then aA (.v (.tmp (.fz (.tup ds))) δ1)else aB
 | .x e δ1=>aA (.x e δ1)
@[simp] def Zxz(g:List D->Option SV)(fa:FAX):FX:=λδ=>(fa δ).bind fun
 | .v rvs δ1=>(Uo rvs δ1).bind λds=>(g ds).bind λsv=>aA (.v (.tmp sv) δ1)
 | .x e δ1=>aA (.x e δ1)
@[simp] def Z0b(g:D->D->Option SV)(fa fb:FX):FX:=λδ=>(fa δ).bind fun
 | .x e δ1=>aA (.x e δ1)
 | .v r1 δ1=>(fb δ1).bind fun
  | .x e δ2=>aA (.x e δ2)
  | .v r2 δ2=>(Ev r1 δ2).bind λd1=>(Ev r2 δ2).bind λd2=>(g d1 d2).bind λsv=>aA (.v (.tmp sv) δ2)
end
inductive XO where
 |v (sv:SV)|x (e:Exn)
def spX(K:af)(n:Nat)(g:List D->Option XO):Sp:=λvs H Q E=>∃F ds o,Ze F H/\Reps K F ds vs/\ds.length=n/\g ds=aA o/\match o with
 | .v sv=>∀v H' F' ns,Ze H H'->Ze F F'->Ze F' H'->(∀(b:ak) (o:HO),F' b=aA o->F b=aA o\/H b=aB)->Shape K F' sv v ns->(Cu ns).Nodup->(∀p∈ns,F' p.1=aB/\H p.1=aB/\H' p.1=aA p.2)->Q v H'
 | .x e=>∀cls od H' F',Ze H H'->Ze F F'->Ze F' H'->(∀(b:ak) (o:HO),F' b=aA o->F b=aA o\/H b=aB)->Ky K F' e cls od->E cls od H'
@[simp] def Z0c(f:FS)(n:Nat)(ds:List D):Option XO:=match f (Ty n ds)with
 |some (.rt sv)=>aA (.v sv)
 |some (.nx _)=>aA (.v (.fz .non))
 |some (.ex e _)=>aA (.x e)
 |_=>aB
@[simp] def Z0d(h:List D->Option XO)(ds:List D):Option SV:=match h ds with
 |some (.v sv)=>aA sv
 |_=>aB
abbrev Z0e(H F:Hp)(E:XK):Ent K:=⟨H,F,λcls od _ H'=>E cls od H'⟩
section
variable{Z:Ent K}{H:Hp}{σ:St}{Q:VK}{E:Yq}
@[simp] def Zx0(n:Nat)(g:List D->Option XO)(fa:FAX):FX:=λδ=>(fa δ).bind fun
 | .x e δ1=>aA (.x e δ1)
 | .v rvs δ1=>(DL.frzAll rvs δ1).bind λq=>if q.1.length=n then(g q.1).bind (fun
  | .v sv=>aA (.v (.tmp sv) (if sv.scal then δ1 else q.2))
  | .x e=>aA (.x e q.2))else aB
@[simp] def Zvu(g:List D->Option SV)(ds:List D):Option XO:=(g ds).bind λsv=>some (.v sv)
@[simp] def Z0f(i:Nat)(fx:FX):FS:=λδ=>(fx δ).bind fun
 | .v rv δ1=>(stow i rv δ1).bind λδ'=>aA (.nx δ')
 | .x e δ1=>aA (.ex e δ1)
@[simp] def Z0g(fx:FX):FS:=λδ=>(fx δ).bind fun
 | .v rv δ1=>(Zp0 rv δ1).bind λsv=>aA (.rt sv)
 | .x e δ1=>aA (.ex e δ1)
@[simp] def Zx1(fx:FX):FS:=λδ=>(fx δ).bind fun
 | .v _ δ1=>aA (.nx δ1)
 | .x e δ1=>aA (.ex e δ1)
@[simp] def Z0h(i:Nat)(fx:FX):FS:=λδ=>match fx δ with
 |some (.x e δ1)=>(match δ[i]? with
  |some (aA (.ol _))=>aA (.ex e δ1)
  |_=>aB)
 |_=>Tx i fx.val δ
@[simp] def Z0i(i:Nat)(fx:FX):FS:=λδ=>match fx δ with
 |some (.x e δ1)=>(match δ[i]? with
  |some (aA (.ol _))=>aA (.ex e δ1)
  |_=>aB)
 |_=>Zvq i fx.val δ
@[simp] def Zvv(c:Str):FS:=λδ=>some (.ex ⟨c,[],[]⟩ δ)
set_option genInjectivity false in
structure HX where
 x:Str
 np:Pos
 nm:Option (Str×Nat)
 b0:Stmt
 suite:List Stmt
 pos:Pos
 B:ak
 yes:List Str
 no:List Str
 f:FS
set_option genInjectivity false in
structure HX.Sub(K:af)(h:HX):Prop where
 yes:∀c∈h.yes,∀C,Tt K c C->PySem.W.mroIn K C (.ref h.B)=aA aC
 no:∀c∈h.no,∀C,Tt K c C->PySem.W.mroIn K C (.ref h.B)=aA aD
def HX.hd(Z:Ent K)(h:HX):Hd:=⟨h.x,h.np,h.nm,h.b0,h.suite,h.pos,h.B,Z1 Z h.f⟩
set_option genInjectivity false in
structure HF where
 i:Option Nat
 yes:List Str
 no:List Str
 f:FS
@[simp] def HX.hf(h:HX):HF:=⟨h.nm.map (·.2),h.yes,h.no,h.f⟩
@[simp] def Zk0(c:Str):List HF->Option HF
 | []=>aB
 |h::r=>if c∈h.yes then aA h else if c∈h.no then Zk0 c r else aB
@[simp] def Fl.but(i:Nat):Fl->Fl
 | .nx δ=>.nx (δ.set i aB)
 | .bk δ=>.bk (δ.set i aB)
 | .ct δ=>.ct (δ.set i aB)
 | .ex e δ=>.ex e (δ.set i aB)
 | .rt sv=>.rt sv
@[simp] def Fl.isEx:Fl->Bool
 | .ex _ _=>aC
 |_=>aD
@[simp] def HF.run(h:HF)(x:Exn)(δ:Yg):Option Fl:=match h.i with
 |none=>h.f δ
 |some i=>if i<δ.length then(h.f (δ.set i (aA (.fz (.exc x.c x.ks x.vs))))).bind λfl=>if fl.isEx=aC then aB else aA (fl.but i)else aB
@[simp] def Z0j(fb:FS)(hs:List HF):FS:=λδ=>(fb δ).bind fun
 | .ex x δ1=>(Zk0 x.c hs).bind λh=>h.run x δ1
 |fl=>aA fl
abbrev Ent.wish(Z:Ent K)(EX:EXT):Ent K:=⟨Z.h,Z.f,EX⟩
end
end DL
namespace DL
open PySem PySem.Spec PyProof.Rows L2
section
variable{X:Cx}{Z:Ent X.K}{a b c:ci}{fa fb:FE}{fx fy:FX}{pos:Pos}
@[simp] def Z0k(yes no:List Str):D->Option SV
 | .exc c _ _=>if c∈yes then aA (.fz (.bl aC))else if c∈no then aA (.fz (.bl aD))else aB
 |_=>aB
def Kn(K:af)(r:ak->Bool->Prop)(yes no:List Str):Prop:=(∀c∈yes,∀C,Tt K c C->ExcKit K C/\r C aC)/\∀c∈no,∀C,Tt K c C->ExcKit K C/\r C aD
def Zvw(Bs:List ak):TA:=λ_ H R=>R (Bs.map V.ref) H
end
end DL
namespace DL
open PySem PySem.Spec PyProof.Rows L2
section
variable{X:Cx}{pins:List (ak×Obj)}{σ:L2.St}{H:Hp}{s:am}
theorem Inv.trackO{a:ak}{o:HO}(I:Inv X pins σ H s)(e0:X.s₀.heap.get? a=aB)(eH:H a=aB)(le:a≠X.env.locals)(ce:∀x c,X.env.cells.lookup x=aA c->c≠a)(pe:∀p∈X.pn++pins,p.1≠a)(new:Z9 X.prog X.w (Z5 H a o) s.heap a o):Inv X pins σ (Z5 H a o) s:=by
 refine⟨I.ok,I.os,I.bare,⟨I.base.keep,I.base.slot,λb o q n hx=>?_,I.base.there,λb xs q=>?_,λb o u q=>?_,λb ps q=>?_⟩,I.loc,I.cell,?_,λx c ec=>?_,λp hp=>?_,λb u q=>?_,I.len⟩
 ·rw[Zn (λz=>by rw[z,e0]at q;cases q)];exact I.base.free b o q n hx
 ·have:=I.base.tups b xs q;rw[Zn (λz=>by rw[z,eH]at this;cases this)];exact this
 ·have:=I.base.frzs b o u q;rw[Zn (λz=>by rw[z,eH]at this;cases this)];exact this
 ·obtain⟨m,this⟩:=I.base.tbls b ps q;exact⟨m,by rw[Zn (λz=>by rw[z,eH]at this;cases this)];exact this⟩
 ·rw[Zn (Ne.symm le)];exact I.free
 ·rw[Zn (ce x c ec)];exact I.freeC x c ec
 ·obtain⟨q,n,r⟩:=I.pin p hp;exact⟨q,by rw[Zn (pe p hp)];exact n,r⟩
 ·by_cases hb:b=a
  ·subst hb;rw[Z3]at q;cases q;exact new
  ·rw[Zn hb]at q;exact(I.hok b u q).stay (λc v _ z=>z) (λc z=>by rw[Zn (λy=>by rw[y,eH]at z;cases z)];exact z) (λc xs z=>by rw[Zn (λy=>by rw[y,eH]at z;cases z)];exact z) λc o z=>by rw[Zn (λy=>by rw[y,eH]at z;cases z)];exact z
def Zep(trs:List (TE×TE)):TE:=λσ H Q=>Kv trs σ H λps H2=>∃kvs:List (Key×V),ps=kvs.map (λkv=>(kV kv.1,kv.2))/\kvs.length<=15/\∀p ep,H2 p=aB->Q (.ref p) (Z5 H2 p (.dK (Uw [] kvs) ep))
theorem Zeq{pos:Pos}{keys:List (Option ci)}{values:List ci}{trs:List (TE×TE)}(h:PPs X pos keys values trs)(hall:keys.all (·.isSome)=aC)(hl:keys.length=values.length)(h0:keys≠[])
  (h15:keys.length<=15):PE X (.Dict keys values pos) (Zep trs):=by
 intro pins s σ H Q I q;have hn:=I.hok.fresh (a8 s.heap.objs.size);have I0:=I.kept (h':=s.heap.push {cls:=.type "dict",data:=.dict #[]}) (t':=s.toks) (λ_ _ q=>aq _ q);have hob:(s.heap.push {cls:=.type "dict",data:=.dict #[]}).get? s.heap.objs.size=aA {cls:=.type "dict",data:=.dict #[]}:=a9 _ rfl;have old:∀b o,s.heap.get? b=aA o->b≠s.heap.objs.size:=λb o z=>b4 (bc z);have apart:∀p∈X.pn++pins,p.1≠s.heap.objs.size:=λp hp=>old _ _ (I.pin p hp).1;have hloc:s.heap.objs.size≠X.env.locals:=λz=>gv _ (cu (z▸I.lt) (a8 _));have hcel:∀x c,X.env.cells.lookup x=aA c->c≠s.heap.objs.size:=λx c ec=>by obtain⟨v,o,ho,_⟩:=I.cell x c ec;exact old _ _ ho
 have hs0:X.s₀.heap.get? s.heap.objs.size=aB:=Heap.get?_none_of_le I.sz;have I1:=I0.pins_of (pins':=(s.heap.objs.size,{cls:=.type "dict",data:=.dict #[]})::pins) λp hp=>by
  rcases bo.mp hp with z|z
  ·subst z;exact⟨hob,hn,hloc,I.nofs (a8 _),λv z=>nomatch z⟩
  ·exact I0.pin p (c6 _ z)
 refine wpAny_Dict_walk (knd:=Zk X.prog X.w) hall hl h0 h15 (Wo (h _ _ σ _ _ I1 q) λws s2 zq9=>?_);obtain⟨ps,H2,I2,rel,kvs,ep,lk,q2⟩:=zq9;subst ep;obtain⟨rs,c,rk⟩:=Tq (P:=X.prog) (w:=X.w) rel;obtain⟨p1,p2,p3,p4,p5⟩:=I2.pin (s.heap.objs.size,{cls:=.type "dict",data:=.dict #[]}) (c6 _ ah);have new0:Z9 X.prog X.w (Z5 H2 s.heap.objs.size (.dK [] 0)) s2.heap s.heap.objs.size (.dK [] 0):=(show Z9 X.prog X.w (λ_=>aB) _ _ (.dK [] 0)from Nv s.heap I.big).stay (λb u hb z=>by
  rcases hb with rfl|hb
  ·rw[hob]at z;cases z;exact p1
  ·cases hb) (λ_ z=>nomatch z) (λ_ _ z=>nomatch z) λ_ _ z=>nomatch z
 have I3:Inv X pins σ (Z5 H2 s.heap.objs.size (.dK [] 0)) s2:=Inv.trackO (I2.pins_of (pins':=pins) λp hp=>I2.pin p (c6 _ (ar _ hp))) hs0 p2 hloc hcel apart new0;obtain⟨z,hd,vs0,r0,dd⟩:=Hh I3.hok ⟨_,(show Z5 H2 s.heap.objs.size (.dK [] 0) s.heap.objs.size=aA (.dK [] 0)from Z3)⟩;cases r0;refine⟨rs,c,dd,λh' dd' hs=>?_⟩;have hz:(Uw [] kvs).length<=sizeLine:=by have h1:=Cr kvs [];rw[List.length_nil]at h1;rw[dr];omega
 have he:∃q,h'.get? s.heap.objs.size=aA q:=let⟨q,_,_,hq,_⟩:=dd';⟨q,hq⟩
 obtain⟨ep,ok⟩:=Ku hz hd (rk.merge .nil) dd';have I4:L2.Inv X pins σ (Z5 (Z5 H2 s.heap.objs.size (.dK [] 0)) s.heap.objs.size (.dK (Uw [] kvs) ep)) {s2 with heap:=h',toks:=s2.toks+ws.length}:=Gw I3 (by rw[Z3];exact True.intro) hs he (ok _);rw[Zg8]at I4;exact⟨.ref s.heap.objs.size,_,I4,rfl,q2 _ ep p2⟩
end
section
variable{K:af}{Z:Ent K}{σ:L2.St}{H:Hp}{Q:VK}
theorem Vy{f:FE}{Q':VK}(m:∀v H,Q v H->Q' v H)(h:Zc Z f σ H Q):Zc Z f σ H Q':=by obtain⟨F,δ,own,rv,δ',s,e,k⟩:=h;exact⟨F,δ,own,rv,δ',s,e,λv H' F' own' a b c d=>m _ _ (k v H' F' own' a b c d)⟩
def tPD(Z:Ent K)(l:List (Str×FE)):List (TE×TE):=l.map λp=>(tC (.str p.1),Zc Z p.2)
@[simp] def Zer:List (Str×FE)->FD
 | []=>Zl
 |p::r=>Zf p.2 (Zer r)
@[simp] def Zvx(l:List (Str×FE)):FE:=λδ=>(Zer l δ).bind λp=>if p.1.length=l.length then some (.tmp (.oK (l.map λq=>.inr q.1) p.1),p.2)else none
theorem I8:∀(more acc:List (Key×V)),((acc++more).map (·.1)).Nodup->Uw acc more=acc++more
 | [],acc,_=>by show acc=acc++[];rw[List.append_nil]
 |p::r,acc,h=>by
  have e:Qa acc p.1 p.2=acc++[p]:=by unfold Qa;rw[if_neg];intro z;obtain⟨q,hq,z⟩:=List.any_eq_true.mp z;rw[cq,di]at h;exact h.2.2 p.1 (a6.mpr ⟨q,hq,of_decide_eq_true z⟩) p.1 (by simp) rfl
  show Uw (Qa acc p.1 p.2) r=_;rw[e,I8 r (acc++[p]) (by simpa using h)];simp
@[simp] def Z0l:List D->Option SV
 | [.int i,.int j]=>aA (.fz (.int (if j<i then j else i)))
 |_=>aB
end
end DL
namespace DL
open PySem PySem.Spec PyProof.Rows L2
@[simp] def R6(ss:List Str)(fd:FD):FD:=λδ=>(fd δ).bind λp=>some (ss.map D.str++p.1,p.2)
theorem Zit{K:af}{Z:Ent K}{σ:L2.St}{H:Hp}{fd:FD}:∀(ss:List Str) {R:List V->Hp->Prop},Wj Z (R6 ss fd) σ H R->Wj Z fd σ H λvs H'=>R (ss.map V.str++vs) H'
 |ss,R,h=>by obtain⟨F,δ,own,ds,δ',s,e,k⟩:=h;obtain⟨⟨ds1,δ1⟩,e1,e2⟩:=aa.mp e;cases e2;refine⟨F,δ,own,ds1,δ1,s,e1,λvs H' F' own' a b c r=>k _ H' F' own' a b c ?_⟩;exact Reps.append (strs_rep ss) r
where strs_rep {F:Hp}:∀ss:List Str,Reps K F (ss.map D.str) (ss.map V.str)
 | []=>.nil
 |x::r=>.cons (.str x) (strs_rep r)
section
variable{X:Cx}{Z:Ent X.K}{pos:Pos}
abbrev cst(x:Str×Nat×Pos):Expr:=.Constant (.str x.1) x.2.1 x.2.2
theorem Pn{es:List ci}{t:TA}(h:PA X es t):∀l:List (Str×Nat×Pos),PA X (l.map cst++es) λσ H R=>t σ H λvs H'=>R ((l.map λx=>V.str x.1)++vs) H'
 | []=>h
 |x::r=>(W3 (e:=cst x) (es:=r.map cst++es) Kg (Pn h r) rfl).imp λσ H R q=>q
theorem M8{es:List ci}{fd:FD}(l:List (Str×Nat×Pos))(h:PA X es (Wj Z fd)):PA X (l.map cst++es) (Wj Z (R6 (l.map (·.1)) fd)):=
 (Pn h l).imp λσ H R q=>by have:=Zit (l.map (·.1)) q;rw[bx]at this;exact this
end
end DL
namespace DL
open PySem PySem.Spec PyProof.Rows L2
section
variable{K:af}
inductive RC where
 |v (δ:Yg)|x (e:Exn)
def xX(K:af)(f:FX)(EX:EXT):TE:=λσ H Q=>∃Z:Ent K,Z.x=EX/\Zri Z f σ H Q
@[simp] def Vz(src:List BSrc)(k:Nat)(g:FG)(tt:FT)(te:FX):List D->Yg->Option RC
 | [],δ=>aA (.v δ)
 |d::ds,δ=>(g.run d δ).bind λδ1=>(tt δ1).bind λp=>if p.1=aC then(te p.2).bind (fun
  | .x e _=>aA (.x e)
  | .v rv δ2=>(frz rv δ2).bind λr=>match r.2[k]? with
   |some (aA (.ol zs))=>if zs.length<a7 then Vz src k g tt te ds (U8 src (r.2.set k (aA (.ol (zs++[r.1])))))else aB
   |_=>aB)
  else Vz src k g tt te ds (U8 src p.2)
@[simp] def Zx2(src:List BSrc)(k:Nat)(fi:FD)(g:FG)(tt:FT)(te:FX):FX:=λδ=>(fi δ).bind λp=>(frzAll (caps src) p.2).bind λc=>(Vz src k g tt te p.1 (bD src c.2)).bind fun
 | .x e=>aA (.x e c.2)
 | .v δb=>match δb[k]? with
  |some (aA (.ol ys))=>aA (.v (.tmp (.ol ys)) c.2)
  |_=>aB
end
end DL
namespace L2
open PySem PySem.Spec PyProof.Rows
def Zk1{α:Type}(xs:List α)(lo hi st:Option Int):List α:=
 (sliceRange (sliceBounds lo hi st xs.length).1 (sliceBounds lo hi st xs.length).2.1 (sliceBounds lo hi st xs.length).2.2).filterMap (xs[·]?)
section
variable{X:Cx}{e st:ci}{te:TE}{lo hi:Option ci}{tl th ts:TO}{pos p2:Pos}
def Z0m(X:Cx)(r:V->Option Int->Option Int->Option Int->Hp->VK->Prop):Prop:=
 ∀(pins:List (ak×Obj)) (s:am) (σ:St) (H:Hp) (x:V) (v vl vu vs:aj) (lo hi st:Option Int) (sl:ak) (Q:VK),Inv X pins σ H s->Zm x v->s.heap.IsSliceOf sl vl vu vs->IsPart vl lo->IsPart vu hi->IsPart vs st->r x lo hi st H Q->
  ∃T id,typeLookup (.type T) "__getitem__"=pure (aA (.builtin id))/\s.TypeIs v T/\ba (bp X.prog X.w) X.A (getItem v (.ref sl)) (EP X pins σ Q) X.xe s
def Z0n(r:V->Option Int->Option Int->Option Int->Hp->VK->Prop)(te:TE)(tl th ts:TO):TE:=λσ H Q=>te σ H λx H1=>tl σ H1 λl H2=>th σ H2 λu H3=>ts σ H3 λw H4=>r x l u w H4 Q
def Z0o(K:af):V->Option Int->Option Int->Option Int->Hp->VK->Prop:=λx lo hi st H Q=>∃a xs,x= .ref a/\Wp K H a xs/\st≠aA 0/\∀p,H p=aB->Q (.ref p) (Z5 H p (.lst (Zk1 xs lo hi st)))
end
end L2
namespace DL
open PySem PySem.Spec PyProof.Rows L2
@[simp] def Z0p(g:D->Option Int->Option Int->Option Int->Option SV)(fe:FE)(fl fh fs:FO):FE:=λδ=>(fe δ).bind λp=>(fl p.2).bind λl=>(fh l.2).bind λh=>(fs h.2).bind λw=>(Ev p.1 w.2).bind λd=>(g d l.1 h.1 w.1).bind λsv=>some (.tmp sv,w.2)
section
variable{K:af}{Z:Ent K}{H:Hp}{σ:L2.St}{Q:VK}
def Zvy(Z:Ent K)(r:V->Option Int->Option Int->Option Int->Hp->VK->Prop)(g:D->Option Int->Option Int->Option Int->Option SV):Prop:=
 ∀(F H:Hp) (σ:L2.St) (δ:Yg) (own:Nat->Zo) (x:V) (d:D) (lo hi st:Option Int) (sv:SV) (Q:VK),SR Z F H σ δ own->Z7 K F H d x->g d lo hi st=aA sv->Fin Z F H σ δ own sv Q->r x lo hi st H Q
@[simp] def Z0q:D->Option Int->Option Int->Option Int->Option SV
 | .lst xs,lo,hi,st=>if st≠aA 0 then aA (.ol (Zk1 xs lo hi st))else aB
 |_,_,_,_=>aB
end
end DL
namespace DL
section
variable{α:Type}{P:List α->Prop}
@[elab_as_elim] theorem of0(h:P [])(us:List α)(hl:us.length=0):P us:=by have:us=[]:=List.eq_nil_of_length_eq_zero hl;rw[this];exact h
@[elab_as_elim] theorem of1(h:∀a,P [a])(us:List α)(hl:us.length=1):P us:=by obtain⟨a,e⟩:=List.length_eq_one_iff.mp hl;rw[e];exact h a
theorem ofC{n:Nat}(h:∀a (us:List α),us.length=n->P (a::us))(us:List α)(hl:us.length=n+1):P us:=by
 cases us with
 |nil=>exact absurd hl (by simp)
 |cons a r=>exact h a r (by simpa using hl)
@[elab_as_elim] theorem of2(h:∀a b,P [a,b])(us:List α)(hl:us.length=2):P us:=ofC (λa=>of1 (P:=λus=>P (a::us)) (h a)) us hl
@[elab_as_elim] theorem of3(h:∀a b c,P [a,b,c])(us:List α)(hl:us.length=3):P us:=ofC (λa=>of2 (P:=λus=>P (a::us)) (h a)) us hl
@[elab_as_elim] theorem of4(h:∀a b c d,P [a,b,c,d])(us:List α)(hl:us.length=4):P us:=ofC (λa=>of3 (P:=λus=>P (a::us)) (h a)) us hl
@[elab_as_elim] theorem of5(h:∀a b c d e,P [a,b,c,d,e])(us:List α)(hl:us.length=5):P us:=ofC (λa=>of4 (P:=λus=>P (a::us)) (h a)) us hl
@[elab_as_elim] theorem of6(h:∀a b c d e f,P [a,b,c,d,e,f])(us:List α)(hl:us.length=6):P us:=ofC (λa=>of5 (P:=λus=>P (a::us)) (h a)) us hl
end
end DL
namespace L2
open PySem PySem.Spec PyProof.Rows
section
variable{prog:bu}{w:ck}{A:cj}{E:aj->am->Prop}{s:am}{q d:ak}{i n ep:Nat}{od:Obj}{es:Array DictEntry}
theorem G8{Q:aj->am->Prop}(hs:(d==d8)=aD)(g:s.heap.get? d=aA od)(x:od.ExactDict)(c:od.data= .dict es ep)
  (k:Q (.ref s.heap.objs.size) {s with heap:=s.heap.push {cls:=.type "dict_keyiterator",data:=.fields #[.ref d,.int 0 0,.int es.size 0,.int ep 0]}}):ba (bp prog w) A (pyIter (.ref d)) Q E s:=by
 have T:s.TypeIs (.ref d) "dict":=⟨od,g,x.1⟩
 refine wpAny_pyIter_slot T PySem.F.slot_dict_iter (c5 PySem.F.slot_dict_iter T PySem.F.entry_dict_iter (show ba _ _ (Builtin.«dict.__iter__» _) _ _ _ from ?_) (PySem.F.args_dict_iter_1 _));unfold Builtin.«dict.__iter__» Builtin.Dict.dictSlotNone;refine ad (ad (wpAny_notOrdered_dict T (show ba _ _ (pure (bv d)) _ _ s from ag ?_)));show ba _ _ (Builtin.Dict.showsAll d >>=_) _ _ s;unfold Builtin.Dict.showsAll;rw[if_neg (by rw[hs];decide)];refine ad (ag (ad (wpAny_dictEntries g c (ad (wpAny_dictEpoch g c (ad (dv (ag ⟨_,rfl,"dict_keyiterator",_,⟨_,a9 _ rfl,rfl⟩,gf.lookup,?_⟩))))))));simpa[rawInt]using k
theorem G9{e:DictEntry}{Q:Option aj->am->Prop}(t:s.heap.IsKeyIter q d i n ep)(g:s.heap.get? d=aA od)(c:od.data= .dict es ep)(hn:es.size=n)(he:es[i]? =aA e)
  (k:∀h',h'.IsKeyIter q d (i+1) n ep->g7 q s.heap h'->Q (aA e.key) {s with heap:=h'}):ba (bp prog w) A (pyNext (.ref q)) Q E s:=by
 obtain⟨o,ho,hc,hd⟩:=id t;have T:=t.typeIs;unfold pyNext;refine ad (wpAny_attempt (fw (name:="__next__") T gf (c5 gf T PySem.F.entry_dict_keyiterator_next (ad (ag (ad (ad ?_)))) (PySem.F.args_dict_keyiterator_next_1 _))))
 first| (refine ad (wpAny_typeNameOfWhole_keyiter T (ag (ad (wpAny_fieldsOf ho hd ?_)))))| (refine ad (wpAny_typeNameOf_keyiter T (ag (ad (wpAny_fieldsOf ho hd ?_)))))
 have z0:Builtin.Dict_items.ownsTuple "dict_keyiterator"=aD:=rfl;rw[z0];simp only[bg,if_false];show ba _ _ (ite ((bv d==cf)=aC) _ _) _ _ s;rw[if_neg (show¬(bv d==cf)=aC from λz=>bh z)];refine ad (ag (ad (wpAny_dictEntries g c ?_)));rw[if_neg (by rw[hn];simp)];refine ad (ag (ad (wpAny_dictEpoch g c ?_)));rw[if_neg (by simp)];have hi:i<es.size:=(f7.mp he).1;refine ag ?_;simp only[show¬((i:Int)<0) by omega,if_false,Int.toNat_natCast,he];refine ad ?_
 first| (refine ad (wpAny_typeNameOfWhole_keyiter T (ag (ad (wpAny_isOneOf_keyiter T ?_)))))| (refine ad (wpAny_typeNameOf_keyiter T (ag (ad (wpAny_isOneOf_keyiter T ?_)))))
 show ba _ _ (setField (.ref q) 1 (rawInt ((i:Int)+1)) >>=_) _ _ s;refine ad (wpAny_setField ho hd (by simp) ?_);have t':(s.heap.update q (Obj.mapFields (·.setIfInBounds 1 (rawInt ((i:Int)+1))))).IsKeyIter q d (i+1) n ep:=⟨_,Heap.get?_update_self _ ho (Obj.isFreed_of_fields (Obj.data_mapFields hd _)),(Obj.cls_mapFields ..).trans hc,(Obj.data_mapFields hd _).trans (by simp[rawInt])⟩
 refine ad (f9 (ad (wpAny_isOneOf_keyiter (s:={s with heap:=s.heap.update q (Obj.mapFields (·.setIfInBounds 1 (rawInt ((i:Int)+1))))}) t'.typeIs (show ba _ _ (pure e.key) _ _ _ from ag (ag ⟨_,rfl,ag (k _ t' (Heap.SameBut.update ..))⟩)))))
theorem Ra{Q:Option aj->am->Prop}(hh:A.handled=aB)(t:s.heap.IsKeyIter q d i n ep)(g:s.heap.get? d=aA od)(c:od.data= .dict es ep)(hn:es.size=n)(hi:n<=i)
  (k:∀h',Heap.ExtBut q s.heap h'->Q aB {s with heap:=h'}):ba (bp prog w) A (pyNext (.ref q)) Q E s:=by
 obtain⟨o,ho,hc,hd⟩:=id t;have T:=t.typeIs;unfold pyNext;refine ad (wpAny_attempt (fw (name:="__next__") T gf (c5 gf T PySem.F.entry_dict_keyiterator_next (ad (ag (ad (ad ?_)))) (PySem.F.args_dict_keyiterator_next_1 _))))
 first| (refine ad (wpAny_typeNameOfWhole_keyiter T (ag (ad (wpAny_fieldsOf ho hd ?_)))))| (refine ad (wpAny_typeNameOf_keyiter T (ag (ad (wpAny_fieldsOf ho hd ?_)))))
 have z0:Builtin.Dict_items.ownsTuple "dict_keyiterator"=aD:=rfl;rw[z0];simp only[bg,if_false];show ba _ _ (ite ((bv d==cf)=aC) _ _) _ _ s;rw[if_neg (show¬(bv d==cf)=aC from λz=>bh z)];refine ad (ag (ad (wpAny_dictEntries g c ?_)));rw[if_neg (by rw[hn];simp)];refine ad (ag (ad (wpAny_dictEpoch g c ?_)));rw[if_neg (by simp)];have he:es[i]? =aB:=Array.getElem?_eq_none (by omega);refine ag ?_;simp only[show¬((i:Int)<0) by omega,if_false,Int.toNat_natCast,he];refine ad ?_
 first| (refine ad (wpAny_typeNameOfWhole_keyiter T (ag ?_)))| (refine ad (wpAny_typeNameOf_keyiter T (ag ?_)))
 show ba _ _ (setField (.ref q) 0 cf >>=_) _ _ s;refine ad (wpAny_setField ho hd (by simp) (show ba _ _ (newExc (.type "StopIteration") [] >>=_) _ _ _ from ad ?_));simp only[newExc,newTuple];refine ad (dv (ad (m:=firstArgMember _ _) (wpAny_of_eq (a:=cf) (by first|rfl| (simp only[firstArgMember];rfl)) (dv ?_ (by size_fits)))) (by size_fits));simp only[raiseNew];refine ad (wpAny_handled ?_);rw[show A.in1.handled=Option.none from hh];refine ad (ag (wpAny_throw ?_));refine ad (gg (T:="StopIteration") (b:=aC) (by exact⟨_,a9 _ rfl,rfl⟩) isSubtype_stop ?_);exact ag (k _ (((Heap.SameBut.update ..).extBut.push _).push _))
theorem Db{P:bu}{w:ck}{k:Key}{u:aj}(h:(Zk P w).is k u=aC):Zm (kV k) u:=by
 rcases Z0 h with⟨i,t,rfl,rfl⟩|⟨x,t,rfl,rfl⟩
 ·exact⟨t,rfl⟩
 ·exact⟨t,rfl⟩
end
def Itk(a:ak)(n ep:Nat):It:=
 ⟨λi H=>∃kvs,H a=aA (.dK kvs ep)/\kvs.length=n/\i<n,λi H x H'=>H'=H/\∃kvs kv,H a=aA (.dK kvs ep)/\kvs[i]? =aA kv/\x=kV kv.1,λi H=>∃kvs,H a=aA (.dK kvs ep)/\kvs.length=n/\n<=i⟩
def Itd(a:ak)(n ep:Nat):It:=
 ⟨λi H=>∃kvs bs,H a=aA (.dT kvs ep bs)/\kvs.length=n/\i<n,λi H x H'=>H'=H/\∃kvs bs b,H a=aA (.dT kvs ep bs)/\bs[i]? =aA b/\x= .ref b,λi H=>∃kvs bs,H a=aA (.dT kvs ep bs)/\kvs.length=n/\n<=i⟩
theorem Rb{q d:ak}{i n ep:Nat}{h h':dq}(t:h.IsKeyIter q d i n ep)(k:∀o,h.get? q=aA o->h'.get? q=aA o):h'.IsKeyIter q d i n ep:=let⟨o,e,r⟩:=t;⟨o,k o e,r⟩
theorem Zes{P:bu}{w:ck}{es:List DictEntry}{vs:List (Key×aj)}(h:Pairs (Zk P w) es vs){i:Nat}{kv:Key×aj}(hi:vs[i]? =aA kv):∃e,es[i]? =aA e/\(Zk P w).is kv.1 e.key=aC:=by
 induction h generalizing i with
 |nil=>simp at hi
 | @cons e0 kv0 es0 kvs0 h1 h2 _ ih=>
  cases i with
  |zero=>simp at hi;subst hi;exact⟨e0,by simp,h1⟩
  |succ j=>obtain⟨e,a1,a2⟩:=ih (i:=j) (by simpa using hi);exact⟨e,by simpa using a1,a2⟩
theorem Ce{P:bu}{w:ck}{es:List DictEntry}{vs:List (Key×aj)}(h:Pairs (Zk P w) es vs):es.length=vs.length:=by
 induction h with
 |nil=>rfl
 |cons _ _ _ ih=>rw[bn,bn,ih]
theorem Jp{α β:Type}{R:α->β->Prop}{l:List α}{m:List β}(h:Paired R l m):∀{i:Nat} {x:α},l[i]? =aA x->∃y,m[i]? =aA y/\R x y:=by
 induction h with
 |nil=>intro i x hi;simp at hi
 | @cons a b as bs h1 t ih=>
  intro i x hi;cases i with
  |zero=>simp at hi;subst hi;exact⟨b,by simp,h1⟩
  |succ j=>obtain⟨y,a1,a2⟩:=ih (i:=j) (by simpa using hi);exact⟨y,by simpa using a1,a2⟩
theorem On{P:bu}{w:ck}{K:af}{tg:ci}(a it:ak)(n ep:Nat):Turn P w K tg (Itk a n ep) [it] it (λi h=>h.IsKeyIter it a i n ep)where
 mem:=ah
 obj:=λi h st b hb=>by obtain rfl:=au.mp hb;obtain⟨o,e,c,d⟩:=st;exact⟨o,e,λv z=>by rw[d]at z;cases z⟩
 keep:=λi h h' st k=>Rb st λo e=>k it ah o e
 item:=by
  intro X hP hw hK hc i pins s σ H E I hf st hg;subst hP hw hK;obtain⟨kvs,hq,hn,hi⟩:=hg;obtain⟨z,hd,vs,rel,od,es,g,x,c,ko,pr,nd⟩:=(show Z9 X.prog X.w H s.heap a (.dK kvs ep)from I.hok a _ hq)
  obtain⟨f0,f1,f2,f3,f4,f5⟩:=hf it ah;have hkv:kvs[i]? =aA (kvs[i]'(by omega)):=az (by omega);obtain⟨vv,hv,hr⟩:=Jp rel hkv;obtain⟨e,he,hke⟩:=Zes pr hv;have hz:es.size=n:=by rw[<-aw,Ce pr,<-gu rel,hn]
  refine G9 st g c hz (e:=e) (by rw[<-b5];exact he) λh' st' sb=>?_;have I1:Inv X pins σ H {s with heap:=h'}:=I.turned (t':=s.toks) (λb o hb e=>(sb.2 b hb).trans e) f0 f1 f3 f4 f5;obtain⟨o,e1,c1,d1⟩:=id st';exact⟨e.key,rfl,Tl (s:={s with heap:=h'}) e1 c1 d1 (by decide) ⟨kV (kvs[i]'(by omega)).1,H,I1,Db (by rw[hr.1];exact hke),⟨rfl,kvs,_,hq,hkv,rfl⟩,st',λb hb=>(hf b hb).1⟩⟩
 done:=by
  intro X hP hw hK hc i pins s σ H E I hf st hg;subst hP hw hK;obtain⟨kvs,hq,hn,hi⟩:=hg;obtain⟨z,hd,vs,rel,od,es,g,x,c,ko,pr,nd⟩:=(show Z9 X.prog X.w H s.heap a (.dK kvs ep)from I.hok a _ hq)
  obtain⟨f0,f1,f2,f3,f4,f5⟩:=hf it ah;have hz:es.size=n:=by rw[<-aw,Ce pr,<-gu rel,hn]
  exact Ra (I.ok.hd hc) st g c hz hi λh' eb=>⟨rfl,I.turned (t':=s.toks) (λb o hb e=>eb b o hb e) f0 f1 f3 f4 f5⟩
 self:=λ_ _ s _ _ st h=>by exact wpAny_pyIter_slot st.typeIs PySem.F.slot_dict_keyiterator_iter (c5 PySem.F.slot_dict_keyiterator_iter st.typeIs PySem.F.entry_dict_keyiterator_iter (by exact ag ⟨_,rfl,"dict_keyiterator",_,st.typeIs,gf.lookup,h⟩) (PySem.F.args_dict_keyiterator_iter_1 _))
theorem Ziu{P:bu}{w:ck}{K:af}{tg:ci}(a it:ak)(n ep:Nat):Turn P w K tg (Itd a n ep) [it] it (λi h=>h.IsKeyIter it a i n ep)where
 mem:=ah
 obj:=(On (P:=P) (w:=w) (K:=K) (tg:=tg) a it n ep).obj
 keep:=(On (P:=P) (w:=w) (K:=K) (tg:=tg) a it n ep).keep
 item:=by
  intro X hP hw hK hc i pins s σ H E I hf st hg;subst hP hw hK;obtain⟨kvs,bs,hq,hn,hi⟩:=hg;obtain⟨z,hd,xs,rel,od,es,g,x,c,en,nd,hbs⟩:=(show Z9 X.prog X.w H s.heap a (.dT kvs ep bs)from I.hok a _ hq)
  obtain⟨f0,f1,f2,f3,f4,f5⟩:=hf it ah;have hkv:kvs[i]? =aA (kvs[i]'(by omega)):=az (by omega);obtain⟨vv,hv,hr⟩:=Jp rel hkv;have hz:es.size=n:=by rw[<-aw,en,ao,<-gu rel,hn]
  have he:es[i]? =aA (entryOfKey (tupleKind (Zk X.prog X.w)) vv):=by rw[<-b5,en,bf,hv];rfl
  refine G9 st g c hz he λh' st' sb=>?_;have I1:Inv X pins σ H {s with heap:=h'}:=I.turned (t':=s.toks) (λb o hb e=>(sb.2 b hb).trans e) f0 f1 f3 f4 f5;obtain⟨o,e1,c1,d1⟩:=id st';exact⟨.ref vv.2.1,rfl,Tl (s:={s with heap:=h'}) e1 c1 d1 (by decide) ⟨.ref vv.2.1,H,I1,rfl,⟨rfl,kvs,bs,vv.2.1,hq,by rw[<-hbs,bf,hv];rfl,rfl⟩,st',λb hb=>(hf b hb).1⟩⟩
 done:=by
  intro X hP hw hK hc i pins s σ H E I hf st hg;subst hP hw hK;obtain⟨kvs,bs,hq,hn,hi⟩:=hg;obtain⟨z,hd,xs,rel,od,es,g,x,c,en,nd,hbs⟩:=(show Z9 X.prog X.w H s.heap a (.dT kvs ep bs)from I.hok a _ hq)
  obtain⟨f0,f1,f2,f3,f4,f5⟩:=hf it ah;have hz:es.size=n:=by rw[<-aw,en,ao,<-gu rel,hn]
  exact Ra (I.ok.hd hc) st g c hz hi λh' eb=>⟨rfl,I.turned (t':=s.toks) (λb o hb e=>eb b o hb e) f0 f1 f3 f4 f5⟩
 self:=(On (P:=P) (w:=w) (K:=K) (tg:=tg) a it n ep).self
section
variable{X:Cx}{tg:ci}
def Zrn(tl:TE):TI:=λσ H R=>tl σ H λx H1=>(∃a kvs ep,x= .ref a/\H1 a=aA (.dK kvs ep)/\R (Itk a kvs.length ep) H1)\/(∃a kvs ep bs,x= .ref a/\H1 a=aA (.dT kvs ep bs)/\R (Itd a kvs.length ep) H1)
theorem Zng{l:ci}{tl:TE}(hl:PE X l tl):PI X tg l (Zrn tl):=by
 intro pins s σ H R I h;refine Wo (hl pins s σ H _ I h) λv s1 zq9=>?_;obtain⟨x,H1,I1,r1,q1⟩:=zq9;rcases q1 with⟨a,kvs,ep,rfl,hq,q⟩|⟨a,kvs,ep,bs,rfl,hq,q⟩
 ·cases r1;obtain⟨z,hd,vs,rel,od,es,g,x,c,ko,pr,nd⟩:=(show Z9 X.prog X.w H1 s1.heap a (.dK kvs ep)from I1.hok a _ hq)
  have hz:es.size=kvs.length:=by rw[<-aw,Ce pr,<-gu rel]
  refine G8 hd g x c ⟨s1.heap.objs.size,[s1.heap.objs.size],_,_,H1,rfl,I1.kept (t':=s1.toks) λb o e=>aq _ e,On a _ kvs.length ep,⟨_,a9 _ rfl,rfl,by rw[hz];rfl⟩,λb hb=>?_,q⟩;obtain rfl:=au.mp hb;exact I1.fpOk (a8 _) (I1.hok.fresh (a8 _))
 ·cases r1;obtain⟨z,hd,xs,rel,od,es,g,x,c,en,nd,hbs⟩:=(show Z9 X.prog X.w H1 s1.heap a (.dT kvs ep bs)from I1.hok a _ hq)
  have hz:es.size=kvs.length:=by rw[<-aw,en,ao,<-gu rel]
  refine G8 hd g x c ⟨s1.heap.objs.size,[s1.heap.objs.size],_,_,H1,rfl,I1.kept (t':=s1.toks) λb o e=>aq _ e,Ziu a _ kvs.length ep,⟨_,a9 _ rfl,rfl,by rw[hz];rfl⟩,λb hb=>?_,q⟩;obtain rfl:=au.mp hb;exact I1.fpOk (a8 _) (I1.hok.fresh (a8 _))
end
end L2
namespace DL
open PySem PySem.Spec PyProof.Rows L2
variable{K:af}
@[simp] def R7:Key->D
 | .inl i=>.int i
 | .inr x=>.str x
theorem Po{F:Hp}(k:Key):Rep K F (R7 k) (kV k):=by
 cases k with
 |inl i=>exact .int i
 |inr x=>exact .str x
theorem R8{F:Hp}:∀k:List Key,Reps K F (k.map R7) (k.map kV)
 | []=>.nil
 |k::r=>.cons (Po k) (R8 r)
theorem Zbf{F:Hp}{a:ak}{kvs:List (Key×V)}{ep:Nat}(h:F a=aA (.dK kvs ep)):Ux K (Itk a kvs.length ep) F ((kvs.map (·.1)).map R7):=λF' H sF sH i=>by have q:H a=aA (.dK kvs ep):=sH _ _ (sF _ _ h);refine⟨λd hd=>?_,λhl=>⟨kvs,q,rfl,by simpa using hl⟩⟩;rw[bx,bf]at hd;obtain⟨kv,h1,h2⟩:=cm.mp hd;refine⟨⟨kvs,q,rfl,(ax.mp h1).1⟩,λx H' ⟨e1,kvs',kv',e2,e3,e4⟩=>?_⟩;subst e1;rw[q]at e2;cases e2;rw[h1]at e3;cases e3;subst e4;rw[<-h2];exact⟨Ze.refl _,[],c7,λ_ h=>(nomatch h),Po _⟩
theorem Zbg{F:Hp}{a:ak}{kvs:List (List Key×V)}{ep:Nat}{bs:List ak}(h:F a=aA (.dT kvs ep bs))(kb:KB F kvs bs):Ux K (Itd a kvs.length ep) F ((kvs.map (·.1)).map λk=>D.tup (k.map R7)):=λF' H sF sH i=>by have q:H a=aA (.dT kvs ep bs):=sH _ _ (sF _ _ h);refine⟨λd hd=>?_,λhl=>⟨kvs,bs,q,rfl,by simpa using hl⟩⟩;rw[bx,bf]at hd;obtain⟨kv,h1,h2⟩:=cm.mp hd;refine⟨⟨kvs,bs,q,rfl,(ax.mp h1).1⟩,λx H' ⟨e1,kvs',bs',b,e2,e3,e4⟩=>?_⟩;subst e1;rw[q]at e2;cases e2;subst e4;obtain⟨b',g1,g2⟩:=Jp (kb.mono sF) h1;rw[e3]at g1;cases g1;rw[<-h2];exact⟨Ze.refl _,[],c7,λ_ h=>(nomatch h),.tup g2 (R8 _)⟩
section
variable{Z:Ent K}{H:Hp}{σ:L2.St}
@[simp] def Zbh(fe:FE):FD:=λδ=>(fe δ).bind λp=>(frz p.1 p.2).bind λq=>match q.1 with
 | .dK ks _=>aA (ks.map R7,q.2)
 | .dT ks _=>aA (ks.map λk=>D.tup (k.map R7),q.2)
 |_=>aB
theorem Znh{fe:FE}{R:It->Hp->Prop}(h:W5 Z (Zbh fe) σ H R):Zrn (Zc Z fe) σ H R:=by
 obtain⟨F,δ,own,ds,δ',s,e,k⟩:=h;obtain⟨⟨rv,δ1⟩,e1,e2⟩:=aa.mp e;obtain⟨⟨d,δ2⟩,e3,e4⟩:=aa.mp e2;refine⟨F,δ,own,rv,δ1,s,e1,λv H1 F1 own1 sH sF s1 r1=>?_⟩;obtain⟨F2,sF2,s2,r2⟩:=s1.settleR r1;obtain⟨F3,own3,sF3,s3,r3⟩:=s2.frzR r2 e3;dsimp only at e4;split at e4
 ·cases e4;cases r3 with
  |dK h e r=>subst e;exact .inl ⟨_,_,_,rfl,s3.le _ _ h,k _ H1 F3 own3 sH (sF.trans (sF2.trans sF3)) s3 (Zbf h)⟩
 ·cases e4;cases r3 with
  |dT h kb e r=>subst e;exact .inr ⟨_,_,_,_,rfl,s3.le _ _ h,k _ H1 F3 own3 sH (sF.trans (sF2.trans sF3)) s3 (Zbg h kb)⟩
 ·cases e4
end
theorem Zk2{X:Cx}{tg:ci}{Z:Ent X.K}{a:ci}{fa:FE}(ha:PE X a (Zc Z fa)):PI X tg a (W5 Z (Zbh fa)):=λpins s σ H R I h=>Zng ha pins s σ H R I (Znh h)
end DL
namespace DL
open PySem PySem.Spec PyProof.Rows L2
variable{K:af}
@[simp] def inW(d1 d2:D):Option SV:=match d2.seq? with
 |some xs=>if d1.isFlat=aC/\xs.all D.isFlat=aC then aA (.fz (.bl (Lm d1 xs)))else aB
 |none=>inD d1 d2
@[simp] def Zv2(d1 d2:D):Option SV:=match d2.seq? with
 |some xs=>if d1.isFlat=aC/\xs.all D.isFlat=aC then aA (.fz (.bl (!Lm d1 xs)))else aB
 |none=>K9 d1 d2
end DL
namespace L2
open PySem PySem.Spec PyProof.Rows
section
variable{X:Cx}
def Z0t:R2:=λx y H Q=>∃a b kvs,x= .ref a/\y= .ref b/\HTt H a kvs/\HTt H b kvs/\(∀p∈kvs,Yd p.2=aC)/\Q (.bl aC) H
end
end L2
namespace DL
open PySem PySem.Spec PyProof.Rows L2
variable{K:af}
def Zro(ks ks':List (List Key))(vs vs':List D):Bool:=@decide (ks=ks'/\vs=vs'/\vs.all D.isFlat=aC) (Classical.propDecidable _)
@[simp] def Z0u(d1 d2:D):Option SV:=match d1,d2 with
 | .dT ks vs,.dT ks' vs'=>if Zro ks ks' vs vs'=aC then aA (.fz (.bl aC))else aB
 |_,_=>aB
end DL
namespace DL
open PySem PySem.Spec PyProof.Rows L2
end DL
namespace DL
open PySem PySem.Spec PyProof.Rows L2
variable{K:af}
@[simp] def V4(src:List BSrc)(k:Nat)(g:FG)(tt:FT)(te:FE):List D->Yg->Option Yg
 | [],δ=>aA δ
 |d::ds,δ=>(g.run d δ).bind λδ1=>(tt δ1).bind λp=>if p.1=aC then(te p.2).bind λq=>match q.1,q.2[k]? with
   | .tmp (.ol xs),aA (aA (.oL aB zs))=>if zs.length<a7 then V4 src k g tt te ds (U8 src (q.2.set k (aA (.oL aB (zs++[xs])))))else aB
   |_,_=>aB
  else V4 src k g tt te ds (U8 src p.2)
@[simp] def Zv3(src:List BSrc)(k:Nat)(fi:FD)(g:FG)(tt:FT)(te:FE):FE:=λδ=>(fi δ).bind λp=>(frzAll (caps src) p.2).bind λc=>(V4 src k g tt te p.1 ((bD src c.2).set k (some (.oL none [])))).bind λδb=>match δb[k]? with
 |some (aA (.oL aB ys))=>aA (.tmp (.oL aB ys),c.2)
 |_=>aB
theorem SR.drop{Z:Ent K}{F H:Hp}{σ:L2.St}{δ:Yg}{own:Nat->Zo}(i:Nat)(s:SR Z F H σ δ own):SR Z F H σ (δ.set i aB) (put own i []):=by
 refine⟨s.le,s.fro,s.old,by rw[List.length_set];exact s.len,λj sv e=>?_,λj=>?_,λj p hp=>?_,λj k p q hjk hp hq=>?_⟩
 ·by_cases hj:j=i
  ·subst hj;rw[List.getElem?_set]at e;rw[if_pos rfl]at e;split at e
   ·cases e
   ·cases e
  ·rw[d6 (Ne.symm hj)]at e;rw[Yb hj];exact s.at' j sv e
 ·by_cases hj:j=i
  ·subst hj;rw[Z4];exact c7
  ·rw[Yb hj];exact s.nod j
 ·by_cases hj:j=i
  ·subst hj;rw[Z4]at hp;exact nomatch hp
  ·rw[Yb hj]at hp;exact s.ok j p hp
 ·by_cases hj:j=i
  ·subst hj;rw[Z4]at hp;exact nomatch hp
  ·by_cases hk:k=i
   ·subst hk;rw[Z4]at hq;exact nomatch hq
   ·rw[Yb hj]at hp;rw[Yb hk]at hq;exact s.sep j k p q hjk hp hq
section
variable{Z:Ent K}{H:Hp}{σ:L2.St}{Q:VK}{E:Yq}
def Zk3(i p q:Nat):FE:=λδ=>match δ[i]?,δ[p]?,δ[q]? with
 |some (aA (.oL aB xss)),aA (aA (.fz (.int n))),aA (aA (.fz (.lst xs)))=>if 0<=n/\n.toNat<=xss.length/\xss.length+1<=a7 then aA (.tmp (.oL aB (xss.take n.toNat++[xs]++xss.drop n.toNat)),δ.set i aB)else aB
 |_,_,_=>aB
@[simp] theorem Zrp{i p q:Nat}{δ:Yg}{xss:List (List D)}{n:Nat}{xs:List D}(hi:δ[i]? =some (some (.oL none xss)))(hp:δ[p]? =some (some (.fz (.int (n:Nat)))))(hq:δ[q]? =some (some (.fz (.lst xs))))(hn:n<=xss.length)(hz:xss.length+1<=a7):
  Zk3 i p q δ=aA (.tmp (.oL aB (xss.take n++[xs]++xss.drop n)),δ.set i aB):=by
 unfold Zk3;rw[hi,hp,hq];dsimp only;rw[if_pos ⟨by omega,by omega,hz⟩,Int.toNat_natCast]
abbrev Z0v(K:af):List V->Hp->VK->Prop:=λxs H Q=>∃p ys,xs=[V.ref p]/\(Wp K H p ys\/Uk K H p ys)/\∀l,H l=aB->Q (.ref l) (Z5 H l (.lst ys))
@[simp] def apT(c:Str)(n:Nat)(xss:List (List D)):List (List D):=(xss.take n).map (· ++[.str c])++xss.drop n
def Dc(i j:Nat)(c:Str):FS:=λδ=>match δ[i]? with
 |some (aA (.oL aB xss))=>if i≠j/\j<δ.length/\(∀xs∈xss,xs.length<a7)then aA (.nx ((δ.set j aB).set i (aA (.oL aB (xss.map (· ++[.str c]))))))else aB
 |_=>aB
@[simp] theorem Zni{i j:Nat}{c:Str}{δ:Yg}{xss:List (List D)}(hi:δ[i]? =some (some (.oL none xss)))(hij:i≠j)(hj:j<δ.length)(hz:∀xs∈xss,xs.length<a7):Dc i j c δ=some (.nx ((δ.set j none).set i (some (.oL none (xss.map (· ++[.str c])))))):=by unfold Dc;rw[hi];dsimp only;rw[if_pos ⟨hij,hj,hz⟩]
def Dd(i:Nat):FS:=λδ=>match δ[i]? with
 |some (aA (.oL aB _))=>aA (.nx (δ.set i (aA (.ol []))))
 |_=>aB
@[simp] theorem Znj{i:Nat}{δ:Yg}{xss:List (List D)}(hi:δ[i]? =some (some (.oL none xss))):Dd i δ=some (.nx (δ.set i (some (.ol [])))):=by unfold Dd;rw[hi]
end
end DL
namespace DL
open PySem PySem.Spec PyProof.Rows L2
section
variable{X:Cx}{Z:Ent X.K}{a b c:ci}{fa fb fc:FE}{pos:Pos}
theorem Pp(i:Nat){x:Str}{pos:Pos}(hN:X.N[i]? =aA x:=by rfl)(hv:Sy X.env.scope x:=by first|exact Or.inl rfl|exact gp (Or.inl rfl)|exact gp (gp rfl))(hd:(x==("__debug__":Str))=aD:=by decide)
  (hcd:(x==("__classdict__":Str))=aD:=by decide):PE X (.Name x pos) (Ja i):=Js hN hv hd hcd
end
end DL
namespace DL
open PySem PySem.Spec PyProof.Rows L2
variable{K:af}
def Ztx(K:af)(C:ak)(f:Str):Sp:=λvs H Q _=>∃e p ys,vs=[.ref e,.ref p]/\H e=aA (.ext (Bu e C aB))/\(Wp K H p ys\/Uk K H p ys)/\
 ∀l,H l=aB->∀dx,Z5 H l (.lst ys) dx=aB->Q .non (Z5 (Z5 (Z5 H l (.lst ys)) dx (.xd [(f,.ref l)])) e (.ext (Bu e C (aA dx))))
def Zty(C:ak)(f:Str):Sp:=λvs H Q _=>∃e v,vs=[.ref e,v]/\H e=aA (.ext (Bu e C aB))/\
 ∀dx,H dx=aB->Q .non (Z5 (Z5 H dx (.xd [(f,v)])) e (.ext (Bu e C (aA dx))))
section
variable{Z:Ent K}{H:Hp}{σ:L2.St}{E:Yq}{Q:VK}
@[simp] def Zv4(c f:Str)(fe:FE):FS:=λδ=>(fe δ).bind λp=>(frz p.1 p.2).bind λq=>match q.1 with
 | .lst ds=>aA (.ex ⟨c,[f],[.lst ds]⟩ q.2)
 |_=>aB
@[simp] def Zv5(c f:Str)(fe:FE):FS:=λδ=>(fe δ).bind λp=>(frz p.1 p.2).bind λq=>some (.ex ⟨c,[f],[q.1]⟩ q.2)
@[simp] def Zx3(cs:List Str)(f:Str):D->Option SV
 | .exc c ks vs=>if c∈cs then((ks.zip vs).lookup f).bind λd=>aA (.fz d)else aB
 |_=>aB
end
end DL
namespace DL
open PySem PySem.Spec PyProof.Rows L2
variable{K:af}
abbrev Zet(H:Hp)(bs:List ak)(xss:List (List Str)):Prop:=Paired (λ(b:ak) (xs:List Str)=>H b=aA (.tup (xs.map V.str))) bs xss
open Classical in
def eqT(H:Hp)(ss:List Str):aj->Bool:=λw=>decide (∃b,w= .ref b/\H b=aA (.tup (ss.map V.str)))
section
variable{X:Cx}{pins:List (ak×Obj)}{σ:L2.St}{H:Hp}{s:am}
def Z0w(K:af)(neg:Bool):R2:=λx y H Q=>∃b ss a bs xss,x= .ref b/\H b=aA (.tup (ss.map V.str))/\y= .ref a/\Wp K H a (bs.map V.ref)/\Zet H bs xss/\Q (.bl (if neg then !(xss.any λxs=>decide (xs=ss))else xss.any λxs=>decide (xs=ss))) H
def Ztz(K:af):V->List V->Hp->VK->Prop:=λx xs H Q=>∃b ss a bs xss j,xs=[.ref b]/\H b=aA (.tup (ss.map V.str))/\x= .ref a/\Wp K H a (bs.map V.ref)/\Zet H bs xss/\(xss.findIdx? λxs=>decide (xs=ss))=aA j/\Q (.int (j:Nat)) H
end
@[simp] def tl?:List D->Option (List (List Str))
 | []=>aA []
 | .tup ds::r=>(strs? ds).bind λx=>(tl? r).bind λt=>aA (x::t)
 |_=>aB
@[simp] def inP:D->D->Option SV
 | .tup a,.lst xs=>(strs? a).bind λss=>(tl? xs).bind λxss=>aA (.fz (.bl (xss.any λx=>decide (x=ss))))
 |_,_=>aB
@[simp] def Zv6:D->D->Option SV
 | .tup a,.lst xs=>(strs? a).bind λss=>(tl? xs).bind λxss=>aA (.fz (.bl (!(xss.any λx=>decide (x=ss)))))
 |_,_=>aB
@[simp] def Zv7:List D->Option SV
 | [.lst xs,.tup a]=>(strs? a).bind λss=>(tl? xs).bind λxss=>(xss.findIdx? λx=>decide (x=ss)).bind λj=>aA (.fz (.int (j:Nat)))
 |_=>aB
end DL
namespace DL
open PySem PySem.Spec PyProof.Rows L2
variable{K:af}
section
variable{Z:Ent K}{H:Hp}{σ:L2.St}{Q:VK}
@[simp] def Zx4(k0:Str)(f0:FE)(j:Nat)(f1:FE):FE:=λδ=>match δ[j]? with
 |some (aA (.fz (.str x)))=>(Zf f0 (Zf f1 Zl) δ).bind λp=>match p.1 with
  | [v0,v1]=>if k0=x then aB else aA (.tmp (.oK [.inr k0,.inr x] [v0,v1]),p.2)
  |_=>aB
 |_=>aB
end
end DL
namespace L2
open PySem PySem.Spec PyProof.Rows
section
variable{X:Cx}
def Zt0(K:af):V->List V->Hp->VK->Prop:=λx xs H Q=>∃p ys y,x= .ref p/\xs=[y]/\Wp K H p ys/\Yd y=aC/\ys.all Yd=aC/\Q (.int ((ys.countP λz=>Nt z y):Nat)) H
def Zv8:V->List V->Hp->VK->Prop:=λx xs H Q=>∃a b i,x= .str a/\xs=[.str b,.int i]/\Q (.int (Txt.find3 a b i)) H
end
end L2
namespace DL
open PySem PySem.Spec PyProof.Rows L2
variable{K:af}
section
variable{Z:Ent K}{H:Hp}{σ:L2.St}{Q:VK}{E:Yq}
@[simp] def Zv9:List D->Option SV
 | [.lst xs,x]=>if x.isFlat=aC/\xs.all D.isFlat=aC then aA (.fz (.int ((xs.countP λy=>Vw y x):Nat)))else aB
 |_=>aB
@[simp] def Zwa:List D->Option SV
 | [.str a,.str b,.int i]=>aA (.fz (.int (Txt.find3 a b i)))
 |_=>aB
@[simp] def Z0x(i:Nat)(j:Int):FS:=λδ=>match δ[i]? with
 |some (aA (.fz (.int x)))=>aA (.nx (δ.set i (aA (.fz (.int (x+j))))))
 |_=>aB
@[simp] def Zx5:FE:=λδ=>some (.tmp (.oL none [[]]),δ)
def Zk4(i:Nat):FS:=λδ=>match δ[i]? with
 |some (aA (.oL p xss))=>if xss.length<a7 then aA (.nx (δ.set i (aA (.oL p (xss++[[]])))))else aB
 |_=>aB
@[simp] theorem Zrq{i:Nat}{δ:Yg}{p:Option ak}{xss:List (List D)}(hi:δ[i]? =some (some (.oL p xss)))(hz:xss.length<a7):Zk4 i δ=some (.nx (δ.set i (some (.oL p (xss++[[]]))))):=by unfold Zk4;rw[hi];exact if_pos hz
abbrev Z0y(K:af)(i:Nat):TE:=tOp (Zmc K) (Ja i) (tC (.int (-1)))
def Zrr(i:Nat)(fe:FE):FS:=λδ=>match δ[i]? with
 |some (aA (.oL _ xss0))=>if xss0.length=0 then aB else(fe δ).bind λq=>(frz q.1 q.2).bind λr=>match r.2[i]? with
  |some (aA (.oL p xss))=>(xss[xss.length- 1]?).bind λxs=>if xs.length<a7 then aA (.nx (r.2.set i (aA (.oL p (xss.set (xss.length- 1) (xs++[r.1]))))))else aB
  |_=>aB
 |_=>aB
end
end DL
namespace DL
open PySem PySem.Spec PyProof.Rows L2
variable{K:af}
section
variable{Z:Ent K}{H:Hp}{σ:L2.St}{Q:VK}{E:Yq}
def Zk5(i:Nat):FE:=λδ=>match δ[i]? with
 |some (aA (.oL _ xss))=>aA (.tmp (.fz (.int (xss.length:Nat))),δ)
 |_=>aB
@[simp] theorem Zrs{i:Nat}{δ:Yg}{p:Option ak}{xss:List (List D)}(hi:δ[i]? =some (some (.oL p xss))):Zk5 i δ=some (.tmp (.fz (.int (xss.length:Nat))),δ):=by unfold Zk5;rw[hi]
abbrev Zx6(K:af):List V->Hp->VK->Prop:=λxs H Q=>∃p ys,xs=[V.ref p]/\(Wp K H p ys\/Uk K H p ys)/\Q (.int ys.length) H
def Zt1(i:Nat):FE:=λδ=>match δ[i]? with
 |some (aA (.oL _ xss))=>(xss[xss.length- 1]?).bind λxs=>aA (.tmp (.fz (.int (xs.length:Nat))),δ)
 |_=>aB
def Zt2(i:Nat):FE:=λδ=>match δ[i]? with
 |some (aA (.oL _ xss))=>(xss[xss.length- 1]?).bind λxs=>(xs[xs.length- 1]?).bind λd=>aA (.tmp (.fz d),δ)
 |_=>aB
def Pq(i:Nat):FE:=λδ=>match δ[i]? with
 |some (aA (.oL _ (xs::_)))=>aA (.tmp (.fz (.tup xs)),δ)
 |_=>aB
@[simp] theorem Zk6{i:Nat}{δ:Yg}{p:Option ak}{xss:List (List D)}{xs:List D}(hi:δ[i]? =some (some (.oL p (xs::xss)))):Pq i δ=some (.tmp (.fz (.tup xs)),δ):=by unfold Pq;rw[hi]
abbrev Zx7(K:af):List V->Hp->VK->Prop:=λxs H Q=>∃p ys,xs=[V.ref p]/\((Wp K H p ys/\∀l,H l=aB->Q (.ref l) (Z5 H l (.tup ys)))\/(Uk K H p ys/\Q (.ref p) H))
def Zx8(j i:Nat):FS:=λδ=>match δ[i]? with
 |some (aA (.oL p xss))=>(xss[xss.length- 1]?).bind λxs=>if i≠j/\j<δ.length then aA (.nx ((δ.set i (aA (.oL p xss.dropLast))).set j (aA (.ol xs))))else aB
 |_=>aB
def Ez(H:Hp)(ns:Zo):Hp:=λb=>if b∈Cu ns then aB else H b
def spM(K:af)(g:ak->List (List D)->Option (List (List D))):Sp:=λvs H Q _=>∃F a xss ws ns yss,vs=[V.ref a]/\Ze F H/\Kids K F xss ws ns/\(Cu ((a,HO.lst ws)::ns)).Nodup/\(∀p∈(a,HO.lst ws)::ns,F p.1=aB/\H p.1=aA p.2)/\g a xss=aA yss/\
 ∀H' F' ws' ns',Ze (Ez H ((a,.lst ws)::ns)) H'->Ze F F'->Ze F' H'->(∀(b:ak) (o:HO),F' b=aA o->F b=aA o\/Ez H ((a,.lst ws)::ns) b=aB)->Kids K F' yss ws' ns'->(Cu ((a,HO.lst ws')::ns')).Nodup->
  (∀p∈(a,HO.lst ws')::ns',F' p.1=aB/\Ez H ((a,.lst ws)::ns) p.1=aB/\H' p.1=aA p.2)->Q .non H'
@[simp] def Zeu(n:Nat)(a:ak)(xss:List (List D)):Yg:=some (.oL (some a) xss)::List.replicate (n- 1) none
@[simp] def Zk7(a:ak)(o:Option (Option SV)):Option (List (List D)):=match o with
 |some (aA (.oL (aA b) yss))=>if b=a then aA yss else aB
 |_=>aB
@[simp] def Z0z(f:FS)(n:Nat)(a:ak)(xss:List (List D)):Option (List (List D)):=match f (Zeu n a xss)with
 |some (.nx δ)=>Zk7 a δ[0]?
 |_=>aB
open Classical in
def Z00(i:Nat)(g:ak->List (List D)->Option (List (List D))):FS:=λδ=>match δ[i]? with
 |some (aA (.oL p xss))=>if h:∃o,∀a,g a xss=aA o then aA (.nx (δ.set i (aA (.oL p h.choose))))else aB
 |_=>aB
end
end DL
namespace DL
open PySem PySem.Spec PyProof.Rows L2
end DL
namespace L2
open PySem PySem.Spec PyProof.Rows
section
variable{X:Cx}
abbrev Zx9:List V->Hp->VK->Prop:=λxs H Q=>∃(x:Str) (n:Int),xs=[V.str x]/\PySem.intText? x=aA n/\x.length<=640/\Q (.int n) H
end
end L2
namespace DL
open PySem PySem.Spec PyProof.Rows L2
variable{K:af}
def Zya:List D->Option SV
 | [.str x]=>if x.length<=640 then(PySem.intText? x).bind λn=>aA (.fz (.int n))else aB
 |_=>aB
end DL
namespace L2
open PySem PySem.Spec PyProof.Rows
section
variable{X:Cx}
def Zyb(K:af):V->List V->Hp->VK->Prop:=λx vs H Q=>∃l b xs zs,x= .ref l/\vs=[.ref b]/\H l=aA (.lst xs)/\Uk K H b zs/\xs.length+zs.length<=sizeLine/\Q .non (Z5 H l (.lst (xs++zs)))
theorem Pr:∀{xs:List V} {its:List aj},xs.length=its.length->(∀(j:Nat) (x:V) (v:aj),xs[j]? =aA x->its[j]? =aA v->Zm x v)->Zw xs its
 | [],[],_,_=>.nil
 |x::xs,v::its,h,g=>.cons (g 0 x v rfl rfl) (Pr (by simpa using h) λj x v a b=>g (j+1) x v (by simpa using a) (by simpa using b))
 | [],_::_,h,_=>nomatch h
 |_::_,[],h,_=>nomatch h
def Zev:List V->Hp->VK->Prop:=λxs H Q=>∃p kvs,xs=[.ref p]/\RdK H p kvs/\∀l,H l=aB->Q (.ref l) (Z5 H l (.lst (kvs.map λkv=>kV kv.1)))
theorem Ah(hc:X.calm=aC):Qd X (.type "list") Zev:=by
 intro pins s σ H xs us Q I r h;obtain⟨p,kvs,rfl,⟨ep,e⟩,q⟩:=h;obtain⟨u,rfl,rx⟩:=Jt r;cases rx;obtain⟨z,hd,vs,rel,dd⟩:=(show Z9 X.prog X.w H s.heap p (.dK kvs ep)from Zc1 I.hok e)
 have hl:vs.length=kvs.length:=(gu rel).symm;refine PySem.W.kdl_call (PySem.W.kdl_dict (knd:=Zk X.prog X.w) (kvs:=vs) (ep:=ep) hd) (I.ok.hd hc) dd (by rw[hl];exact z) λh' tk acc' c' hk hD hacc=>?_;have hv:Zw (kvs.map λkv=>kV kv.1) acc'.toList:=by refine Pr ((ao _).trans (hl.symm.trans (hacc.1.symm.trans (aw).symm))) λj x v hx hv=>?_;obtain⟨k,y,e1,e2⟩:=hacc.2 j v (by rw[<-b5];exact hv);rw[bf]at hx;obtain⟨kv,e3,e4⟩:=cm.mp hx;obtain⟨q',e5,e6,_⟩:=Jp rel e3;rw[e5]at e1;cases e1;rw[<-e4,e6];exact Db e2
 exact⟨.ref s.heap.objs.size,_,I.laid (t':=tk) hk (a8 _) (show Z9 X.prog X.w _ h' _ (.lst (kvs.map λkv=>kV kv.1))from⟨by rw[ao];exact z,acc'.toList,c',hv,by simpa using hD⟩),rfl,q _ (I.hok.fresh (a8 _))⟩
end
end L2
namespace DL
open PySem PySem.Spec PyProof.Rows L2
variable{K:af}
def Ps:List D->Option SV
 | [.dK ks _]=>aA (.ol (ks.map R7))
 |_=>aB
@[simp] theorem Zrt(ks:List Key)(vs:List D):Ps [.dK ks vs]=some (.ol (ks.map R7)):=rfl
section
variable{Z:Ent K}{H:Hp}{σ:L2.St}{Q:VK}{E:Yq}
theorem Znk:Jy Z Zev Ps:=by
 intro F H σ δ own vs ds sv Q s r e k;unfold Ps at e;split at e
 ·cases e;cases r with
  |cons h t=>
   cases t;obtain⟨a,kvs,rfl,ha,ek,rr⟩:=h.dK s.le;refine⟨a,kvs,rfl,ha.rd,λl hl=>?_⟩;rw[<-ek]at k;have hr:=R8 (K:=K) (F:=F) (kvs.map (·.1));have hr:Reps K F ((kvs.map (·.1)).map R7) (kvs.map λkv=>kV kv.1):=by rw[bx (g:=kV)]at hr;exact hr
   exact k.one s (.ol hr) hl
 ·cases e
@[simp] def SV.tup?:RV->Option (List D)
 | .tmp (.fz (.tup ys))=>aA ys
 |_=>aB
@[simp] def Zyc(i:Nat)(fe:FE):FS:=λδ=>match δ[i]? with
 |some (aA (.ol _))=>(fe δ).bind λp=>(SV.tup? p.1).bind λys=>match p.2[i]? with
  |some (aA (.ol xs))=>if xs.length+ys.length<=a7 then aA (.nx (p.2.set i (aA (.ol (xs++ys)))))else aB
  |_=>aB
 |_=>aB
end
section
variable{X:Cx}{Z:Ent X.K}{a b c:ci}{fa fb fc:FE}{pos:Pos}
theorem Znl{p:Pos}(hc:X.calm=aC)(hm:X.mg "list"=aB)(ha:PE X a (Zc Z fa))(hg:Gl X "list":=by rfl)(he:ay [a] X.env=(aD,f8 a X.env)::ay [] X.env:=by rfl)(hpl:(f6 pos (ay [] X.env)).any (·.1)=aD:=by rfl):PE X (.Call (.Name "list" p) [a] [] pos) (Zc Z (Yl Ps (Zd fa Zp))):=
 Gy (Ah hc) Znk hm boot_list (Zq ha Ym he) hg (by decide) (by decide) he hpl
end
end DL
namespace DL
open PySem PySem.Spec PyProof.Rows L2
section
variable{K:af}{Z:Ent K}{H:Hp}{σ:L2.St}{Q:VK}
@[simp] def bmX(T:String)(g:List D->Option SV)(fo:FE)(fa:FAX):FX:=λδ=>(fo δ).bind λp=>(Ev p.1 p.2).bind λd0=>if Zdt T d0=true then(fa p.2).bind fun
 | .x e δ2=>aA (.x e δ2)
 | .v rvs δ2=>(Uo (p.1::rvs) δ2).bind λds=>(g ds).bind λsv=>aA (.v (.tmp sv) δ2)else aB
end
end DL
namespace DL
open PySem PySem.Spec PyProof.Rows L2
section
variable{K:af}{Z:Ent K}{H:Hp}{σ:L2.St}{Q:VK}{E:Yq}
inductive MR where
 |v (yss:List (List D))|x (e:Exn)
def Z01(K:af)(g:ak->List (List D)->Option MR):Sp:=λvs H Q E=>∃F a xss ws ns r,vs=[V.ref a]/\Ze F H/\Kids K F xss ws ns/\(Cu ((a,HO.lst ws)::ns)).Nodup/\(∀p∈(a,HO.lst ws)::ns,F p.1=aB/\H p.1=aA p.2)/\g a xss=aA r/\match r with
 | .v yss=>∀H' F' ws' ns',Ze (Ez H ((a,.lst ws)::ns)) H'->Ze F F'->Ze F' H'->(∀(b:ak) (o:HO),F' b=aA o->F b=aA o\/Ez H ((a,.lst ws)::ns) b=aB)->Kids K F' yss ws' ns'->(Cu ((a,HO.lst ws')::ns')).Nodup->
   (∀p∈(a,HO.lst ws')::ns',F' p.1=aB/\Ez H ((a,.lst ws)::ns) p.1=aB/\H' p.1=aA p.2)->Q .non H'
 | .x e=>∀cls od H' F',Ze (Ez H ((a,.lst ws)::ns)) H'->Ze F F'->Ze F' H'->(∀(b:ak) (o:HO),F' b=aA o->F b=aA o\/Ez H ((a,.lst ws)::ns) b=aB)->Ky K F' e cls od->E cls od H'
@[simp] def Zyd(f:FS)(n:Nat)(a:ak)(xss:List (List D)):Option MR:=match f (Zeu n a xss)with
 |some (.nx δ)=>(Zk7 a δ[0]?).map .v
 |some (.ex e _)=>aA (.x e)
 |_=>aB
open Classical in
def Zye(i:Nat)(g:ak->List (List D)->Option MR):FS:=λδ=>match δ[i]? with
 |some (aA (.oL p xss))=>if h:∃o,∀a,g a xss=aA o then(match h.choose with
  | .v yss=>aA (.nx (δ.set i (aA (.oL p yss))))
  | .x e=>aA (.ex e (δ.set i aB)))else aB
 |_=>aB
def Zru(i:Nat)(fx:FX):FS:=λδ=>match δ[i]? with
 |some (aA (.oL _ xss0))=>if xss0.length=0 then aB else(fx δ).bind fun
  | .x e δ1=>aA (.ex e δ1)
  | .v rv δ1=>(frz rv δ1).bind λr=>match r.2[i]? with
   |some (aA (.oL p xss))=>(xss[xss.length- 1]?).bind λxs=>if xs.length<a7 then aA (.nx (r.2.set i (aA (.oL p (xss.set (xss.length- 1) (xs++[r.1]))))))else aB
   |_=>aB
 |_=>aB
end
end DL
namespace L2
open PySem PySem.Spec PyProof.Rows
end L2
namespace L2
open PySem PySem.Spec PyProof.Rows
section
variable{X:Cx}
def Zyf(K:af):R2:=λx y H Q=>∃a k xs,x= .ref a/\y= .int k/\Uk K H a xs/\xs≠[]/\2<=k/\k<=1000/\xs.length<=1000/\∀p,H p=aB->Q (.ref p) (Z5 H p (.tup (List.replicate k.toNat xs).flatten))
end
end L2
namespace DL
open PySem PySem.Spec PyProof.Rows L2
variable{K:af}
section
variable{Z:Ent K}
def Zyg:D->D->Option SV
 | .tup xs,.int k=>if xs.isEmpty=aD/\2<=k/\k<=1000/\xs.length<=1000 then aA (.fz (.tup (List.replicate k.toNat xs).flatten))else aB
 |_,_=>aB
end
end DL
namespace L2
open PySem PySem.Spec PyProof.Rows
section
variable{X:Cx}
def Zt3:V->List V->Hp->VK->Prop:=λx xs H Q=>∃a b k,x= .str a/\xs=[.str b,.int k]/\(b.length==0)=aD/\0<=k/\k<=1000/\a.length<=sizeLine/\(Txt.splitMax a b k).length<=sizeLine/\∀p,H p=aB->Q (.ref p) (Z5 H p (.lst ((Txt.splitMax a b k).map V.str)))
end
end L2
namespace DL
open PySem PySem.Spec PyProof.Rows L2
variable{K:af}
section
variable{Z:Ent K}
@[simp] def Zt4:List D->Option SV
 | [.str a,.str b,.int k]=>if(b.length==0)=aD/\0<=k/\k<=1000/\a.length<=a7/\(Txt.splitMax a b k).length<=a7 then aA (.ol ((Txt.splitMax a b k).map D.str))else aB
 |_=>aB
end
end DL
namespace L2
open PySem PySem.Spec PyProof.Rows
section
variable{X:Cx}
def Zwb(K:af)(a:ak):It:=
 ⟨λi H=>∃xs x,Wp K H a xs/\xs[i]? =aA x,λi H x H'=>∃p v,x= .ref p/\H p=aB/\H'=Z5 H p (.tup [.int ((i+1:Nat):Int),v])/\∀xs,Wp K H a xs->xs[i]? =aA v,λi H=>∃xs,Wp K H a xs/\xs.length<=i⟩
def Zwc(K:af)(ta:TA):TI:=λσ H R=>ta σ H λvs H1=>∃a xs,vs=[.ref a]/\Wp K H1 a xs/\R (Zwb K a) H1
end
end L2
namespace DL
open PySem PySem.Spec PyProof.Rows L2
variable{K:af}
def Znm(xs:List D):List D:=(xs.zipIdx 1).map λp=>.tup [.int (p.2:Nat),p.1]
section
variable{Z:Ent K}{H:Hp}{σ:L2.St}{Q:VK}
@[simp] def Zwd(fd:FD):FD:=λδ=>(fd δ).bind λp=>match p.1 with
 | [.lst xs]=>aA (Znm xs,p.2)
 |_=>aB
end
end DL
namespace DL
open PySem PySem.Spec PyProof.Rows L2
variable{K:af}
section
variable{Z:Ent K}
@[simp] def Zyh:List D->Option SV
 | [.lst xs]=>aA (.fz (.int (xs.length:Nat)))
 | [.tup xs]=>aA (.fz (.int (xs.length:Nat)))
 | [.str x]=>if x.length<=a7 then aA (.fz (.int (x.length:Nat)))else aB
 | [.dK ks _]=>aA (.fz (.int (ks.length:Nat)))
 |_=>aB
end
end DL
namespace DL
open PySem PySem.Spec PyProof.Rows L2
variable{K:af}
section
variable{Z:Ent K}{H:Hp}{σ:L2.St}{Q:VK}{E:Yq}
abbrev UR:=D×List Key×List D
abbrev UG:=ak->List D->List Key->List D->Option UR
def spU(K:af)(n:Nat)(g:UG):Sp:=λvs H Q _=>∃F a us ds kvs ep es r,vs=us++[V.ref a]/\Ze F H/\Reps K F ds us/\ds.length=n/\Reps K F es (kvs.map (·.2))/\F a=aB/\H a=aA (.dK kvs ep)/\g a ds (kvs.map (·.1)) es=aA r/\
 ∀v H' F' kvs' ep',Ze (Ez H [(a,.dK kvs ep)]) H'->Ze F F'->Ze F' H'->(∀(b:ak) (o:HO),F' b=aA o->F b=aA o\/Ez H [(a,.dK kvs ep)] b=aB)->Rep K F' r.1 v->kvs'.map (·.1)=r.2.1->Reps K F' r.2.2 (kvs'.map (·.2))->F' a=aB->H' a=aA (.dK kvs' ep')->Q v H'
@[simp] def Zrv:List FS->Yg->Option Yg
 | [],δ=>aA δ
 |f::r,δ=>match f δ with
  |some (.nx δ1)=>Zrv r δ1
  |_=>aB
def Zrw(Z:Ent K):List FS->TS->TS
 | [],t=>t
 |f::r,t=>Tk (Z1 Z f) (Zrw Z r t)
@[simp] def Znn(n:Nat)(a:ak)(ds:List D)(ks:List Key)(es:List D):Yg:=ds.map (λd=>some (.fz d))++some (.oQ a ks es)::List.replicate (n- ds.length- 1) none
@[simp] def Zrx(a:ak)(d:D):Option (Option SV)->Option UR
 |some (aA (.oQ b ks es))=>if b=a then aA (d,ks,es)else aB
 |_=>aB
@[simp] def Z02(fs:List FS)(fe:FE)(n:Nat):UG:=λa ds ks es=>(Zrv fs (Znn n a ds ks es)).bind λδ=>(fe δ).bind λp=>(frz p.1 p.2).bind λq=>Zrx a q.1 (q.2[ds.length]?)
def Zyi(Z:Ent K)(f:FE):TE:=λσ H Q=>∃F δ own rv δ',SR Z F H σ δ own/\f δ=aA (rv,δ')/\
 ∀v H' F' own',Ze F F'->SR Z F' H' σ δ' own'->RVS K F' σ rv v->Q v H'
def Zwe(Z:Ent K)(i:Nat)(fd:FD):TA:=λσ H R=>Wj Z fd σ H λvs H1=>∃x,σ[i]? =aA (aA x)/\R (vs++[x]) H1
open Classical in
def Zwf(i n:Nat)(g:UG)(fd:FD):FE:=λδ=>(fd δ).bind λp=>if p.1.length=n then match p.2[i]? with
 |some (aA (.oK ks es))=>if h:∃r,∀a,g a p.1 ks es=aA r then aA (.tmp (.fz h.choose.1),p.2.set i (aA (.oK h.choose.2.1 h.choose.2.2)))else aB
 |_=>aB else aB
@[simp] def Zyj(g:D->D->Option SV)(fa fb:FE):FE:=λδ=>(fa δ).bind λp=>(frz p.1 p.2).bind λq=>(fb q.2).bind λr=>(Ev r.1 r.2).bind λd2=>(g q.1 d2).bind λsv=>if sv.scal then some (.tmp sv,r.2)else none
@[simp] def Zyk(i:Nat)(fe:FE):FS:=λδ=>match δ[i]? with
 |some (aA (.ol _))=>(fe δ).bind λp=>(frz p.1 p.2).bind λq=>match q.2[i]? with
  |some (aA (.ol xs))=>if xs.length<a7 then aA (.nx (q.2.set i (aA (.ol (xs++[q.1])))))else aB
  |_=>aB
 |_=>aB
end
end DL
namespace DL
open PySem PySem.Spec PyProof.Rows L2
variable{K:af}
def SkD(ks:List Key)(m:Nat)(d:D):Prop:=∃vs,d= .dK ks vs/\ks.length=vs.length/\∀v∈vs,∃(x:Str) (ks2:List Key) (ys:List Str),v= .tup [.str x,.dK ks2 (ys.map D.str)]/\ys.length<=m
def Z03(W:ak->Prop)(H:Hp)(ks:List Key)(m:Nat)(v:V):Prop:=∃a kvs ep,v= .ref a/\W a/\H a=aA (.dK kvs ep)/\kvs.map (·.1)=ks/\∀p∈kvs,∃t x b kvs2 ep2,p.2= .ref t/\W t/\H t=aA (.tup [.str x,.ref b])/\W b/\H b=aA (.dK kvs2 ep2)/\kvs2.length<=m/\∀q∈kvs2,∃y,q.2= .str y
def Jg(Z:Ent K)(F:Hp)(own:Nat->Zo)(W:ak->Prop):Prop:=∀b,W b->F b=aB/\Z.h b=aB/\∀i p,p∈own i->p.1≠b
section
variable{Z:Ent K}{F H:Hp}{σ:L2.St}{δ:Yg}{own:Nat->Zo}{W:ak->Prop}
theorem SR.updW{b:ak}{o:HO}(s:SR Z F H σ δ own)(ap:Jg Z F own W)(hb:W b):SR Z F (Z5 H b o) σ δ own:=by
 obtain⟨f0,z0,o0⟩:=ap b hb;refine⟨λc u e=>?_,s.fro,λc u e=>?_,s.len,s.at',s.nod,λi p hp=>?_,s.sep⟩
 ·rw[Zn λz=>by rw[z,f0]at e;cases e];exact s.le c u e
 ·rw[Zn λz=>by rw[z,z0]at e;cases e];exact s.old c u e
 ·obtain⟨x,y,w⟩:=s.ok i p hp;exact⟨x,y,by rw[Zn (o0 i p hp)];exact w⟩
open Classical in
def wH(W:ak->Prop)(H F:Hp):Hp:=λb=>if W b then H b else F b
theorem Ziv(le:Ze F H):Ze F (wH W H F):=λb o e=>by
 unfold wH;split
 ·exact le b o e
 ·exact e
theorem De(le:Ze F H):Ze (wH W H F) H:=λb o e=>by
 unfold wH at e;split at e
 ·exact e
 ·exact le b o e
theorem Rc{b:ak}(h:W b):wH W H F b=H b:=if_pos h
theorem Ga{b:ak}(h:¬W b):wH W H F b=F b:=if_neg h
theorem SR.seeW(s:SR Z F H σ δ own)(ap:Jg Z F own W):SR Z (wH W H F) H σ δ own:=by
 refine⟨De s.le,λb o e=>?_,s.old,s.len,λi sv e=>?_,s.nod,λi p hp=>?_,s.sep⟩
 ·by_cases hb:W b
  ·exact .inr (ap b hb).2.1
  ·rw[Ga hb]at e;exact s.fro b o e
 ·obtain⟨v,h1,h2⟩:=s.at' i sv e;exact⟨v,h1,h2.mono (Ziv s.le)⟩
 ·obtain⟨x,y,w⟩:=s.ok i p hp;refine⟨?_,y,w⟩;rw[Ga λz=>(ap _ z).2.2 i p hp rfl];exact x
theorem SR.blank(i:Nat)(o:Option V)(s:SR Z F H σ δ own):SR Z F H (σ.set i o) (δ.set i aB) (put own i []):=by
 have d:=s.drop i;refine⟨d.le,d.fro,d.old,by rw[List.length_set];exact d.len,λj sv e=>?_,d.nod,d.ok,d.sep⟩;by_cases hj:j=i
 ·subst hj;rw[List.getElem?_set,if_pos rfl]at e;split at e<;> cases e
 ·rw[d6 (Ne.symm hj)];exact d.at' j sv e
theorem Jg.drop{i:Nat}(ap:Jg Z F own W):Jg Z F (put own i []) W:=λb hb=>by
 obtain⟨x,y,z⟩:=ap b hb;refine⟨x,y,λj p hp=>?_⟩;by_cases hj:j=i
 ·subst hj;rw[Z4]at hp;exact nomatch hp
 ·rw[Yb hj]at hp;exact z j p hp
def Z04(Z:Ent K)(W:ak->Prop)(H F:Hp):Ent K:=⟨wH W H Z.h,F,Z.x⟩
theorem SR.look{i:Nat}{d:D}{v:V}(s:SR Z F H σ δ own)(ap:Jg Z F own W)(hv:σ[i]? =aA (aA v))(r:Rep K (wH W H F) d v):SR Z (wH W H F) H σ (δ.set i (aA (.fz d))) (put own i []):=by
 have t:=(s.drop i).seeW (W:=W) ap.drop;have hi:i<σ.length:=(ax.mp hv).1;have q:=t.store (i:=i) (TmpOk.fz r) hi;have e1:σ.set i (aA v)=σ:=by
  apply List.ext_getElem?;intro j;by_cases hj:i=j
  ·subst hj;rw[d5 hi,hv]
  ·rw[d6 hj]
 rw[e1,List.set_set]at q;have e2:put (put own i []) i []=put own i []:=by funext j;unfold put;split<;> rfl
 rw[e2]at q;exact q
end
section
variable{Z:Ent K}{H:Hp}{σ:L2.St}{Q:VK}{E:Yq}
def Zry(i j n:Nat)(ds:List D)(δ1:Yg)(sv:SV)(T1 T2:FT)(is:List D)(δ3:Yg):Prop:=
 ds.length=n/\(∀d∈ds,SV.scal (.fz d)=aC)/\i≠j/\i<δ1.length/\j<δ1.length/\∃(ks:List Key) (m:Nat) (ks':List Key),SkD ks m sv.toD/\(∃δ2,T1 (δ1.set i (aA (.fz sv.toD)))=aA (aD,δ2))/\is=ks'.map R7/\(∀k∈ks',k∈ks)/\m+ks'.length<a7/\
  ∀k∈ks',∀m' d,SkD ks m' d->∃δ4,T2 ((δ3.set i (aA (.fz d))).set j (aA (.fz (R7 k))))=aA (aD,δ4)
open Classical in
def Zym(i j n:Nat)(g:List D->Option SV)(fd:FD)(T1:FT)(fi:FE)(T2:FT):FS:=λδ=>(fd δ).bind λp=>(g p.1).bind λsv=>(Zbh fi (p.2.set i aB)).bind λq=>
 if Zry i j n p.1 p.2 sv T1 T2 q.1 q.2 then aA (.nx ((q.2.set i aB).set j aB))else aB
abbrev Z05(i j:Nat)(K:af):TE:=tOp (rIx K) (Zka (Ja i) (Ja j)) (tC (.int 1))
def Z06(K:af)(fi:FE):TI:=λσ H R=>∃Z':Ent K,W5 Z' (Zbh fi) σ H R
end
section
variable{X:Cx}{Z:Ent X.K}{a b c:ci}{fa fb fc:FE}{pos:Pos}
theorem Zno(i:Nat){k n:Nat}{f:ak}{fd:cx}{ps:List Str}{g:List D->Option SV}{x y:Str}{p p1 p2:Pos}{es:List ci}{fr:FD}(F:FnOk X.prog X.w X.K X.mg X.base Oe k f fd ps (Y6 X.K n g))(hr:Room k X.A)(hm:X.mg x=aA (.ref f))(hk:bq X.K (.ref f)=aC)(hb:Ww X.K fd ps [])
  (hN:X.N.Nodup) (ha:PA X (a::es) (Wj Z fr)) (hg:Gl X x:=by rfl) (hdb:(x==("__debug__":Str))=aD:=by decide) (he:ay (a::es) X.env=(aD,f8 a X.env)::ay es X.env:=by rfl) (hpl:(f6 p2 (ay es X.env)).any (·.1)=aD:=by rfl)
  (hi:X.N[i]? =aA y:=by rfl) (hx:Loc X.env.scope y:=by first|exact Or.inl rfl|exact gp rfl) (hs:swapsWith (.Call (.Name x p) (a::es) [] p2) (aA (.Name y p1)) pos.line X.env=pure aD:=by rfl) (hf:X.fn y=aC\/X.env.scope.names.lookup y=aA .local:=by first|exact .inl rfl|exact .inr rfl):
  PS X (.Assign [.Name y p1] (.Call (.Name x p) (a::es) [] p2) pos) (Kh (Nn (Y6 X.K n g) [] (λ_ _ _=>False) (Wj Z fr)) (Ul i)):=
 S3 hN hi hx (He F hr hg hm hk hb .nil Zkc ha hdb he hpl) hs hf
theorem Zrz{T:FT}{bd:List Stmt}{f:FS}(hc:PT X c (Yh Z T))(hb:Gs X bd (Z1 Z f)):PS X (.If c bd [] pos) (S0 (Yh Z T) (Z1 Z f) Tj):=Zj2 hc hb X7
end
end DL
namespace SX
open PySem
def Gb(l:List Nat):Prop:=l.Pairwise (· < ·)
def At(xs:Array Nat)(j p:Nat):Prop:=p<=xs.size/\(∀i y,i<p->xs[i]? =aA y->y<j)/\∀i y,p<=i->xs[i]? =aA y->j<=y
theorem Op{xs:Array Nat}(h:Gb xs.toList){i k y z:Nat}(hi:xs[i]? =aA y)(hk:xs[k]? =aA z)(hik:i<k):y<z:=by rw[<-b5]at hi hk;obtain⟨a,ha⟩:=ax.mp hi;obtain⟨b,hb⟩:=ax.mp hk;have:=List.pairwise_iff_getElem.mp h i k a b hik;rw[ha,hb]at this;exact this
theorem Zew{xs:Array Nat}{j:Nat}(h:Gb xs.toList):∀(fuel lo hi:Nat),hi<=lo+fuel->lo<=hi->hi<=xs.size->(∀i y,i<lo->xs[i]? =aA y->y<j)->(∀i y,hi<=i->xs[i]? =aA y->j<=y)->At xs j (SetTable.below.go xs j fuel lo hi)
 |0,lo,hi,h1,h2,h3,a,b=>by
  have:lo=hi:=by omega
  subst this;unfold SetTable.below.go;exact⟨h3,a,b⟩
 |fuel+1,lo,hi,h1,h2,h3,a,b=>by
  unfold SetTable.below.go;by_cases hl:lo<hi
  ·rw[if_pos hl];dsimp only;have hm:(lo+hi) / 2<xs.size:=by omega
   have hg:xs.getD ((lo+hi) / 2) j=xs[(lo+hi) / 2]:=by simp[Array.getD,hm]
   have he:xs[(lo+hi) / 2]? =aA xs[(lo+hi) / 2]:=by simp[hm]
   by_cases hc:xs.getD ((lo+hi) / 2) j<j
   ·rw[if_pos hc];refine Zew h fuel _ hi (by omega) (by omega) h3 (λi y hi' e=>?_) b;by_cases hq:i=(lo+hi) / 2
    ·subst hq;rw[he]at e;cases e;rw[<-hg];exact hc
    ·have:=Op h e he (by omega);rw[hg]at hc;omega
   ·rw[if_neg hc];refine Zew h fuel lo _ (by omega) (by omega) (by omega) a (λi y hi' e=>?_);by_cases hq:i=(lo+hi) / 2
    ·subst hq;rw[he]at e;cases e;rw[<-hg];omega
    ·have:=Op h he e (by omega);rw[hg]at hc;omega
  ·rw[if_neg hl];have:lo=hi:=by omega
   subst this;exact⟨h3,a,b⟩
theorem Ai{xs:Array Nat}(h:Gb xs.toList)(j:Nat):At xs j (SetTable.below xs j):=
 Zew h xs.size 0 xs.size (by omega) (dn _) (a8 _) (λi _ z=>absurd z (by omega)) λi y z e=>by have:=(f7.mp e).1;omega
theorem Df{xs:Array Nat}{j p q:Nat}(a:At xs j p)(b:At xs j q):p=q:=by
 rcases Nat.lt_trichotomy p q with h|h|h
 ·have hp:p<xs.size:=by have:=b.1;omega
  have e:xs[p]? =aA xs[p]:=by simp[hp]
  have:=a.2.2 p _ (a8 _) e;have:=b.2.1 p _ h e;omega
 ·exact h
 ·have hq:q<xs.size:=by have:=a.1;omega
  have e:xs[q]? =aA xs[q]:=by simp[hq]
  have:=b.2.2 q _ (a8 _) e;have:=a.2.1 q _ h e;omega
theorem Zex{xs:Array Nat}{j:Nat}(h:Gb xs.toList)(hn:xs[SetTable.below xs j]?≠aA j):Gb (SetTable.insertAt xs (SetTable.below xs j) j).toList:=by
 have a:=Ai h j;generalize SetTable.below xs j=p at*;rw[SetTable.toList_insertAt];obtain⟨a1,a2,a3⟩:=a;have lo:∀y∈xs.toList.take p,y<j:=λy hy=>by
  obtain⟨i,hi,e⟩:=dz hy;rw[List.getElem_take]at e;have hi':i<p:=by simp at hi;omega
  refine a2 i y hi' ?_;rw[<-b5,ax];exact⟨_,e⟩
 have hi:∀y∈xs.toList.drop p,j<y:=λy hy=>by
  obtain⟨i,hi,e⟩:=dz hy;rw[List.getElem_drop]at e;have ep:xs[p+i]? =aA y:=by rw[<-b5,ax];exact⟨_,e⟩
  have h1:=a3 (p+i) y (by omega) ep;rcases Nat.lt_or_eq_of_le h1 with z|z
  ·exact z
  ·subst z;cases i with
   |zero=>exact absurd ep hn
   |succ i=>
    have hp:p<xs.size:=by have:=(f7.mp ep).1;omega
    have e0:xs[p]? =aA xs[p]:=by simp[hp]
    have q1:=a3 p _ (a8 _) e0;have q2:=Op h e0 ep (by omega);omega
 refine List.pairwise_append.mpr ⟨h.sublist (List.take_sublist _ _),List.pairwise_cons.mpr ⟨hi,h.sublist (List.drop_sublist _ _)⟩,λa ha b hb=>?_⟩;rcases bo.mp hb with z|z
 ·rw[z];exact lo a ha
 ·exact Nat.lt_trans (lo a ha) (hi b z)
structure Tab(B:Bool)(t:gn):Prop where
 led:t.led= !B
 dum:t.dummies= #[]
 rise:t.plain=aC->Gb t.place.toList
theorem Dg(j:Nat):SetTable.has #[] j=aD:=by unfold SetTable.has;simp
end SX
namespace SX
open PySem PyProof.Rows
variable{prog:bu}{w:ck}{A:cj}{E:aj->am->Prop}{s:am}
abbrev Zwg(l:List (Int×aj)):List Int:=l.map λe=>numOf e.2
def Ln(prog:bu)(w:ck)(B:Bool)(o:Obj)(ks:List Int):Prop:=∃es ep t,o.ExactSet/\o.data= .set es ep t/\ElemsOf (intKind prog w) es.toList/\(Zwg es.toList).Perm ks/\t.fits es.size=aC/\Tab B t/\es.size<scanBound
end SX
namespace SX
open PySem PySem.Spec PyProof.Rows
def dd(val:Nat->Int):Nat->List Int
 |0=>[]
 |i+1=>if val i∈dd val i then dd val i else dd val i++[val i]
abbrev By(w:ck):Bool:=w.params.followText "set-order"
abbrev R9(w:ck):Obj:={cls:=.type "set",dict:=aB,data:=.set #[] 0 (.fresh 0 0 (!By w))}
section
variable{prog:bu}{w:ck}{A:cj}{E:aj->am->Prop}{s:am}
theorem Ziw(a:aj){Q:aj->am->Prop}(h:Q (.ref s.heap.objs.size) {s with heap:=s.heap.push (R9 w)}):
  codeAny (bp prog w) A (.call (.builtin "set.__new__") ⟨[.type "set",a],[]⟩) (wants Q E) s:=by
 refine codeAny_of_tree ?_;show ba _ A.in1 (checkBuiltinCall "set.__new__" ⟨[.type "set",a],[]⟩>>=λ_=>again (.builtin "set.__new__" ⟨[.type "set",a],[]⟩)) _ _ s;refine ad (wpAny_of_eq (PySem.F.newCall_set_1 a) (ag ⟨plainId_quiet PySem.F.plain_set_new _,gr PySem.F.entry_set_new ?_⟩));rw[d7 PySem.F.plain_set_new _];have hs:=sub_set_self;obtain⟨hp,g,d,tk,os⟩:=s;unfold Builtin.«set.__new__» Builtin.Frozenset.newClass;dsimp only;wp_walk;refine wpAny_askSetting (ag ?_);dsimp only;simp only[newObj];exact ad (wpAny_alloc (ag (ag h)))
end
end SX
namespace SX
open PySem PySem.Spec PyProof.Rows
theorem Wl:Slot "set_iterator" "__next__" "set_iterator.__next__":=
 .of (owner:="set_iterator") (n:="__next__") (by rw[typeLookup_type,builtinLookup_eq_fast];kernel_rfl) (by decide+kernel) (by decide+kernel) (by decide+kernel) (by first|exact .inl (by decide+kernel)|exact .inr (by decide+kernel)) (by rw[isSubtype_type];kernel_rfl)
theorem Oq:entryFor table "set_iterator.__next__"=aA Builtin.«set_iterator.__next__»:=entryFor_of_tree (by kernel_rfl)
theorem Cf(a:aj):argsOk "set_iterator.__next__" ⟨[a],[]⟩:=by unfold argsOk;kernel_rfl
theorem V5:entryFor table "set.__iter__"=aA Builtin.«frozenset.__iter__»:=entryFor_alias (id':="frozenset.__iter__") (by kernel_rfl) rfl (by decide+kernel) (by kernel_rfl)
section
variable{prog:bu}{w:ck}{A:cj}{E:aj->am->Prop}{s:am}
theorem Zey{src:Source}{n:Nat}{Q:Nat->am->Prop}(hn:n≠0)(h:∀i d,i<n->Q i {s with drawn:=d}):ba (bp prog w) A (choose src n) Q E s:=
 λ_ _ _=>⟨hn,h _ _ (Nat.mod_lt _ (Nat.pos_of_ne_zero hn))⟩
theorem Ma{α:Type}:∀(l:List α) (i:Nat) (h:i<l.length),(l[i]::l.eraseIdx i).Perm l
 |x::l,0,_=>List.Perm.refl _
 |x::l,i+1,h=>(List.Perm.swap x _ _).trans ((Ma l i (by simpa using h)).cons x)
theorem Zez{α:Type}:∀(n:Nat) (xs:List α) (s:am) {Q:List α->am->Prop},n=xs.length->(∀ys d,ys.Perm xs->Q ys {s with drawn:=d})->ba (bp prog w) A (drawOrder n xs) Q E s
 |0,[],s,Q,_,h=>by unfold drawOrder;exact ag (h [] s.drawn (List.Perm.refl _))
 |n+1,x::xs,s,Q,hn,h=>by
  unfold drawOrder;refine ad (Zey (by simp) λi d hi=>?_);have e:(x::xs)[i]? =aA (x::xs)[i]:=az hi;rw[e];dsimp only;have hl:n=((x::xs).eraseIdx i).length:=by rw[List.length_eraseIdx_of_lt hi];simpa using hn
  refine ad (Zez n ((x::xs).eraseIdx i) _ hl λys d' hp=>ag (h _ d' ?_));exact(hp.cons _).trans (Ma _ i hi)
 |0,_::_,_,_,hn,_=>by simp at hn
 |_+1,[],_,_,hn,_=>by simp at hn
end
abbrev Sw(first:aj)(i:Nat)(r:ak)(n ep:Nat):Obj:={cls:=.type "set_iterator",dict:=aB,data:=.fields #[first,.int (i:Int) 0,.ref r,.int (n:Int) 0,.int (ep:Int) 0],slots:= #[]}
abbrev Mb(ps:List Nat):Obj:={cls:=.type "tuple",data:=.seq (ps.map λi:Nat=>rawInt i).toArray}
section
variable{prog:bu}{w:ck}{A:cj}{E:aj->am->Prop}{s:am}{r:ak}{o:Obj}{es:Array (Int×aj)}{ep:Nat}{t:gn}
theorem Zix{Q:aj->am->Prop}(ho:s.heap.get? r=aA o)(hx:o.ExactSet)(hd:o.data= .set es ep t)(hf:t.fits es.size=aC)(hb:es.size<scanBound)
  (hN:(!By w&&(!t.plain&&decide (es.size > 1)))=aD->Q (.ref s.heap.objs.size) {s with heap:=s.heap.push (Sw (.int 0 0) 0 r es.size ep)})
  (hD:(!By w&&(!t.plain&&decide (es.size > 1)))=aC->∀ps d,ps.Perm (cr es.size)->Q (.ref (s.heap.objs.size+1)) {s with heap:=(s.heap.push (Mb ps)).push (Sw (.ref s.heap.objs.size) 0 r es.size ep),drawn:=d}):
  ba (bp prog w) A (pyIter (.ref r)) Q E s:=by
 have hT:s.TypeIs (.ref r) "set":=⟨o,ho,hx.1⟩
 refine wpAny_pyIter_slot hT PySem.F.slot_set_iter (c5 PySem.F.slot_set_iter hT V5 ?_ (PySem.F.args_set_iter_1 _));unfold Builtin.«frozenset.__iter__»;refine ad (m:=Builtin.Frozenset.slot0 "__iter__" ⟨[.ref r],[]⟩) (Q:=_) (ag ?_);refine ad (m:=Builtin.Frozenset.sizeOf r) ?_;unfold Builtin.Frozenset.sizeOf;refine ad (wpAny_setEntries_of ho hd hf (ag ?_));refine ad ?_;unfold setDrawn;refine ad (wpAny_setState_of ho hd hf ?_);unfold setsByText;refine ad (ad (wpAny_askSetting (ag ?_)));refine ag ?_;show ba _ _ (if(!By w&&(!t.plain&&decide (es.size > 1)))=aC then _ else _) _ _ _;cases hc:(!By w&&(!t.plain&&decide (es.size > 1)))with
 |false=>rw[if_neg (by simp)];refine ad (ag ?_);refine ad (wpAny_setEpoch_of ho hd hf ?_);refine ad (m:=newFields _ _) (dv (ag ⟨_,rfl,"set_iterator",_,⟨_,a9 _ rfl,rfl⟩,Wl.lookup,hN hc⟩))
 |true=>rw[if_pos rfl];have hl:(cr es.size).length=es.size:=List.length_range;refine ad ?_;refine Zez _ (cr es.size) _ hl.symm λps d hp=>?_;have pl:ps.length=es.size:=hp.length_eq.trans hl;refine ad (wpAny_newTuple ?_ (by rw[ao,pl];exact fits_of_scanBound hb));have ho2:(s.heap.push (Mb ps)).get? r=aA o:=aq _ ho;refine ad (wpAny_setEpoch_of (s:={s with heap:=s.heap.push (Mb ps),drawn:=d}) ho2 hd hf ?_);have sz:(s.heap.push (Mb ps)).objs.size=s.heap.objs.size+1:=Heap.size_push _ _;refine ad (m:=newFields _ _) (dv (ag ⟨_,rfl,"set_iterator",_,⟨_,a9 _ rfl,rfl⟩,Wl.lookup,?_⟩));have z:=hD hc ps d hp;rw[<-sz]at z;exact z
end
end SX
namespace SX
open PySem PySem.Spec PyProof.Rows
section
variable{prog:bu}{w:ck}{A:cj}{E:aj->am->Prop}{s:am}{I r:ak}{o:Obj}{es:Array (Int×aj)}{ep:Nat}{t:gn}{slot i nx:Nat}{x:aj}{Q:Option aj->am->Prop}
abbrev Lo(prog:bu)(w:ck)(A:cj)(s:am)(r:ak)(slot i ep:Nat)(y:Option (aj×Nat)):Prop:=∀(R:Option (aj×Nat)->am->Prop) (E':aj->am->Prop),R y s->ba (bp prog w) A (setNext r slot i ep) R E' s
theorem Zk8(hI:s.heap.get? I=aA (Sw (.int (slot:Int) 0) i r es.size ep))(ho:s.heap.get? r=aA o)(hd:o.data= .set es ep t)(hf:t.fits es.size=aC)(hn:Lo prog w A.in1 s r slot i ep (aA (x,nx)))
  (hQ:∀h',h'.get? I=aA (Sw (.int (nx:Int) 0) (i+1) r es.size ep)->g7 I s.heap h'->Q (aA x) {s with heap:=h'}):ba (bp prog w) A (pyNext (.ref I)) Q E s:=by
 have hT:s.TypeIs (.ref I) "set_iterator":=⟨_,hI,rfl⟩
 unfold pyNext;refine ad (wpAny_attempt (fw (name:=b9 "__next__") hT Wl (c5 Wl hT Oq ?_ (Cf _))));unfold Builtin.«set_iterator.__next__»;refine ad (m:=slotArgs "__next__" 0 ⟨[.ref I],[]⟩) (ag ?_);refine ad (wpAny_fieldsOf hI rfl ?_);dsimp only;refine ad (wpAny_setEntries_of ho hd hf ?_);rw[if_neg (by simp)];simp only[Int.toNat_natCast];refine ad (hn _ _ ?_);dsimp only;refine ad (wpAny_setField_rec hI (by simp) λh1 g1 b1=>?_);refine ad (wpAny_setField_rec (s:={s with heap:=h1}) g1 (by simp) λh2 g2 b2=>?_);refine ag ⟨_,rfl,ag (hQ h2 ?_ (b1.trans b2))⟩;rw[g2];rfl
theorem Zk9(hh:A.handled=aB)(hI:s.heap.get? I=aA (Sw (.int (slot:Int) 0) i r es.size ep))(ho:s.heap.get? r=aA o)(hd:o.data= .set es ep t)(hf:t.fits es.size=aC)(hn:Lo prog w A.in1 s r slot i ep aB)
  (hQ:∀h',Heap.ExtBut I s.heap h'->Q aB {s with heap:=h'}):ba (bp prog w) A (pyNext (.ref I)) Q E s:=by
 have hT:s.TypeIs (.ref I) "set_iterator":=⟨_,hI,rfl⟩
 unfold pyNext;refine ad (wpAny_attempt (fw (name:=b9 "__next__") hT Wl (c5 Wl hT Oq ?_ (Cf _))));unfold Builtin.«set_iterator.__next__»;refine ad (m:=slotArgs "__next__" 0 ⟨[.ref I],[]⟩) (ag ?_);refine ad (wpAny_fieldsOf hI rfl ?_);dsimp only;refine ad (wpAny_setEntries_of ho hd hf ?_);rw[if_neg (by simp)];simp only[Int.toNat_natCast];refine ad (hn _ _ ?_);dsimp only;refine ad (wpAny_setField_rec hI (by simp) λh1 g1 b1=>?_);refine ad (m:=newExc (.type "StopIteration") []) ?_;simp only[newExc,newTuple];refine ad (dv ?_ (by size_fits));refine ad (m:=firstArgMember _ _) (wpAny_of_eq (a:=cf) (by first|rfl| (simp only[firstArgMember];rfl)) ?_);refine dv ?_ (by size_fits);simp only[raiseNew];refine ad (wpAny_handled ?_);rw[show A.in1.handled=aB from hh];refine ad (ag (wpAny_throw ?_));refine ad (gg (T:="StopIteration") (b:=aC) ⟨_,a9 _ rfl,rfl⟩ isSubtype_stop ?_);exact ag (hQ _ ((b1.extBut.push _).push _))
theorem I9(hB:By w=aD)(ho:s.heap.get? r=aA o)(hd:o.data= .set es ep t)(hf:t.fits es.size=aC)(hl:t.led=aC)(hr:(!t.plain&&decide (es.size > 1))=aD):
  Lo prog w A s r slot i ep (match es[SetTable.below t.place slot]?,t.place[SetTable.below t.place slot]? with
   |some (_,x),aA j=>aA (x,j+1)
   |_,_=>aB):=by
 intro R E' h;unfold setNext;refine ad (wpAny_setState_of ho hd hf ?_);dsimp only;unfold setsByText;refine ad (ad (wpAny_askSetting (ag ?_)));have e1:(bp prog w).w.params.followText "set-order"=aD:=hB;dsimp only;rw[if_neg (by rw[e1];simp)];show ba _ _ (if(!t.plain&&decide (es.size > 1))=aC then _ else _) _ _ _;rw[if_neg (by rw[hr];simp)];refine ad ?_;show ba _ _ (if(!t.led&& !es.isEmpty)=aC then _ else _) _ _ _;rw[if_neg (by rw[hl];simp)];exact ag (ag h)
theorem Pt(hB:By w=aC)(ho:s.heap.get? r=aA o)(hd:o.data= .set es ep t)(hf:t.fits es.size=aC):
  Lo prog w A s r slot i ep (((pickOrder (w.params.setOrder r ep) es)[i]?).map λe=>(e.2,slot)):=by
 intro R E' h;unfold setNext;refine ad (wpAny_setState_of ho hd hf ?_);dsimp only;unfold setsByText;refine ad (ad (wpAny_askSetting (ag ?_)));have e1:(bp prog w).w.params.followText "set-order"=aC:=hB;dsimp only;rw[if_pos (by rw[e1])];rw[if_neg (by simp)];refine ad ?_;unfold setWalk;refine ad (wpAny_setState_of ho hd hf ?_);dsimp only;unfold setsByText;refine ad (ad (wpAny_askSetting (ag ?_)));dsimp only;rw[if_pos (by rw[e1])];refine ad (wpAny_askSetting (ag ?_));exact ag h
variable{T:ak}{ps:List Nat}
theorem Zr0{p:Nat}{hx:Int}(hI:s.heap.get? I=aA (Sw (.ref T) i r es.size ep))(hT0:s.heap.get? T=aA (Mb ps))(hp:ps[i]? =aA p)(he:es[p]? =aA (hx,x))(ho:s.heap.get? r=aA o)(hd:o.data= .set es ep t)(hf:t.fits es.size=aC)
  (hQ:∀h',h'.get? I=aA (Sw (.ref T) (i+1) r es.size ep)->g7 I s.heap h'->Q (aA x) {s with heap:=h'}):ba (bp prog w) A (pyNext (.ref I)) Q E s:=by
 have hT:s.TypeIs (.ref I) "set_iterator":=⟨_,hI,rfl⟩
 unfold pyNext;refine ad (wpAny_attempt (fw (name:=b9 "__next__") hT Wl (c5 Wl hT Oq ?_ (Cf _))));unfold Builtin.«set_iterator.__next__»;refine ad (m:=slotArgs "__next__" 0 ⟨[.ref I],[]⟩) (ag ?_);refine ad (wpAny_fieldsOf hI rfl ?_);dsimp only;refine ad (wpAny_setEntries_of ho hd hf ?_);rw[if_neg (by simp)];refine ad (m:=seqItems? (.ref T)) ?_;unfold seqItems?;refine ad (wpAny_load hT0 (ag ?_));dsimp only;have e1:(ps.map λi:Nat=>rawInt i).toArray[((i:Nat):Int).toNat]? =aA (.int (p:Int) 0):=by simp[hp,rawInt]
 rw[e1];dsimp only;refine ad ?_;unfold setNextDrawn;refine ad (wpAny_setState_of ho hd hf ?_);dsimp only;rw[if_neg (by simp)];have e2:es[((p:Nat):Int).toNat]? =aA (hx,x):=by simpa using he
 rw[e2];refine ag ?_;refine ad (wpAny_setField_rec hI (by simp) λh1 g1 b1=>?_);refine ag ⟨_,rfl,ag (hQ h1 ?_ b1)⟩;rw[g1];rfl
theorem Zr1(hh:A.handled=aB)(hI:s.heap.get? I=aA (Sw (.ref T) i r es.size ep))(hT0:s.heap.get? T=aA (Mb ps))(hp:ps[i]? =aB)(ho:s.heap.get? r=aA o)(hd:o.data= .set es ep t)(hf:t.fits es.size=aC)
  (hQ:∀h',Heap.ExtBut I s.heap h'->Q aB {s with heap:=h'}):ba (bp prog w) A (pyNext (.ref I)) Q E s:=by
 have hT:s.TypeIs (.ref I) "set_iterator":=⟨_,hI,rfl⟩
 unfold pyNext;refine ad (wpAny_attempt (fw (name:=b9 "__next__") hT Wl (c5 Wl hT Oq ?_ (Cf _))));unfold Builtin.«set_iterator.__next__»;refine ad (m:=slotArgs "__next__" 0 ⟨[.ref I],[]⟩) (ag ?_);refine ad (wpAny_fieldsOf hI rfl ?_);dsimp only;refine ad (wpAny_setEntries_of ho hd hf ?_);rw[if_neg (by simp)];refine ad (m:=seqItems? (.ref T)) ?_;unfold seqItems?;refine ad (wpAny_load hT0 (ag ?_));dsimp only;have e1:(ps.map λi:Nat=>rawInt i).toArray[((i:Nat):Int).toNat]? =aB:=by simp only[Int.toNat_natCast,List.getElem?_toArray,bf,hp,Option.map_none]
 rw[e1];dsimp only;refine ad (wpAny_setField_rec hI (by simp) λh1 g1 b1=>?_);refine ad (wpAny_setField_rec (s:={s with heap:=h1}) g1 (by simp) λh2 g2 b2=>?_);refine ad (m:=newExc (.type "StopIteration") []) ?_;simp only[newExc,newTuple];refine ad (dv ?_ (by size_fits));refine ad (m:=firstArgMember _ _) (wpAny_of_eq (a:=cf) (by first|rfl| (simp only[firstArgMember];rfl)) ?_);refine dv ?_ (by size_fits);simp only[raiseNew];refine ad (wpAny_handled ?_);rw[show A.in1.handled=aB from hh];refine ad (ag (wpAny_throw ?_));refine ad (gg (T:="StopIteration") (b:=aC) ⟨_,a9 _ rfl,rfl⟩ isSubtype_stop ?_);exact ag (hQ _ (((b1.trans b2).extBut.push _).push _))
end
end SX
namespace SX
open PySem PySem.Spec PyProof.Rows
abbrev E1(acc:Array aj)(c:Nat):Obj:={cls:=.type "list",dict:=aB,data:=.seq acc c,slots:= #[]}
structure Tells(prog:bu)(w:ck)(A:cj)(I:ak)(fp:List ak)(ord:List aj)(St:Nat->dq->Prop):Prop where
 mem:I∈fp
 keep:∀i h h',St i h->(∀b∈fp,∀o,h.get? b=aA o->h'.get? b=aA o)->St i h'
 step:∀i (s:am) x (Q:Option aj->am->Prop) (E:aj->am->Prop),St i s.heap->ord[i]? =aA x->(∀h',St (i+1) h'->g7 I s.heap h'->Q (aA x) {s with heap:=h'})->ba (bp prog w) A (pyNext (.ref I)) Q E s
 stop:∀(s:am) (Q:Option aj->am->Prop) (E:aj->am->Prop),St ord.length s.heap->(∀h',Heap.ExtBut I s.heap h'->Q aB {s with heap:=h'})->ba (bp prog w) A (pyNext (.ref I)) Q E s
section
variable{prog:bu}{w:ck}{A:cj}{E:aj->am->Prop}{R:Result->am->Prop}{I S:ak}{fp:List ak}{ord:List aj}{St:Nat->dq->Prop}
theorem Dh(T:Tells prog w A.in1 I fp ord St)(hS:S∉fp)(hz:ord.length<=10000)(res:aj):∀(m i:Nat) (s:am) (c:Nat),i+m=ord.length->St i s.heap->s.heap.get? S=aA (E1 (ord.take i).toArray c)->
  (∀h' c',(∀b x,b≠S->b≠I->s.heap.get? b=aA x->h'.get? b=aA x)->h'.get? S=aA (E1 ord.toArray c')->R (.ok (.ret res)) {s with heap:=h'})->codeAny (bp prog w) A (.builtin "list.extend.loop" ⟨[.ref S,.ref I,res],[]⟩) R s:=by
 have hSI:S≠I:=λz=>hS (z▸T.mem);intro m;induction m with
 |zero=>intro i s c hi st hl hR;obtain rfl:i=ord.length:=hi;rw[List.take_length]at hl;refine gr PySem.F.entry_extend_loop ?_;rw[d7 PySem.F.plain_extend_loop _];show ba _ A.in1 (pyNext (.ref I) >>=_) _ _ s;refine ad (T.stop s _ _ st λh' ex=>?_);exact ag (hR h' c (λb x _ hb e=>ex b x hb e) (ex S _ hSI hl))
 |succ m ih=>
  intro i s c hi st hl hR;have hlt:i<ord.length:=by omega
  refine gr PySem.F.entry_extend_loop ?_;rw[d7 PySem.F.plain_extend_loop _];show ba _ A.in1 (pyNext (.ref I) >>=_) _ _ s;refine ad (T.step i s ord[i] _ _ st (by simp[hlt]) λh1 st1 b1=>?_);have l1:h1.get? S=aA (E1 (ord.take i).toArray c):=(b1.2 S hSI).trans hl;have tk:(ord.take i).toArray.push ord[i]=(ord.take (i+1)).toArray:=by rw[List.take_add_one,az hlt];simp
  show ba _ A.in1 (updateSeq S (·.push ord[i]) >>=_) _ _ _;refine ad (wpAny_updateSeq l1 rfl (ag ⟨plainId_quiet PySem.F.plain_extend_loop _,?_⟩) (by rw[bi,gm,dr];omega) (by show((ord.take i).toArray.push ord[i]).size<=_;rw[tk,bi,gm,dr];omega));have g2:=Heap.get?_update_self (c9 (·.push ord[i])) l1 rfl;have hm:∃c',c9 (·.push ord[i]) (E1 (ord.take i).toArray c)=E1 (ord.take (i+1)).toArray c':=by rw[<-tk];exact⟨_,rfl⟩
  obtain⟨c',hc'⟩:=hm;rw[hc']at g2;refine ih (i+1) _ c' (by omega) (T.keep _ _ _ st1 λb hb x e=>(Heap.get?_update_other _ _ (λz:S=b=>hS (by rw[z];exact hb))).trans e) g2 λh3 c3 k3 g3=>?_;exact hR h3 c3 (λb x hb hbI e=>k3 b x hb hbI ((Heap.get?_update_other _ _ (Ne.symm hb)).trans ((b1.2 b hbI).trans e))) g3
theorem Ziy{s:am}{r:ak}{Q:Bool->am->Prop}(hT:s.TypeIs (.ref r) "set")(h:Q aD s):ba (bp prog w) A (Builtin.List.listLengthHint (.ref r)) Q E s:=by
 unfold Builtin.List.listLengthHint;refine ad (wpAny_specialOf hT PySem.F.slot_set_len.lookup ?_);generalize hid:("set.__len__":String)=id0
 wp_delta
 rw[show splitId id0=aA ("set","__len__")from by subst hid;decide+kernel];subst hid;refine ad (gg (T:="set") (b:=aC) hT sub_set_self ?_);refine wpAny_ite_split (λz=>absurd z (by decide)) λ_=>?_;refine wpAny_ite_split (λ_=>?_) λz=>absurd (by decide+kernel) z;exact ad (wpAny_typeOf hT (ag h))
theorem Di{α:Type}(f:Nat->Nat):∀(n k:Nat) (l:List α) (out:Array α),n=l.length->(pickOrder.go f n k l out).toList.Perm (out.toList++l)
 |0,k,l,out,h=>by have:l=[]:=List.eq_nil_of_length_eq_zero h.symm;subst this;unfold pickOrder.go;simp
 |n+1,k,l,out,h=>by
  unfold pickOrder.go;have hp:0<l.length:=by omega
  have hm:f k % l.length<l.length:=Nat.mod_lt _ hp;rw[az hm];dsimp only;refine(Di f n (k+1) _ _ (by rw[List.length_eraseIdx_of_lt hm];omega)).trans ?_;rw[Array.toList_push,gd];exact(Ma l _ hm).append_left _
theorem Ze0{α:Type}(f:Nat->Nat)(xs:Array α):(pickOrder f xs).toList.Perm xs.toList:=by have:=Di f xs.size 0 xs.toList #[] (aw).symm;simpa[pickOrder]using this
end
end SX
namespace SX
open PySem PySem.Spec PyProof.Rows
section
variable{prog:bu}{w:ck}{A:cj}{E:aj->am->Prop}{s:am}{I r T:ak}{o:Obj}{es:Array (Int×aj)}{ep:Nat}{t:gn}
def sl(t:gn):Nat->Nat
 |0=>0
 |i+1=>t.place.getD i 0+1
theorem Zla{t:gn}(h:Gb t.place.toList){i:Nat}(hi:i<=t.place.size):SetTable.below t.place (sl t i)=i:=by
 refine Df (Ai h _) ⟨hi,λk y hk e=>?_,λk y hk e=>?_⟩
 ·cases i with
  |zero=>omega
  |succ i=>
   have hp:i<t.place.size:=by omega
   have e2:t.place[i]? =aA t.place[i]:=by simp[hp]
   have eg:sl t (i+1)=t.place[i]+1:=by unfold sl;simp[Array.getD,hp]
   rw[eg];by_cases z:k=i
   ·subst z;rw[e2]at e;cases e;omega
   ·have:=Op h e e2 (by omega);omega
 ·cases i with
  |zero=>exact dn _
  |succ i=>
   have hp:i<t.place.size:=by omega
   have e2:t.place[i]? =aA t.place[i]:=by simp[hp]
   have eg:sl t (i+1)=t.place[i]+1:=by unfold sl;simp[Array.getD,hp]
   rw[eg];have:=Op h e2 e (by omega);omega
theorem Ti{r I:ak}(h:r≠I){h1 h2:dq}(b:g7 I h1 h2){x:Obj}(e:h1.get? r=aA x):h2.get? r=aA x:=(b.2 r h).trans e
theorem V6(hh:A.handled=aB)(hr:r≠I)(hd:o.data= .set es ep t)(hf:t.fits es.size=aC)(hB:By w=aD)(hl:t.led=aC)(hp:(!t.plain&&decide (es.size > 1))=aD)(rise:Gb t.place.toList)(sz:t.place.size=es.size):
  Tells prog w A I [I,r] (es.toList.map (·.2)) (λi h=>h.get? I=aA (Sw (.int (sl t i:Int) 0) i r es.size ep)/\h.get? r=aA o):=by
 refine⟨by simp,λi h h' st k=>⟨k I (by simp) _ st.1,k r (by simp) _ st.2⟩,λi s x Q E st hx hQ=>?_,λs Q E st hQ=>?_⟩
 ·rw[bf]at hx;obtain⟨e,he,rfl⟩:=cm.mp hx;rw[b5]at he;have hi:i<es.size:=(f7.mp he).1;have hi':i<t.place.size:=by omega
  have e2:t.place[i]? =aA t.place[i]:=by simp[hi']
  have nx:=I9 (prog:=prog) (w:=w) (A:=A.in1) (s:=s) (slot:=sl t i) (i:=i) hB st.2 hd hf hl hp;rw[Zla rise (by omega),he,e2]at nx;refine Zk8 st.1 st.2 hd hf nx λh' g b=>hQ h' ⟨?_,Ti hr b st.2⟩ b;have eg:sl t (i+1)=t.place[i]+1:=by unfold sl;simp[Array.getD,hi']
  rw[eg];exact g
 ·have hn:(es.toList.map (·.2)).length=es.size:=by rw[ao,aw]
  rw[hn]at st;have nx:=I9 (prog:=prog) (w:=w) (A:=A.in1) (s:=s) (slot:=sl t es.size) (i:=es.size) hB st.2 hd hf hl hp;rw[Zla rise (by omega),show es[es.size]? =aB by simp]at nx;exact Zk9 hh st.1 st.2 hd hf nx hQ
theorem Zbi(hh:A.handled=aB)(hr:r≠I)(hd:o.data= .set es ep t)(hf:t.fits es.size=aC)(hB:By w=aC):
  Tells prog w A I [I,r] ((pickOrder (w.params.setOrder r ep) es).toList.map (·.2)) (λi h=>h.get? I=aA (Sw (.int ((0:Nat):Int) 0) i r es.size ep)/\h.get? r=aA o):=by
 refine⟨by simp,λi h h' st k=>⟨k I (by simp) _ st.1,k r (by simp) _ st.2⟩,λi s x Q E st hx hQ=>?_,λs Q E st hQ=>?_⟩
 ·rw[bf]at hx;obtain⟨e,he,rfl⟩:=cm.mp hx;rw[b5]at he;have nx:=Pt (prog:=prog) (w:=w) (A:=A.in1) (s:=s) (slot:=0) (i:=i) hB st.2 hd hf;rw[he]at nx;exact Zk8 st.1 st.2 hd hf nx λh' g b=>hQ h' ⟨g,Ti hr b st.2⟩ b
 ·have nx:=Pt (prog:=prog) (w:=w) (A:=A.in1) (s:=s) (slot:=0) (i:=((pickOrder (w.params.setOrder r ep) es).toList.map (·.2)).length) hB st.2 hd hf;rw[ao,aw,show(pickOrder (w.params.setOrder r ep) es)[(pickOrder (w.params.setOrder r ep) es).size]? =aB by simp]at nx;rw[ao,aw]at st;exact Zk9 hh st.1 st.2 hd hf nx hQ
theorem V7(hh:A.handled=aB)(hr:r≠I)(hT:T≠I)(hd:o.data= .set es ep t)(hf:t.fits es.size=aC){ps:List Nat}(hp:∀p∈ps,p<es.size):
  Tells prog w A I [I,r,T] (ps.map λp=>(es.getD p (0,.none)).2) (λi h=>h.get? I=aA (Sw (.ref T) i r es.size ep)/\h.get? r=aA o/\h.get? T=aA (Mb ps)):=by
 refine⟨by simp,λi h h' st k=>⟨k I (by simp) _ st.1,k r (by simp) _ st.2.1,k T (by simp) _ st.2.2⟩,λi s x Q E st hx hQ=>?_,λs Q E st hQ=>?_⟩
 ·rw[bf]at hx;obtain⟨p,he,rfl⟩:=cm.mp hx;have lt:=hp p (cz he);have e2:es[p]? =aA ((es.getD p (0,.none)).1,(es.getD p (0,.none)).2):=by simp[Array.getD,lt]
  exact Zr0 st.1 st.2.2 he e2 st.2.1 hd hf λh' g b=>hQ h' ⟨g,Ti hr b st.2.1,Ti hT b st.2.2⟩ b
 ·rw[ao]at st;exact Zr1 hh st.1 st.2.2 (by simp) st.2.1 hd hf hQ
end
end SX
namespace SX
open PySem PySem.Spec PyProof.Rows
section
variable{prog:bu}{w:ck}{A:cj}{E:aj->am->Prop}{s:am}{I r S:ak}{o:Obj}{ks:List Int}
theorem Lp{R:Result->am->Prop}{fp:List ak}{ord:List aj}{St:Nat->dq->Prop}{res:aj}{c:Nat}(T:Tells prog w A.in1 I fp ord St)(hS:S∉fp)(hz:ord.length<=10000)(hT:s.TypeIs (.ref r) "set")(st:St 0 s.heap)(hl:s.heap.get? S=aA (E1 #[] c)){f:Bool->Bool}
  (hR:∀h' c',(∀b x,b≠S->b≠I->s.heap.get? b=aA x->h'.get? b=aA x)->h'.get? S=aA (E1 ord.toArray c')->R (.ok (.ret res)) {s with heap:=h'}):
  ba (bp prog w) A.in1 (do
   let room<-holding [.ref I] (Builtin.List.listLengthHint (.ref r))
   if f room=aC then do
    rule "list.extend.makes-room"
    Builtin.List.listTouch (.ref S)
    again (.builtin "list.extend.loop" ⟨[.ref S,.ref I,res],[]⟩)
   else again (.builtin "list.extend.loop" ⟨[.ref S,.ref I,res],[]⟩))
   (λfin s'=>match fin with| .done f=>R (.ok f) s'| .again c'=>c'.quiet=aC/\codeAny (bp prog w) A c' R s') (λe s'=>R (.error e) s') s:=by
 refine ad (f9 (Ziy hT ?_));refine wpAny_ite_split (λ_=>?_) (λ_=>ag ⟨plainId_quiet PySem.F.plain_extend_loop _,Dh T hS hz res ord.length 0 s c (by omega) st (by simpa using hl) hR⟩);refine ad (wpAny_rule (ad ?_));show ba _ _ (updateSeq S (·.push .none) >>=λ_=>updateSeq S (·.pop)) _ _ _;refine ad (wpAny_updateSeq hl rfl ?_);have l2:=Heap.get?_update_self (c9 (·.push cf)) hl rfl;refine wpAny_updateSeq (hz:=by seq_fits) l2 rfl ?_;have l3:=Heap.get?_update_self (c9 (·.pop)) l2 rfl;have oth:∀b x,b≠S->s.heap.get? b=aA x->((s.heap.update S (c9 (·.push cf))).update S (c9 (·.pop))).get? b=aA x:=
  λb x hb e=>(Heap.get?_update_other _ _ (Ne.symm hb)).trans ((Heap.get?_update_other _ _ (Ne.symm hb)).trans e)
 refine ag ⟨plainId_quiet PySem.F.plain_extend_loop _,Dh T hS hz res ord.length 0 _ _ (by omega) (T.keep _ _ _ st λb hb x e=>oth b x (λz=>hS (z▸hb)) e) l3 λh' c' k g=>?_⟩;exact hR h' c' (λb x hb hI e=>k b x hb hI (oth b x hb e)) g
end
end SX
namespace SX
open PySem PySem.Spec PyProof.Rows
end SX
namespace SX
open PySem PySem.Spec PyProof.Rows
def srt(ns:List Int):List Int:=(dd (λi=>ns.getD i 0) ns.length).mergeSort λa b=>decide (a<=b)
end SX
namespace L2
open PySem PySem.Spec PyProof.Rows SX
section
variable{X:Cx}
theorem Inv.drawnAt{pins:List (ak×Obj)}{σ:St}{H:Hp}{s:am}(I:Inv X pins σ H s)(d:_):Inv X pins σ H {s with drawn:=d}:=
 ⟨I.ok,I.os,I.bare,I.base,I.loc,I.cell,I.free,I.freeC,I.pin,I.hok,I.len⟩
def rSS(K:af):List V->Hp->VK->Prop:=λxs H Q=>∃l ns,xs=[.ref l]/\Wp K H l (ns.map V.int)/\ns.length<64/\∀q,H q=aB->Q (.ref q) (Z5 H q (.lst ((srt ns).map V.int)))
theorem B0:bootBuiltins "sorted"=aA (.builtin "sorted"):=by kernel_rfl
theorem Ze1:bootBuiltins "set"=aA (.type "set"):=by kernel_rfl
end
end L2
namespace DL
open PySem PySem.Spec PyProof.Rows L2 SX
variable{K:af}
@[simp] def ints?:List D->Option (List Int)
 | []=>aA []
 | .int i::r=>(ints? r).bind λl=>aA (i::l)
 |_=>aB
def Z07:List D->Option SV
 | [.lst xs]=>(ints? xs).bind λns=>if ns.length<64 then aA (.ol ((srt ns).map D.int))else aB
 |_=>aB
end DL
namespace TX
open PySem PySem.W PyProof.Rows
def Wv{α:Type}(lt:Nat->Nat->Bool)(n:Nat)(R:α->Prop):KasT α->Prop
 | .ret a=>R a
 | .ask i j k=>i<n/\j<n/\Wv lt n R (k (lt i j))
theorem Wv.bind{α β:Type}{lt:Nat->Nat->Bool}{n:Nat}{R:α->Prop}{S:β->Prop}{f:α->KasT β}(h:∀a,R a->Wv lt n S (f a)):∀{t:KasT α},Wv lt n R t->Wv lt n S (t.bind f)
 | .ret a,g=>h a g
 | .ask i j k,g=>⟨g.1,g.2.1,Wv.bind h (t:=k (lt i j)) g.2.2⟩
theorem Wv.mono{α:Type}{lt:Nat->Nat->Bool}{n:Nat}{R S:α->Prop}(h:∀a,R a->S a):∀{t:KasT α},Wv lt n R t->Wv lt n S t
 | .ret a,g=>h a g
 | .ask i j k,g=>⟨g.1,g.2.1,Wv.mono h (t:=k (lt i j)) g.2.2⟩
theorem Wv.wp{α:Type}{lt:Nat->Nat->Bool}{n:Nat}{R:α->Prop}{cmp:Nat->Nat->(Bool->am->Prop)->am->Prop}{I:am->Prop}{Q:α->am->Prop}
  (hc:∀i j C s,i<n->j<n->I s->(∀s',I s'->C (lt i j) s')->cmp i j C s) (hq:∀a s,R a->I s->Q a s):∀{t:KasT α} {s:am},Wv lt n R t->I s->t.kasWp cmp Q s
 | .ret a,s,g,i=>hq a s g i
 | .ask i j k,s,g,x=>hc i j _ s g.1 g.2.1 x λs' x'=>Wv.wp hc hq (t:=k (lt i j)) g.2.2 x'
section
variable{O:KeyOrd}{key:Nat->O.α}{n:Nat}
abbrev E2(O:KeyOrd)(key:Nat->O.α)(i j:Nat):Bool:=O.blt (key i) (key j)
def Kp(key:Nat->O.α)(p:Array Nat)(i:Nat):O.α:=key (p.getD i 0)
def Lq(key:Nat->O.α)(p:Array Nat)(k:Nat):Prop:=∀i j,i<=j->j<k->O.kle (Kp key p i) (Kp key p j)
def Dec(key:Nat->O.α)(p:Array Nat)(k:Nat):Prop:=∀i j,i<=j->j<k->O.kle (Kp key p j) (Kp key p i)
def Pm(n:Nat)(p:Array Nat):Prop:=p.Perm (gy (cr n))
theorem Pm.size{p:Array Nat}(h:Pm n p):p.size=n:=by have:=(Array.perm_iff_toList_perm.mp h).length_eq;simpa using this
theorem Pm.lt{p:Array Nat}(h:Pm n p){i:Nat}(hi:i<n):p.getD i 0<n:=by
 have hs:i<p.size:=by rw[h.size];exact hi
 have hm:p[i]∈(cr n):=(Array.perm_iff_toList_perm.mp h).mem_iff.mp (by simp);rw[Array.getD_eq_getD_getElem?,getElem?_pos p i hs];exact cw.mp hm
theorem B1{p q:Array Nat}{i j:Nat}(h:p[i]? =q[j]?):Kp key p i=Kp key q j:=by unfold Kp;rw[Array.getD_eq_getD_getElem?,Array.getD_eq_getD_getElem?,h]
theorem Aj{p:Array Nat}{i j:Nat}(hj:j<=p.size)(k:Nat):Kp key (kas_rev p i j) k=if i<=k/\k<j then Kp key p (i+j- 1- k)else Kp key p k:=by
 have e:=getElem?_mirror_all (xs:=p) (i:=i) hj k;unfold kas_rev;by_cases h:i<=k/\k<j
 ·rw[if_pos h]at e⊢;exact B1 e
 ·rw[if_neg h]at e⊢;exact B1 e
theorem Ze2{p:Array Nat}{src d:Nat}(hs:src<p.size)(hd:d<=src)(k:Nat):Kp key (bubble p src d) k=if k=src- d then Kp key p src else if src- d<k/\k<=src then Kp key p (k- 1)else Kp key p k:=by
 have e:=getElem?_bubble hs d hd k;by_cases h1:k=src- d
 ·rw[if_pos h1]at e⊢;exact B1 e
 ·rw[if_neg h1]at e⊢;by_cases h2:src- d<k/\k<=src
  ·rw[if_pos h2]at e⊢;exact B1 e
  ·rw[if_neg h2]at e⊢;exact B1 e
theorem Pm.rev{p:Array Nat}(h:Pm n p)(i j:Nat):Pm n (kas_rev p i j):=(mirror_perm p i j _).trans h
theorem Pm.bub{p:Array Nat}(h:Pm n p)(i j:Nat):Pm n (bubble p i j):=(bubble_perm p i j).trans h
theorem Ak{p:Array Nat}(hp:Pm n p):∀(f m:Nat),1<=m->m+f<=n->Lq key p m->
  Wv (E2 O key) n (λr=>m<=r/\r<=m+f/\Lq key p r/\(r=m+f\/O.klt (Kp key p r) (Kp key p (r- 1)))) (kas_asc p f m)
 |0,m,_,_,hs=>⟨a8 _,a8 _,hs,.inl rfl⟩
 |f+1,m,h1,hm,hs=>by
  refine⟨hp.lt (by omega),hp.lt (by omega),?_⟩;show Wv _ _ _ (if O.blt (Kp key p m) (Kp key p (m- 1))=aC then _ else _);by_cases c:O.blt (Kp key p m) (Kp key p (m- 1))=aC
  ·rw[if_pos c];exact⟨a8 _,by omega,hs,.inr c⟩
  ·rw[if_neg c];refine(Ak hp f (m+1) (by omega) (by omega) λi j hij hj=>?_).mono λr ⟨a,b,d,e⟩=>⟨by omega,by omega,d,by rcases e with e|e;exact .inl (by omega);exact .inr e⟩
   by_cases hjm:j<m
   ·exact hs i j hij hjm
   ·have:j=m:=by omega
    subst this;by_cases hi:i=j
    ·subst hi;exact KeyOrd.kle_refl _
    ·exact KeyOrd.kle_trans (hs i (j- 1) (by omega) (by omega)) (KeyOrd.kle_of_not_klt c)
theorem Cg:∀(f:Nat) (p:Array Nat) (m q:Nat),Pm n p->1<=m->m+f<=n->Dec key p m->q+1<=m->(∀i,m- (q+1)<=i->i<m->Kp key p i=Kp key p (m- 1))->
  Wv (E2 O key) n (λr=>Pm n r.1/\m<=r.2.1/\r.2.1<=m+f/\Dec key r.1 r.2.1/\r.2.2+1<=r.2.1/\∀i,r.2.1- (r.2.2+1)<=i->i<r.2.1->Kp key r.1 i=Kp key r.1 (r.2.1- 1)) (kas_desc f p m q)
 |0,p,m,q,hp,_,_,hs,hq,he=>⟨hp,a8 _,a8 _,hs,hq,he⟩
 |f+1,p,m,q,hp,h1,hm,hs,hq,he=>by
  have hsz:m<=p.size:=by rw[hp.size];omega
  refine⟨hp.lt (by omega),hp.lt (by omega),?_⟩;show Wv _ _ _ (if O.blt (Kp key p m) (Kp key p (m- 1))=aC then _ else _);have up:∀{r:Array Nat×Nat×Nat},(Pm n r.1/\m+1<=r.2.1/\r.2.1<=m+1+f/\Dec key r.1 r.2.1/\r.2.2+1<=r.2.1/\∀i,r.2.1- (r.2.2+1)<=i->i<r.2.1->Kp key r.1 i=Kp key r.1 (r.2.1- 1))->
    (Pm n r.1/\m<=r.2.1/\r.2.1<=m+(f+1)/\Dec key r.1 r.2.1/\r.2.2+1<=r.2.1/\∀i,r.2.1- (r.2.2+1)<=i->i<r.2.1->Kp key r.1 i=Kp key r.1 (r.2.1- 1)):=
   λ⟨a,b,c,d⟩=>⟨a,by omega,by omega,d⟩
  have step1:∀x:Array Nat,O.blt (Kp key p m) (Kp key p (m- 1))=aC->(∀k,Kp key x k=Kp key p k)->Dec key x (m+1):=by
   intro x c hk i j hij hj;rw[hk,hk];by_cases hjx:j<m
   ·exact hs i j hij hjx
   ·have hj':j=m:=by omega
    subst hj';by_cases hi':i=j
    ·subst hi';exact KeyOrd.kle_refl _
    ·exact KeyOrd.kle_trans (KeyOrd.kle_of_klt c) (hs i (j- 1) (by omega) (by omega))
  have one:∀x:Array Nat,∀i,m+1- (0+1)<=i->i<m+1->Kp key x i=Kp key x (m+1- 1):=λx i a b=>by congr 1;omega
  by_cases c:O.blt (Kp key p m) (Kp key p (m- 1))=aC
  ·rw[if_pos c];by_cases hq0:q > 0
   ·rw[if_pos hq0];refine(Cg f (kas_rev p (m- (q+1)) m) (m+1) 0 (hp.rev _ _) (by omega) (by omega) (step1 _ c λk=>?_) (by omega) (one _)).mono λr=>up;rw[Aj hsz];by_cases hk:m- (q+1)<=k/\k<m
    ·rw[if_pos hk,he _ (by omega) (by omega),he k hk.1 hk.2]
    ·rw[if_neg hk]
   ·rw[if_neg hq0];exact(Cg f p (m+1) 0 hp (by omega) (by omega) (step1 _ c λ_=>rfl) (by omega) (one _)).mono λr=>up
  ·rw[if_neg c];refine⟨hp.lt (by omega),hp.lt (by omega),?_⟩;show Wv _ _ _ (if O.blt (Kp key p (m- 1)) (Kp key p m)=aC then _ else _);by_cases d:O.blt (Kp key p (m- 1)) (Kp key p m)=aC
   ·rw[if_pos d];exact⟨hp,a8 _,Nat.le_add_right _ _,hs,hq,he⟩
   ·rw[if_neg d];have ex:Kp key p m=Kp key p (m- 1):=KeyOrd.kle_antisymm (by simpa[KeyOrd.kle]using d) (by simpa[KeyOrd.kle]using c);refine(Cg f p (m+1) (q+1) hp (by omega) (by omega) (λi j hij hj=>?_) (by omega) λi a b=>?_).mono λr=>up
    ·by_cases hjx:j<m
     ·exact hs i j hij hjx
     ·have hj':j=m:=by omega
      subst hj';by_cases hi':i=j
      ·subst hi';exact KeyOrd.kle_refl _
      ·rw[ex];exact hs i (j- 1) (by omega) (by omega)
    ·rw[show m+1- 1=m by omega];by_cases hix:i=m
     ·subst hix;rfl
     ·rw[ex];exact he i (by omega) (by omega)
abbrev Ct(key:Nat->O.α)(n:Nat)(r:Nat×Array Nat):Prop:=Pm n r.2/\1<=r.1/\r.1<=n/\Lq key r.2 r.1
theorem Al{p:Array Nat}(hp:Pm n p){m:Nat}(h1:1<=m)(hm:m<=n)(hs:Dec key p m):Wv (E2 O key) n (Ct key n) (kas_tail3 m n p):=by
 have hsz:m<=p.size:=by rw[hp.size];exact hm
 refine Wv.bind (R:=λr=>m<=r/\r<=m+(n- m)/\Lq key (kas_rev p 0 m) r/\_) (λr ⟨a,b,c,_⟩=>⟨hp.rev _ _,by show 1<=r;omega,by show r<=n;omega,c⟩) (Ak (hp.rev 0 m) (n- m) m h1 (by omega) λi j hij hj=>?_);rw[Aj hsz,Aj hsz,if_pos (by omega),if_pos (by omega)];exact hs _ _ (by omega) (by omega)
theorem Cw{p:Array Nat}(hp:Pm n p){m:Nat}(hm:m+1<=n)(hs:Dec key p (m+1)):Wv (E2 O key) n (Ct key n) (kas_descPart m n p):=by
 refine Wv.bind (λr h=>?_) (Cg (n- (m+1)) p (m+1) 0 hp (by omega) (by omega) hs (by omega) λi a b=>by congr 1;omega);obtain⟨a,b,c,d,e,g⟩:=h;have hsz:r.2.1<=r.1.size:=by rw[a.size];omega
 by_cases hq:r.2.2 > 0
 ·rw[if_pos hq];refine Al (a.rev _ _) (by omega) (by omega) λi j hij hj=>?_;have k:∀x,Kp key (kas_rev r.1 (r.2.1- (r.2.2+1)) r.2.1) x=Kp key r.1 x:=λx=>by
   rw[Aj hsz];by_cases hk:r.2.1- (r.2.2+1)<=x/\x<r.2.1
   ·rw[if_pos hk,g _ (by omega) (by omega),g x hk.1 hk.2]
   ·rw[if_neg hk]
  rw[k,k];exact d i j hij hj
 ·rw[if_neg hq];exact Al a (by omega) (by omega) d
theorem V8{p:Array Nat}(hp:Pm n p)(h1:1<=n):Wv (E2 O key) n (Ct key n) (kas_count n p):=by
 refine Wv.bind (λm h=>?_) (Ak (key:=key) hp (n- 1) 1 (a8 _) (by omega) λi j hij hj=>by(have:i=j:=by omega);subst this;exact KeyOrd.kle_refl _);obtain⟨a,b,c,d⟩:=h;by_cases hm:(m==n)=aC
 ·rw[if_pos hm];exact⟨hp,a,by show m<=n;omega,c⟩
 ·rw[if_neg hm];have hne:m≠n:=λz=>hm (by rw[z];exact beq_self_eq_true n);have br:O.klt (Kp key p m) (Kp key p (m- 1)):=by
   rcases d with d|d
   ·omega
   ·exact d
  by_cases h2:m > 1
  ·rw[if_pos h2];refine⟨hp.lt (by omega),hp.lt (by omega),?_⟩;show Wv _ _ _ (if O.blt (Kp key p 0) (Kp key p (m- 1))=aC then _ else _);by_cases c0:O.blt (Kp key p 0) (Kp key p (m- 1))=aC
   ·rw[if_pos c0];exact⟨hp,a,by show m<=n;omega,c⟩
   ·rw[if_neg c0];have hsz:m<=p.size:=by rw[hp.size];omega
    have eq:∀i,i<m->Kp key p i=Kp key p (m- 1):=λi hi=>
     KeyOrd.kle_antisymm (c i (m- 1) (by omega) (by omega)) (KeyOrd.kle_trans (by simpa[KeyOrd.kle]using c0) (c 0 i (by omega) hi))
    have k:∀x,Kp key (kas_rev p 0 m) x=Kp key p x:=λx=>by
     rw[Aj hsz];by_cases hk:0<=x/\x<m
     ·rw[if_pos hk,eq _ (by omega),eq x hk.2]
     ·rw[if_neg hk]
    refine Cw (hp.rev 0 m) (by omega) λi j hij hj=>?_;rw[k,k];by_cases hjm:j=m
    ·subst hjm;by_cases hi:i=j
     ·subst hi;exact KeyOrd.kle_refl _
     ·rw[eq i (by omega)];exact KeyOrd.kle_of_klt br
    ·rw[eq i (by omega),eq j (by omega)];exact KeyOrd.kle_refl _
  ·rw[if_neg h2];have:m=1:=by omega
   subst this;refine Cw hp (by omega) λi j hij hj=>?_;by_cases hi:i=j
   ·subst hi;exact KeyOrd.kle_refl _
   ·have:i=0:=by omega
    subst this;have:j=1:=by omega
    subst this;exact KeyOrd.kle_of_klt br
theorem Gc{p:Array Nat}(hp:Pm n p){k:Nat}(hk:k<n)(hs:Lq key p k):∀(f l r:Nat),l<=r->r<=k->r- l<=f->(∀i,i<l->O.kle (Kp key p i) (Kp key p k))->(∀i,r<=i->i<k->O.kle (Kp key p k) (Kp key p i))->
  Wv (E2 O key) n (λm=>m<=k/\(∀i,i<m->O.kle (Kp key p i) (Kp key p k))/\∀i,m<=i->i<k->O.kle (Kp key p k) (Kp key p i)) (kas_place p k f l r)
 |0,l,r,hlr,hr,hf,h1,h2=>⟨by omega,h1,λi a b=>h2 i (by omega) b⟩
 |f+1,l,r,hlr,hr,hf,h1,h2=>by
  show Wv _ _ _ (if l>=r then _ else _);by_cases c:l>=r
  ·rw[if_pos c];exact⟨by omega,h1,λi a b=>h2 i (by omega) b⟩
  ·rw[if_neg c];refine⟨hp.lt hk,hp.lt (by omega),?_⟩;show Wv _ _ _ (if O.blt (Kp key p k) (Kp key p ((l+r) / 2))=aC then _ else _);by_cases d:O.blt (Kp key p k) (Kp key p ((l+r) / 2))=aC
   ·rw[if_pos d];exact Gc hp hk hs f l ((l+r) / 2) (by omega) (by omega) (by omega) h1 λi a b=>KeyOrd.kle_trans (KeyOrd.kle_of_klt d) (hs _ i a b)
   ·rw[if_neg d];exact Gc hp hk hs f ((l+r) / 2+1) r (by omega) hr (by omega) (λi a=>KeyOrd.kle_trans (hs i ((l+r) / 2) (by omega) (by omega)) (KeyOrd.kle_of_not_klt d)) h2
theorem Pu:∀(f:Nat) (p:Array Nat) (k:Nat),Pm n p->k+f=n->Lq key p k->Wv (E2 O key) n (λq=>Pm n q/\Lq key q n) (kas_bin f p k)
 |0,p,k,hp,hk,hs=>⟨hp,by(have:k=n:=hk);rw[<-this];exact hs⟩
 |f+1,p,k,hp,hk,hs=>by
  refine Wv.bind (λl h=>?_) (Gc hp (by omega) hs k 0 k (dn _) (a8 _) (by omega) (λi hi=>absurd hi (fj _)) λi a b=>absurd b (by omega));obtain⟨hl,a,b⟩:=h;have hsz:k<p.size:=by rw[hp.size];omega
  refine Pu f (bubble p k (k- l)) (k+1) (hp.bub _ _) (by omega) λi j hij hj=>?_;rw[Ze2 hsz (by omega),Ze2 hsz (by omega)];have e:k- (k- l)=l:=by omega
  rw[e];by_cases i1:i=l
  ·rw[if_pos i1];by_cases j1:j=l
   ·rw[if_pos j1];exact KeyOrd.kle_refl _
   ·rw[if_neg j1,if_pos (by omega)];exact b (j- 1) (by omega) (by omega)
  ·rw[if_neg i1];by_cases i2:l<i/\i<=k
   ·rw[if_pos i2,if_neg (by omega),if_pos (by omega)];exact hs _ _ (by omega) (by omega)
   ·rw[if_neg i2];by_cases j1:j=l
    ·rw[if_pos j1];exact a i (by omega)
    ·rw[if_neg j1];by_cases j2:l<j/\j<=k
     ·rw[if_pos j2];exact hs _ _ (by omega) (by omega)
     ·rw[if_neg j2];exact hs _ _ hij (by omega)
theorem Fa(h1:1<=n):Wv (E2 O key) n (λq=>Pm n q/\Lq key q n) (kas_sort n):=by
 refine Wv.bind (λr h=>?_) (V8 (key:=key) (Array.Perm.refl _) h1);obtain⟨a,b,c,d⟩:=h;by_cases hr:r.1<n
 ·rw[if_pos hr];have e:max r.1 1=r.1:=by omega
  rw[e];exact Pu _ _ _ a (by omega) d
 ·rw[if_neg hr];have:r.1=n:=by omega
  exact⟨a,by rw[this]at d;exact d⟩
end
end TX
namespace TX
open PySem PySem.SeqAt
open AutoSeq1 (wpAny_loadPart')
open MeetsSeq MeetsSeq2 MeetsSeq3 SeqRoads2
def Uz(A:cj)(s:am)(y x:aj)(b:Bool):Prop:=
 ∀(prog:bu) (w:ck) (E:aj->am->Prop) (Q:aj->am->Prop),Q (.bool b) s->ba (bp prog w) A (richCompare .Lt y x) Q E s
def Jl(fin:Bool)(e l:Nat->Bool):Nat->Nat->Bool
 |0,_=>fin
 |k+1,i=>if e i=aC then Jl fin e l k (i+1)else l i
theorem Zbj(l b:ak)(items items2:Array aj)(n n2:Nat)(dd dd2:Option ak)(sl sl2:Array (Option aj))(e lt:Nat->Bool)(k:Nat):
  ∀i:Nat,(∀j,j<i->e j=aC)->min items.size items2.size- i=k->Meets (Builtin.«list.__eq__.loop» ⟨[.ref l,.ref b,rawInt i,rawInt 0],[]⟩)
   (λA R s=>s.heap.get? l=aA {cls:=.type "list",dict:=dd,data:=.seq items n,slots:=sl}/\s.heap.get? b=aA {cls:=.type "list",dict:=dd2,data:=.seq items2 n2,slots:=sl2}/\
    (∀j (h1:j<items.size) (h2:j<items2.size),(∀i,i<j->e i=aC)->EqAt A.in1 s items[j] items2[j] (e j))/\(∀j (h1:j<items.size) (h2:j<items2.size),(∀i,i<j->e i=aC)->e j=aD->Uz A.in1 s items[j] items2[j] (lt j))/\
    R (.ok (.ret (.bool (Jl (decide (items.size<items2.size)) e lt k i)))) s):=by
 induction k with
 |zero=>
  intro i hpre hk prog w A R s h;obtain⟨hp,g,d,tk,os⟩:=s;obtain⟨hl,hb,he,ht,h⟩:=h;wp_walk using dg hl,dg hb;have hi:items[((i:Nat):Int).toNat]? =aB\/items2[((i:Nat):Int).toNat]? =aB:=by
   rcases gx i items.size with z|z
   ·right;simp;omega
   ·left;simp;omega
  rcases h1:items[((i:Nat):Int).toNat]? with _|x
  ·wp_walk using dg hl,dg hb;exact h
  ·rcases hi with hi|hi
   ·rw[h1]at hi;cases hi
   ·rw[hi];wp_walk using dg hl,dg hb;exact h
 |succ k ih=>
  intro i hpre hk prog w A R s h;obtain⟨hp,g,d,tk,os⟩:=s;obtain⟨hl,hb,he,ht,h⟩:=h;wp_walk using dg hl,dg hb;have hlt:i<items.size:=by omega
  have hlt2:i<items2.size:=by omega
  have hi1:items[((i:Nat):Int).toNat]? =aA items[i]:=by simp[hlt]
  have hi2:items2[((i:Nat):Int).toNat]? =aA items2[i]:=by simp[hlt2]
  have hc:((i:Int)+1)=((i+1:Nat):Int):=by push_cast;rfl
  rw[hi1,hi2];refine ad (he i hlt hlt2 hpre prog w _ _ ?_);cases hb':e i with
  |true=>
   have h':R (.ok (.ret (.bool (Jl (decide (items.size<items2.size)) e lt k (i+1))))) ⟨hp,g,d,tk,os⟩:=by have z:=h;unfold Jl at z;rw[if_pos hb']at z;exact z
   wp_walk;rw[hc];exact⟨plainId_quiet plain_eq_loop _,gr entry_eq_loop (by
    rw[d7 plain_eq_loop _];exact ih (i+1) (λj hj=>by
     rcases gx j i with z|z
     ·exact hpre j z
     ·have:j=i:=by omega
      rw[this];exact hb') (by omega) prog w A R _ ⟨hl,hb,he,ht,h'⟩)⟩
  |false=>
   have h':R (.ok (.ret (.bool (lt i)))) ⟨hp,g,d,tk,os⟩:=by have z:=h;unfold Jl at z;rw[if_neg (by rw[hb'];simp)]at z;exact z
   wp_walk using dg hl,dg hb;rw[hi1,hi2];refine ad (ht i hlt hlt2 hpre hb' prog w _ _ ?_);wp_walk;exact h'
theorem Fb(l b:ak)(items items2:Array aj)(n n2:Nat)(dd dd2:Option ak)(sl sl2:Array (Option aj))(e lt:Nat->Bool):
  Meets (Builtin.«list.__lt__» ⟨[.ref l,.ref b],[]⟩)
   (λA R s=>s.heap.get? l=aA {cls:=.type "list",dict:=dd,data:=.seq items n,slots:=sl}/\s.heap.get? b=aA {cls:=.type "list",dict:=dd2,data:=.seq items2 n2,slots:=sl2}/\
    (∀j (h1:j<items.size) (h2:j<items2.size),(∀i,i<j->e i=aC)->EqAt A.in1 s items[j] items2[j] (e j))/\(∀j (h1:j<items.size) (h2:j<items2.size),(∀i,i<j->e i=aC)->e j=aD->Uz A.in1 s items[j] items2[j] (lt j))/\
    R (.ok (.ret (.bool (Jl (decide (items.size<items2.size)) e lt (min items.size items2.size) 0)))) s):=by
 intro prog w A R s h;obtain⟨hp,g,d,tk,os⟩:=s;obtain⟨hl,hb,he,ht,h⟩:=h;have f3:=AutoSeq1.sub_list_list;wp_walk using dg hl,dg hb;exact⟨plainId_quiet plain_eq_loop _,gr entry_eq_loop (by
  rw[d7 plain_eq_loop _];exact Zbj l b items items2 n n2 dd dd2 sl sl2 e lt _ 0 (λj hj=>absurd hj (fj _)) rfl prog w A R _ ⟨hl,hb,he,ht,h⟩)⟩
theorem V9(l b:ak)(items items2:Array aj)(n n2:Nat)(dd dd2:Option ak)(sl sl2:Array (Option aj))(e lt:Nat->Bool):
  Meets (Builtin.«tuple.__lt__» ⟨[.ref l,.ref b],[]⟩)
   (λA R s=>s.heap.get? l=aA {cls:=.type "tuple",dict:=dd,data:=.seq items n,slots:=sl}/\s.heap.get? b=aA {cls:=.type "tuple",dict:=dd2,data:=.seq items2 n2,slots:=sl2}/\
    (∀j (h1:j<items.size) (h2:j<items2.size),(∀i,i<j->e i=aC)->EqAt A.in1 s items[j] items2[j] (e j))/\(∀j (h1:j<items.size) (h2:j<items2.size),(∀i,i<j->e i=aC)->e j=aD->Uz A.in1 s items[j] items2[j] (lt j))/\
    R (.ok (.ret (.bool (Jl (decide (items.size<items2.size)) e lt (min items.size items2.size) 0)))) s):=
 .of_wp λprog w A R s h=>by
  obtain⟨hp,g,d,tk,os⟩:=s;obtain⟨hl,hb,he,ht,h⟩:=h;have f2:=AutoSeq1.sub_tuple_tuple;have hZ:(items.toList.zip items2.toList).length=min items.size items2.size:=by simp
  wp_walk using dg hl,dg hb,wpAny_forIn_list _ (λrest b s'=>b.1=aB/\s'=⟨hp,g,d,tk,os⟩/\∃i,rest=(items.toList.zip items2.toList).drop i/\(∀j,j<i->e j=aC)/\
   R (.ok (.ret (.bool (Jl (decide (items.size<items2.size)) e lt (min items.size items2.size- i) i)))) ⟨hp,g,d,tk,os⟩) _
  case turn=>
   rintro⟨y,x⟩ rest b s' ⟨hb',rfl,i,hz,hpre,hR⟩;have hlt:i<(items.toList.zip items2.toList).length:=by
    rcases gx i (items.toList.zip items2.toList).length with h'|h'
    ·exact h'
    ·rw[List.drop_of_length_le h']at hz;cases hz
   have hm:i<min items.size items2.size:=hZ▸hlt;have h1:i<items.size:=cu hm (Nat.min_le_left _ _);have h2:i<items2.size:=cu hm (Nat.min_le_right _ _);rw[List.drop_eq_getElem_cons hlt]at hz;injection hz with hyx hrest;have hy:y=items[i]:=by have:=congrArg Prod.fst hyx;simpa using this
   have hx:x=items2[i]:=by have:=congrArg Prod.snd hyx;simpa using this
   subst hy hx;have hk:min items.size items2.size- i=(min items.size items2.size- (i+1))+1:=by omega
   rw[hk]at hR;unfold Jl at hR;refine ad (he i h1 h2 hpre prog w _ _ ?_);cases hy:e i with
   |true=>
    rw[if_pos hy]at hR;wp_walk;exact⟨rfl,rfl,i+1,hrest,λj hj=>by
     rcases gx j i with z|z
     ·exact hpre j z
     ·have:j=i:=by omega
      rw[this];exact hy,hR⟩
   |false=>rw[if_neg (by rw[hy];simp)]at hR;simp only[Bool.not_false,if_true];refine ad (wpAny_rule (ad (ht i h1 h2 hpre hy prog w _ _ ?_)));wp_walk;exact⟨_,rfl,hR⟩
  case fin=>
   rintro⟨b1,b2⟩ s' ⟨hb',rfl,i,hz,hpre,hR⟩;simp only at hb';subst hb';have hge:min items.size items2.size<=i:=by
    rcases gx i (items.toList.zip items2.toList).length with h'|h'
    ·rw[List.drop_eq_getElem_cons h']at hz;cases hz
    ·exact hZ▸h'
   have hk:min items.size items2.size- i=0:=by omega
   rw[hk]at hR;wp_walk;exact⟨_,rfl,hR⟩
  case h=>
   exact⟨rfl,rfl,0,rfl,λj hj=>absurd hj (fj _),by simpa using h⟩
section
variable{A:cj}{s:am}
theorem Uz.lists{l b:ak}{items items2:Array aj}{e lt:Nat->Bool}(hl:s.heap.IsList l items)(hb:s.heap.IsList b items2)(hu:A.units<dw)
  (he:∀j (h1:j<items.size) (h2:j<items2.size),(∀i,i<j->e i=aC)->EqAt A.in1 s items[j] items2[j] (e j)) (ht:∀j (h1:j<items.size) (h2:j<items2.size),(∀i,i<j->e i=aC)->e j=aD->Uz A.in1 s items[j] items2[j] (lt j)):
  Uz A s (.ref l) (.ref b) (Jl (decide (items.size<items2.size)) e lt (min items.size items2.size) 0):=λprog w E Q h=>by
 obtain⟨⟨cls,dd,data,sl⟩,ho,hc,n,hd⟩:=id hl;obtain⟨⟨cls2,dd2,data2,sl2⟩,ho2,hc2,n2,hd2⟩:=id hb;simp only at hc hd hc2 hd2;subst hc hd hc2 hd2;exact richCompare_meets_room (op:=.Lt) ⟨_,ho,rfl⟩ ⟨_,ho2,rfl⟩ F.slot_list_lt F.entry_list_lt (F.args_list_lt_2 _ _) (Fb l b items items2 n n2 dd dd2 sl sl2 e lt)
  ⟨ho,ho2,he,ht,show Value.bool (Jl (decide (items.size<items2.size)) e lt (min items.size items2.size) 0)≠Value.notImplemented/\Q (.bool (Jl (decide (items.size<items2.size)) e lt (min items.size items2.size) 0)) s from⟨(λx=>nomatch x),h⟩⟩ hu
theorem Uz.tuples{l b:ak}{items items2:Array aj}{e lt:Nat->Bool}(hl:s.heap.IsTuple l items)(hb:s.heap.IsTuple b items2)(hu:A.units<dw)
  (he:∀j (h1:j<items.size) (h2:j<items2.size),(∀i,i<j->e i=aC)->EqAt A.in1 s items[j] items2[j] (e j)) (ht:∀j (h1:j<items.size) (h2:j<items2.size),(∀i,i<j->e i=aC)->e j=aD->Uz A.in1 s items[j] items2[j] (lt j)):
  Uz A s (.ref l) (.ref b) (Jl (decide (items.size<items2.size)) e lt (min items.size items2.size) 0):=λprog w E Q h=>by
 obtain⟨⟨cls,dd,data,sl⟩,ho,hc,n,hd⟩:=id hl;obtain⟨⟨cls2,dd2,data2,sl2⟩,ho2,hc2,n2,hd2⟩:=id hb;simp only at hc hd hc2 hd2;subst hc hd hc2 hd2;exact richCompare_meets_room (op:=.Lt) ⟨_,ho,rfl⟩ ⟨_,ho2,rfl⟩ F.slot_tuple_lt F.entry_tuple_lt (F.args_tuple_lt_2 _ _) (V9 l b items items2 n n2 dd dd2 sl sl2 e lt)
  ⟨ho,ho2,he,ht,show Value.bool (Jl (decide (items.size<items2.size)) e lt (min items.size items2.size) 0)≠Value.notImplemented/\Q (.bool (Jl (decide (items.size<items2.size)) e lt (min items.size items2.size) 0)) s from⟨(λx=>nomatch x),h⟩⟩ hu
def Cy(A:cj)(s:am)(y x:aj)(b:Bool):Prop:=
 ∀(prog:bu) (w:ck) (E:aj->am->Prop) (Q:Bool->am->Prop),Q b s->ba (bp prog w) A (PyProof.Rows.oneLt' aC y x) Q E s
theorem Cy.lists{l b:ak}{items items2:Array aj}{e lt:Nat->Bool}(hl:s.heap.IsList l items)(hb:s.heap.IsList b items2)(hu:A.units<dw)
  (he:∀j (h1:j<items.size) (h2:j<items2.size),(∀i,i<j->e i=aC)->EqAt A.in1 s items[j] items2[j] (e j)) (ht:∀j (h1:j<items.size) (h2:j<items2.size),(∀i,i<j->e i=aC)->e j=aD->Uz A.in1 s items[j] items2[j] (lt j)):
  Cy A s (.ref l) (.ref b) (Jl (decide (items.size<items2.size)) e lt (min items.size items2.size) 0):=λprog w E Q h=>by
 obtain⟨⟨cls,dd,data,sl⟩,ho,hc,n,hd⟩:=id hl;obtain⟨⟨cls2,dd2,data2,sl2⟩,ho2,hc2,n2,hd2⟩:=id hb;simp only at hc hd hc2 hd2;subst hc hd hc2 hd2;rw[PyProof.Rows.oneLt'_eq];simp only[if_true];refine ad (wpAny_cRoomFor hu ?_);refine ad (wpAny_callSpecialIfBound?_slot ⟨_,ho,rfl⟩ F.slot_list_lt (call_meets F.slot_list_lt ⟨_,ho,rfl⟩ F.entry_list_lt (F.args_list_lt_2 _ _) (Fb l b items items2 n n2 dd dd2 sl sl2 e lt) ⟨ho,ho2,he,ht,?_⟩));exact wpAny_truthy_bool h
theorem Cy.int(a:Int)(t:Tok)(b:Int)(u:Tok):Cy A s (.int a t) (.int b u) (decide (a<b)):=λprog w E Q h=>PyProof.Rows.oneLt_int h
theorem Cy.str(a:Str)(t:Tok)(b:Str)(u:Tok):Cy A s (.str a t) (.str b u) (decide (a.cps.toList<b.cps.toList)):=λprog w E Q h=>PyProof.Rows.oneLt_str h
theorem Uz.int(a:Int)(t:Tok)(b:Int)(u:Tok):Uz A s (.int a t) (.int b u) (decide (a<b)):=λprog w E Q h=>wpAny_lt_int h
theorem Uz.str(a:Str)(t:Tok)(b:Str)(u:Tok):Uz A s (.str a t) (.str b u) (decide (a.cps.toList<b.cps.toList)):=λprog w E Q h=>PySem.P.lt_str h
end
end TX
namespace TX
open PySem PySem.Spec PyProof.Rows L2
open PySem.W (kla_fn kla_obj kla_callFunE kla_codeExpr envX)
structure LamS(x:Str)(fs:List Str)(sc:Scope):Prop where
 kind:sc.kind= .function
 co:sc.isCoroutine=aD
 gen:sc.isGenerator=aD
 par:sc.names.lookup x=aA .local
 nocell:∀y∈sc.names,y.2≠.cell
 nd:x∉fs
abbrev Znq(qual:Str)(sc:Scope)(L f:ak)(c:ak)(cl:List (Str×ak)):Env:=envX qual sc L f (.ref c) cl
def cxL(X:Cx)(N:List Str)(qual:Str)(sc:Scope)(f c:ak)(cl:List (Str×ak))(A:cj)(s:am)(H:Hp):Cx where
 prog:=X.prog
 w:=X.w
 K:=X.K
 mg:=X.mg
 base:=X.base
 A:=A.deeper (Znq qual sc s.heap.objs.size f c cl)
 N:=N
 s₀:=s
 H₀:=H
 env:=Znq qual sc s.heap.objs.size f c cl
 outer:=X.stack
 stack:=Znq qual sc s.heap.objs.size f c cl::X.stack
 ex:=[]
 calm:=aC
 fn:=λ_=>aD
 pn:=[]
 xe:=λ_ _=>False
end TX
namespace TX
open PySem PySem.Spec PyProof.Rows L2
open PySem.W (kla_fn kla_obj kla_eval kla_makeFunction kla_makeFunctionHit CodeHd tabObj)
def Zyn(mg:Str->Option aj)(h:dq):Prop:=∃bm ob,mg "__builtins__"=aA (.ref bm)/\bm≠builtinsNs/\h.get? bm=aA ob/\ob.cls= .type "module"/\ob.dict=aA builtinsNs/\ob.data= .plain
def Z08(o:Obj)(q:Str):Prop:=∃vs t,o.data= .fields vs/\vs[1]? =aA (.str q t)
end TX
namespace TX
open PySem PySem.Spec PyProof.Rows L2 DL
open PySem.SeqAt (EqAt)
variable{K:af}
@[simp] def Re(eq lt:D->D->Option Bool):List D->List D->Option Bool
 | [],ys=>aA (!ys.isEmpty)
 |_::_,[]=>aA aD
 |x::xs,y::ys=>(eq x y).bind λb=>if b=aC then Re eq lt xs ys else lt x y
@[simp] def Xa(eq lt:D->D->Option Bool):D->D->Option Bool
 | .int i,.int j=>aA (decide (i<j))
 | .str a,.str b=>aA (decide (a.cps.toList<b.cps.toList))
 | .lst xs,.lst ys=>Re eq lt xs ys
 | .tup xs,.tup ys=>Re eq lt xs ys
 |_,_=>aB
@[simp] def Jo:Nat->D->D->Option Bool
 |0=>λ_ _=>aB
 |n+1=>Xa (Wq n) (Jo n)
def isT:Option Bool->Bool
 |some aC=>aC
 |_=>aD
abbrev eJ(f:D->D->Option Bool)(xs ys:List D)(j:Nat):Bool:=isT (f (xs.getD j .non) (ys.getD j .non))
theorem Am{fin:Bool}{e l:Nat->Bool}:∀(k i:Nat),Jl fin e l k (i+1)=Jl fin (λj=>e (j+1)) (λj=>l (j+1)) k i
 |0,_=>rfl
 |k+1,i=>by
  show(if e (i+1)=aC then Jl fin e l k (i+1+1)else l (i+1))=(if e (i+1)=aC then _ else _)
  rw[Am k (i+1)]
theorem Fc{eq lt:D->D->Option Bool}:∀{xs ys:List D} {b:Bool},Re eq lt xs ys=aA b->
  Jl (decide (xs.length<ys.length)) (eJ eq xs ys) (eJ lt xs ys) (min xs.length ys.length) 0=b/\
  ∀j,j<xs.length->j<ys.length->(∀i,i<j->eJ eq xs ys i=aC)->eq (xs.getD j .non) (ys.getD j .non)=aA (eJ eq xs ys j)/\(eJ eq xs ys j=aD->lt (xs.getD j .non) (ys.getD j .non)=aA (eJ lt xs ys j))
 | [],ys,b,h=>by
  refine⟨?_,λj hj=>absurd hj (fj _)⟩;obtain rfl:(!ys.isEmpty)=b:=by simpa using h
  cases ys<;> simp[Jl]
 |x::xs,[],b,h=>by
  refine⟨?_,λj _ hj=>absurd hj (fj _)⟩;obtain rfl:aD=b:=by simpa using h
  simp[Jl]
 |x::xs,y::ys,b,h=>by
  have h:(eq x y).bind (λb=>if b=aC then Re eq lt xs ys else lt x y)=aA b:=h;obtain⟨c,hc,h2⟩:=aa.mp h;have e0:eJ eq (x::xs) (y::ys) 0=c:=by show isT (eq x y)=c;rw[hc];cases c<;> rfl
  have hm:min (x::xs).length (y::ys).length=min xs.length ys.length+1:=by simp only[bn];omega
  have hfin:decide ((x::xs).length<(y::ys).length)=decide (xs.length<ys.length):=by simp
  rw[hm,hfin];cases c with
  |false=>
   have h2:lt x y=aA b:=by simpa using h2
   refine⟨?_,λj hj1 hj2 hp=>?_⟩
   ·show(if eJ eq (x::xs) (y::ys) 0=aC then _ else eJ lt (x::xs) (y::ys) 0)=b;rw[e0,if_neg (by simp)];show isT (lt x y)=b;rw[h2];cases b<;> rfl
   ·cases j with
    |zero=>refine⟨by rw[e0];exact hc,λ_=>?_⟩;show lt x y=aA (isT (lt x y));rw[h2];cases b<;> rfl
    |succ j=>have:=hp 0 (Nat.succ_pos _);rw[e0]at this;cases this
  |true=>
   have h2:Re eq lt xs ys=aA b:=by simpa using h2
   obtain⟨i1,i2⟩:=Fc h2;refine⟨?_,λj hj1 hj2 hp=>?_⟩
   ·show(if eJ eq (x::xs) (y::ys) 0=aC then Jl _ _ _ _ (0+1)else eJ lt (x::xs) (y::ys) 0)=b;rw[e0,if_pos rfl,Am];exact i1
   ·cases j with
    |zero=>refine⟨by rw[e0];exact hc,λz=>?_⟩;rw[e0]at z;cases z
    |succ j=>exact i2 j (by simpa using hj1) (by simpa using hj2) λi hi=>hp (i+1) (by omega)
theorem Reps.getD{F:Hp}:∀{ds:List D} {vs:List V} {its:List aj},Reps K F ds vs->Zw vs its->∀(j:Nat) (hj:j<its.length),∃v,Rep K F (ds.getD j .non) v/\Zm v its[j]/\j<ds.length
 |_,_,_,.nil,.nil,j,hj=>absurd hj (fj _)
 |_,_,_,.cons h t,.cons q qs,0,_=>⟨_,h,q,Nat.succ_pos _⟩
 |_,_,_,.cons h t,.cons q qs,j+1,hj=>by obtain⟨v,a,b,c⟩:=Reps.getD t qs j (Nat.lt_of_succ_lt_succ hj);exact⟨v,a,b,Nat.succ_lt_succ c⟩
theorem Reps.lenV{F:Hp}:∀{ds:List D} {vs:List V} {its:List aj},Reps K F ds vs->Zw vs its->ds.length=its.length
 |_,_,_,.nil,.nil=>rfl
 |_,_,_,.cons h t,.cons q qs=>congrArg (· +1) (Reps.lenV t qs)
section
variable{X:Cx}{pins:List (ak×Obj)}{σ:L2.St}{F H:Hp}{s:am}
theorem Ua(I:Inv X pins σ H s)(le:Ze F H){a:ak}{vs:List V}(h:Wp X.K F a vs):∃its:List aj,Zw vs its/\s.heap.IsList a its.toArray:=by obtain⟨its,rv,⟨o,n,ho,hcl,_,hd⟩,_⟩:=I.list (Y2 le h);exact⟨its,rv,o,ho,hcl,n,hd⟩
theorem Qs(I:Inv X pins σ H s)(le:Ze F H){a:ak}{vs:List V}(h:F a=aA (.tup vs)):∃its:List aj,Zw vs its/\s.heap.IsTuple a its.toArray:=by obtain⟨_,its,rv,p⟩:=I.hok a _ (le _ _ h);obtain⟨o,ho,hc,n,hd⟩:=p;exact⟨its,rv,o,ho,hc,n,hd⟩
theorem An(I:Inv X pins σ H s)(le:Ze F H){n:Nat}{A:cj}(hu:A.units+n<dw)(ih:∀(d1 d2:D) (b:Bool) (x y:V) (v u:aj),Rep X.K F d1 x->Zm x v->Rep X.K F d2 y->Zm y u->Jo n d1 d2=aA b->Uz A s v u b)
  {ds es:List D} {vs ws:List V} {its jts:List aj} (r1:Reps X.K F ds vs) (rv1:Zw vs its) (r2:Reps X.K F es ws) (rv2:Zw ws jts) {b:Bool} (h:Re (Wq n) (Jo n) ds es=aA b):
  Jl (decide (its.toArray.size<jts.toArray.size)) (eJ (Wq n) ds es) (eJ (Jo n) ds es) (min its.toArray.size jts.toArray.size) 0=b/\
  (∀j (h1:j<its.toArray.size) (h2:j<jts.toArray.size),(∀i,i<j->eJ (Wq n) ds es i=aC)->EqAt A s its.toArray[j] jts.toArray[j] (eJ (Wq n) ds es j))/\
  (∀j (h1:j<its.toArray.size) (h2:j<jts.toArray.size),(∀i,i<j->eJ (Wq n) ds es i=aC)->eJ (Wq n) ds es j=aD->Uz A s its.toArray[j] jts.toArray[j] (eJ (Jo n) ds es j)):=by
 obtain⟨a,c⟩:=Fc h;rw[Reps.lenV r1 rv1,Reps.lenV r2 rv2]at a;refine⟨by simpa using a,λj h1 h2 hp=>?_,λj h1 h2 hp hf=>?_⟩
 ·have h1':j<its.length:=by simpa using h1
  have h2':j<jts.length:=by simpa using h2
  obtain⟨v,p1,p2,p3⟩:=Reps.getD r1 rv1 j h1';obtain⟨w,q1,q2,q3⟩:=Reps.getD r2 rv2 j h2';exact T5 I le n A _ _ _ _ _ _ _ hu p1 (by simpa using p2) q1 (by simpa using q2) (c j p3 q3 hp).1
 ·have h1':j<its.length:=by simpa using h1
  have h2':j<jts.length:=by simpa using h2
  obtain⟨v,p1,p2,p3⟩:=Reps.getD r1 rv1 j h1';obtain⟨w,q1,q2,q3⟩:=Reps.getD r2 rv2 j h2';exact ih _ _ _ _ _ _ _ p1 (by simpa using p2) q1 (by simpa using q2) ((c j p3 q3 hp).2 hf)
theorem Xb(I:Inv X pins σ H s)(le:Ze F H):∀(n:Nat) (A:cj) (d1 d2:D) (b:Bool) (x y:V) (v u:aj),A.units+n<dw->Rep X.K F d1 x->Zm x v->Rep X.K F d2 y->Zm y u->Jo n d1 d2=aA b->Uz A s v u b
 |0,_,_,_,_,_,_,_,_,_,_,_,_,_,e=>by cases e
 |n+1,A,d1,d2,b,x,y,v,u,hu,r1,v1,r2,v2,e=>by
  have e:Xa (Wq n) (Jo n) d1 d2=aA b:=e;have hi:A.in1.units+n<cLine:=by have:A.in1.units=A.units+1:=rfl;omega
  have ih:=λ(d1 d2:D) (b:Bool) (x y:V) (v u:aj)=>Xb I le n A.in1 d1 d2 b x y v u hi;cases r1 with
  |int i=>cases r2 with
   |int j=>
    obtain⟨t1,rfl⟩:=v1;obtain⟨t2,rfl⟩:=v2;obtain rfl:decide (i<j)=b:=by simpa using e
    exact Uz.int i t1 j t2
   |_=>cases e
  |str i=>cases r2 with
   |str j=>
    obtain⟨t1,rfl⟩:=v1;obtain⟨t2,rfl⟩:=v2;obtain rfl:decide (i.cps.toList<j.cps.toList)=b:=by simpa using e
    exact Uz.str i t1 j t2
   |_=>cases e
  |lst h _ r=>cases r2 with
   |lst h' _ r'=>cases v1;cases v2;obtain⟨its,rv,hl⟩:=Ua I le h;obtain⟨jts,rv',hl'⟩:=Ua I le h';obtain⟨a,c,d⟩:=An I le hi ih r rv r' rv' e;rw[<-a];exact Uz.lists hl hl' (by omega) c d
   |_=>cases e
  |tup h r=>cases r2 with
   |tup h' r'=>cases v1;cases v2;obtain⟨its,rv,hl⟩:=Qs I le h;obtain⟨jts,rv',hl'⟩:=Qs I le h';obtain⟨a,c,d⟩:=An I le hi ih r rv r' rv' e;rw[<-a];exact Uz.tuples hl hl' (by omega) c d
   |_=>cases e
  |_=>cases e
theorem Znr(I:Inv X pins σ H s)(le:Ze F H){n:Nat}{A:cj}{d1 d2:D}{b:Bool}{x y:V}{v u:aj}(hu:A.units+(n+1)<dw)(r1:Rep X.K F d1 x)(v1:Zm x v)(r2:Rep X.K F d2 y)(v2:Zm y u)
  (e:Jo (n+1) d1 d2=aA b) (hn:∀xs,d1≠.tup xs):Cy A s v u b:=by
 have e:Xa (Wq n) (Jo n) d1 d2=aA b:=e;have hi:A.in1.units+n<cLine:=by have:A.in1.units=A.units+1:=rfl;omega
 have ih:=λ(d1 d2:D) (b:Bool) (x y:V) (v u:aj)=>Xb I le n A.in1 d1 d2 b x y v u hi;cases r1 with
 |int i=>cases r2 with
  |int j=>
   obtain⟨t1,rfl⟩:=v1;obtain⟨t2,rfl⟩:=v2;obtain rfl:decide (i<j)=b:=by simpa using e
   exact Cy.int i t1 j t2
  |_=>cases e
 |str i=>cases r2 with
  |str j=>
   obtain⟨t1,rfl⟩:=v1;obtain⟨t2,rfl⟩:=v2;obtain rfl:decide (i.cps.toList<j.cps.toList)=b:=by simpa using e
   exact Cy.str i t1 j t2
  |_=>cases e
 |lst h _ r=>cases r2 with
  |lst h' _ r'=>cases v1;cases v2;obtain⟨its,rv,hl⟩:=Ua I le h;obtain⟨jts,rv',hl'⟩:=Ua I le h';obtain⟨a,c,d⟩:=An I le hi ih r rv r' rv' e;rw[<-a];exact Cy.lists hl hl' (by omega) c d
  |_=>cases e
 |tup h r=>exact absurd rfl (hn _)
 |_=>cases e
end
end TX
namespace TX
open PySem PySem.Spec PyProof.Rows L2 DL
open PySem.W (kas_sort kas_ask kas_item kat_run kat_snds)
section
variable{X:Cx}{pins:List (ak×Obj)}{σ:L2.St}{H:Hp}{s:am}{E:aj->am->Prop}
theorem Dj{D:ak}{o:Obj}{xs ys:Array aj}{n t':Nat}{g:Array aj->Array aj}(I:Inv X pins σ H s)(fD:Jb X pins H D):Inv X pins σ H {s with heap:=s.heap.update D (c9 g),toks:=t'}:=
 I.turned (λb o hb e=>by rw[Heap.get?_update_ne _ _ _ _ hb];exact e) fD.1 fD.2.1 fD.2.2.2.1 fD.2.2.2.2.1 fD.2.2.2.2.2
def KS(X:Cx)(pins:List (ak×Obj))(σ:L2.St)(H0:Hp)(f:ak)(fo:Obj)(D kS:ak)(e1:Nat)(KeyOk:Nat->V->Hp->Prop)(i:Nat)(s:am):Prop:=
 ∃H ks kvs e,Ze H0 H/\Inv X pins σ H s/\Jb X pins H D/\Jb X pins H kS/\Jb X pins H f/\s.heap.get? D=aA (de "list" #[] e1)/\s.heap.get? kS=aA (de "list" (gy ks) e)/\s.heap.get? f=aA fo/\
  Zw kvs ks/\ks.length=i/\∀j kv,kvs[j]? =aA kv->KeyOk j kv H
end
end TX
namespace TX
open PySem PySem.Spec PyProof.Rows L2 DL
open PySem.W (kas_sort kas_ask kas_item kat_run kat_snds)
section
variable{X:Cx}{pins:List (ak×Obj)}{σ:L2.St}{H:Hp}{s:am}{E:aj->am->Prop}{its:List aj}{f D kS:ak}{fo:Obj}{e1:Nat}{KeyOk:Nat->V->Hp->Prop}{A:cj}{P:PySem.Fin->am->Prop}
def Out(X:Cx)(pins:List (ak×Obj))(σ:L2.St)(H0:Hp)(D:ak)(out:List aj)(s:am):Prop:=
 ∃H c,Ze H0 H/\Inv X pins σ H s/\Jb X pins H D/\s.heap.get? D=aA (de "list" (gy out) c)
variable{O:KeyOrd}{key:Nat->O.α}
def Cmp(X:Cx)(pins:List (ak×Obj))(σ:L2.St)(H0:Hp)(A:cj)(KeyOk:Nat->V->Hp->Prop)(O:KeyOrd)(key:Nat->O.α)(n:Nat):Prop:=
 ∀H2 s2 ks kvs,Ze H0 H2->Inv X pins σ H2 s2->Zw kvs ks->ks.length=n->(∀j kv,kvs[j]? =aA kv->KeyOk j kv H2)->2<=n->
  ∃κ,(∀Q:SortKind->am->Prop,Q κ s2->ba (bp X.prog X.w) A (keyKind' (gy ks)) Q (λ_ _=>False) s2)/\
   ∀i j (Q:Bool->am->Prop),i<n->j<n->Q (O.blt (key i) (key j)) s2->ba (bp X.prog X.w) A (keyLt' κ (ks.getD i .none) (ks.getD j .none)) Q (λ_ _=>False) s2
end
end TX
namespace TX
open PySem PySem.Spec PySem.Calls PyProof.Rows L2 DL
end TX
namespace TX
open PySem PySem.Spec PySem.Calls PyProof.Rows L2 DL
open PySem.W (KatLex kat_lt kat_kind KatTups kat_one kat_nil kat_cons kat_yes kat_no)
section
variable{X:Cx}{pins:List (ak×Obj)}{σ:L2.St}{F H:Hp}{s:am}
theorem Ze3(I:Inv X pins σ H s)(le:Ze F H){n:Nat}{A:cj}(hu:A.units+(n+1)<dw){Q:Bool->am->Prop}{fin:Bool}:∀{ds es:List D} {vs ws:List V} {its jts:List aj} {b:Bool} (i:Nat),
  Reps X.K F ds vs->Zw vs its->Reps X.K F es ws->Zw ws jts->(i=0->∀d,ds.head? =aA d->∀xs,d≠.tup xs)->Re (Wq (n+1)) (Jo (n+1)) ds es=aA b->(its.length=jts.length->fin=aD)->(its.length<jts.length->fin=aC)->(jts.length<its.length->fin=aD)->Q b s->
  KatLex X.prog X.w A aC fin Q (its.zip jts) i s
 |_,_,_,_,_,_,b,i,.nil,.nil,.nil,.nil,_,e,f1,_,_,q=>by
  obtain rfl:aD=b:=by simpa using e
  show Q fin s;rw[f1 rfl];exact q
 |_,_,_,_,_,_,b,i,.nil,.nil,.cons _ _,.cons _ _,_,e,_,f2,_,q=>by
  obtain rfl:aC=b:=by simpa using e
  show Q fin s;rw[f2 (by simp)];exact q
 |_,_,_,_,_,_,b,i,.cons _ _,.cons _ _,.nil,.nil,_,e,_,_,f3,q=>by
  obtain rfl:aD=b:=by simpa using e
  show Q fin s;rw[f3 (by simp)];exact q
 |d::ds,d'::es,_,_,_,_,b,i,.cons h t,.cons r rs,.cons h' t',.cons r' rs',hd,e,f1,f2,f3,q=>by
  have e:(Wq (n+1) d d').bind (λb=>if b=aC then Re (Wq (n+1)) (Jo (n+1)) ds es else Jo (n+1) d d')=aA b:=e;obtain⟨c,hc,e2⟩:=aa.mp e;refine kat_cons (T5 I le (n+1) A _ _ _ _ _ _ _ (by omega) h r h' r' hc X.prog X.w _ _ ?_);cases c with
  |true=>
   have e2:Re (Wq (n+1)) (Jo (n+1)) ds es=aA b:=by simpa using e2
   exact kat_yes (Ze3 I le hu (i+1) t rs t' rs' (λz=>absurd z (Nat.succ_ne_zero i)) e2 (λz=>f1 (by simp[z])) (λz=>f2 (by simpa using z)) (λz=>f3 (by simpa using z)) q)
  |false=>
   have e2:Jo (n+1) d d'=aA b:=by simpa using e2
   refine kat_no ?_;cases i with
   |zero=>exact Znr I le hu h r h' r' e2 (hd rfl d rfl) X.prog X.w _ _ q
   |succ i=>
    have:(aC&&(i+1==0))=aD:=by simp
    rw[this];refine kat_one _ _ (Xb I le (n+1) A _ _ _ _ _ _ _ (by omega) h r h' r' e2 X.prog X.w _ _ ?_);exact q
inductive KK where
 |lst|str|int
inductive IsKey:KK->D->Prop where
 |lst (xs:List D) (r:List D):IsKey .lst (.tup (.lst xs::r))
 |str (x:Str) (r:List D):IsKey .str (.tup (.str x::r))
 |int (i:Int) (r:List D):IsKey .int (.tup (.int i::r))
theorem IsKey.shape{b:KK}{d:D}(h:IsKey b d):∃e r,d= .tup (e::r)/\∀xs,e≠.tup xs:=by
 cases h with
 |lst xs r=>exact⟨_,r,rfl,λ_ z=>by cases z⟩
 |str x r=>exact⟨_,r,rfl,λ_ z=>by cases z⟩
 |int x r=>exact⟨_,r,rfl,λ_ z=>by cases z⟩
def kT:KK->String
 | .lst=>"list"
 | .str=>"str"
 | .int=>"int"
theorem Zns(I:Inv X pins σ H s)(le:Ze F H){n:Nat}{A:cj}(hu:A.units+(n+2)<dw){d1 d2:D}{x y:V}{v u:aj}{b:Bool}{k:KK}{E:aj->am->Prop}{Q:Bool->am->Prop}(k1:IsKey k d1)(k2:IsKey k d2)
  (r1:Rep X.K F d1 x) (v1:Zm x v) (r2:Rep X.K F d2 y) (v2:Zm y u) (e:Jo (n+2) d1 d2=aA b) (q:Q b s):ba (bp X.prog X.w) A (keyLt' (tuples' aC) v u) Q E s:=by
 obtain⟨e1,rs1,rfl,hn1⟩:=k1.shape;obtain⟨e2,rs2,rfl,_⟩:=k2.shape;cases r1 with
 |tup h1 p1=>cases r2 with
  |tup h2 p2=>
   cases v1;cases v2;obtain⟨its,rv,o,ho,hc,m,hd⟩:=Qs I le h1;obtain⟨jts,rw',o',ho',hc',m',hd'⟩:=Qs I le h2;have e:Re (Wq (n+1)) (Jo (n+1)) (e1::rs1) (e2::rs2)=aA b:=e;refine kat_lt ho hd ho' hd' ?_;refine Ze3 I le (by omega) 0 p1 rv p2 rw' (λ_ d z xs=>?_) e (λz=>?_) (λz=>?_) (λz=>?_) q
   ·obtain rfl:e1=d:=by simpa using z
    exact hn1 xs
   ·simp[z]
   ·simpa using z
   ·have z:jts.length<its.length:=by simpa using z
    simp;omega
theorem Fd(I:Inv X pins σ H s)(le:Ze F H){k:KK}:∀{ds:List D} {vs:List V} {its:List aj},(∀d∈ds,IsKey k d)->Reps X.K F ds vs->Zw vs its->∃fs,KatTups s.heap its fs/\fs.length=its.length/\∀v∈fs,PySem.W.Looks (bp X.prog X.w) s.heap (typeOf v) (.type (kT k))
 |_,_,_,_,.nil,.nil=>⟨[],trivial,rfl,λ_ z=>nomatch z⟩
 |d::ds,_,_,hk,.cons h t,.cons r rs=>by
  obtain⟨fs,a,b,c⟩:=Fd I le (λd z=>hk d (ar _ z)) t rs;cases hk d ah with
  |lst xs rr=>cases h with
   |tup h1 p1=>
    cases r;obtain⟨its,rv,o,ho,hc,m,hd⟩:=Qs I le h1;cases p1 with
    |cons q1 q2=>cases rv with
     |cons w1 w2=>cases q1 with
      |lst g1 _ g2=>
       cases w1;obtain⟨jts,_,o2,ho2,hc2,_⟩:=Ua I le g1;refine⟨_::fs,KatTups.cons ho hc hd rfl a,by simp[b],λv z=>?_⟩;rcases bo.mp z with z|z
       ·subst z;exact λA Q E s' k q=>wpAny_typeOf (T:="list") ⟨o2,k _ _ ho2,hc2⟩ q
       ·exact c v z
  |str x rr=>cases h with
   |tup h1 p1=>
    cases r;obtain⟨its,rv,o,ho,hc,m,hd⟩:=Qs I le h1;cases p1 with
    |cons q1 q2=>cases rv with
     |cons w1 w2=>cases q1 with
      |str y=>
       obtain⟨tk,rfl⟩:=w1;refine⟨_::fs,KatTups.cons ho hc hd rfl a,by simp[b],λv z=>?_⟩;rcases bo.mp z with z|z
       ·subst z;exact λA Q E s' k q=>wpAny_typeOf (T:="str") (typeIs_str s' x tk) q
       ·exact c v z
  |int x rr=>cases h with
   |tup h1 p1=>
    cases r;obtain⟨its,rv,o,ho,hc,m,hd⟩:=Qs I le h1;cases p1 with
    |cons q1 q2=>cases rv with
     |cons w1 w2=>cases q1 with
      |int y=>
       obtain⟨tk,rfl⟩:=w1;refine⟨_::fs,KatTups.cons ho hc hd rfl a,by simp[b],λv z=>?_⟩;rcases bo.mp z with z|z
       ·subst z;exact λA Q E s' k q=>wpAny_typeOf (T:="int") (typeIs_int s' x tk) q
       ·exact c v z
theorem Ze4(I:Inv X pins σ H s)(le:Ze F H){A:cj}{E:aj->am->Prop}{k:KK}{ds:List D}{vs:List V}{its:List aj}(hk:∀d∈ds,IsKey k d)(r:Reps X.K F ds vs)(rv:Zw vs its)(h2:0<its.length){Q:SortKind->am->Prop}(q:Q (tuples' aC) s):
  ba (bp X.prog X.w) A (keyKind' (gy its)) Q E s:=by
 obtain⟨fs,a,b,c⟩:=Fd I le hk r rv;refine kat_kind (T:=.type (kT k)) a (by omega) c (by cases k<;> decide) ?_;cases k<;> exact q
end
end TX
namespace TX
open PySem PySem.Spec PySem.Calls PyProof.Rows L2 DL
structure KeysOk(ks:List D):Prop where
 key:∃k,∀d∈ks,IsKey k d
 ord:∃enc:D->List Nat,(∀a∈ks,∀b∈ks,Jo 16 a b=aA (decide (enc a<enc b)))/\∀i j:Nat,i<ks.length->j<ks.length->enc (ks.getD i .non)=enc (ks.getD j .non)->i=j
def Rf(ks:List D)(p:List Nat):Prop:=p.Perm (cr ks.length)/\p.Pairwise λi j=>Jo 16 (ks.getD j .non) (ks.getD i .non)=aA aD
theorem Xc{ks:List D}(h:KeysOk ks){p q:List Nat}(hp:Rf ks p)(hq:Rf ks q):p=q:=by
 obtain⟨enc,he,hd⟩:=h.ord;have get:∀i,i<ks.length->ks.getD i .non∈ks:=λi hi=>by rw[bz,az hi];exact List.getElem_mem hi
 have mp:∀i∈p,i<ks.length:=λi hi=>cw.mp (hp.1.mem_iff.mp hi);have mq:∀i∈q,i<ks.length:=λi hi=>cw.mp (hq.1.mem_iff.mp hi);refine List.Perm.eq_of_pairwise (le:=λi j=>Jo 16 (ks.getD j .non) (ks.getD i .non)=aA aD) (λa b ha hb h1 h2=>?_) hp.2 hq.2 (hp.1.trans hq.1.symm);rw[he _ (get _ (mq b hb)) _ (get _ (mp a ha))]at h1;rw[he _ (get _ (mp a ha)) _ (get _ (mq b hb))]at h2;have h1:¬enc (ks.getD b .non)<enc (ks.getD a .non):=by simpa using h1
 have h2:¬enc (ks.getD a .non)<enc (ks.getD b .non):=by simpa using h2
 exact hd a b (mp a ha) (mq b hb) (List.le_antisymm (d4.mp h1) (d4.mp h2))
theorem Os{ks:List D}(h:KeysOk ks):∃p,Rf ks p:=by
 obtain⟨enc,he,hd⟩:=h.ord;have get:∀i,i<ks.length->ks.getD i .non∈ks:=λi hi=>by rw[bz,az hi];exact List.getElem_mem hi
 refine⟨(cr ks.length).mergeSort λi j=>decide (¬enc (ks.getD j .non)<enc (ks.getD i .non)),List.mergeSort_perm _ _,?_⟩;have pw:=List.pairwise_mergeSort (le:=λi j:Nat=>decide (¬enc (ks.getD j .non)<enc (ks.getD i .non)))
  (λa b c h1 h2=>by
   simp only[decide_eq_true_eq]at*;exact d4.mpr (List.le_trans (d4.mp h1) (d4.mp h2)))
  (λa b=>by
   simp only[Bool.or_eq_true,decide_eq_true_eq];rcases List.le_total (enc (ks.getD a .non)) (enc (ks.getD b .non))with z|z
   ·exact .inl (d4.mpr z)
   ·exact .inr (d4.mpr z)) (cr ks.length)
 refine(List.Pairwise.imp_of_mem ?_ pw);intro i j hi hj z;have hi:i<ks.length:=cw.mp ((List.mergeSort_perm _ _).mem_iff.mp hi);have hj:j<ks.length:=cw.mp ((List.mergeSort_perm _ _).mem_iff.mp hj);rw[he _ (get j hj) _ (get i hi)];simpa using z
open Classical in
def Ao(ks xs:List D):Option SV:=
 if h:ks.length=xs.length/\xs.length<64/\KeysOk ks then aA (.ol ((Classical.choose (Os h.2.2)).map λi=>xs.getD i .non))else aB
theorem Ziz{ks xs:List D}{sv:SV}(e:Ao ks xs=aA sv):ks.length=xs.length/\xs.length<64/\KeysOk ks/\∃p,Rf ks p/\sv= .ol (p.map λi=>xs.getD i .non):=by
 unfold Ao at e;split at e
 ·rename_i h;cases e;exact⟨h.1,h.2.1,h.2.2,_,Classical.choose_spec (Os h.2.2),rfl⟩
 ·cases e
theorem Zi0{ks xs:List D}(h1:ks.length=xs.length)(h2:xs.length<64)(h3:KeysOk ks):∃p,Rf ks p/\Ao ks xs=aA (.ol (p.map λi=>xs.getD i .non)):=by refine⟨_,Classical.choose_spec (Os h3),?_⟩;unfold Ao;rw[dif_pos ⟨h1,h2,h3⟩]
@[simp] def Zwi(fb:FE)(cs:List D)(d:D):Option D:=(fb (some (.fz d)::cs.map λc=>some (.fz c))).bind λp=>(frz p.1 p.2).bind λq=>some q.1
@[simp] def Ze5(fb:FE)(cs:List D):List D->Option (List D)
 | []=>aA []
 |d::ds=>(Zwi fb cs d).bind λk=>(Ze5 fb cs ds).bind λks=>aA (k::ks)
@[simp] def Zr2(fb:FE)(js:List Nat)(d:D)(δ:Yg):Option (RV×Yg):=match d with
 | .lst xs=>(frzAll (js.map RV.bw) δ).bind λr=>(Ze5 fb r.1 xs).bind λks=>(Ao ks xs).bind λsv=>aA (.tmp sv,r.2)
 |_=>aB
@[simp] def Zwj(fa:FE)(js:List Nat)(fb:FE):FE:=λδ=>(fa δ).bind λp=>(frz p.1 p.2).bind λq=>Zr2 fb js q.1 q.2
section
variable{K:af}{Z:Ent K}{H:Hp}{σ:L2.St}
theorem Reps.len2{F:Hp}:∀{ds:List D} {vs:List V},Reps K F ds vs->ds.length=vs.length
 |_,_,.nil=>rfl
 |_,_,.cons _ t=>congrArg (· +1) (Reps.len2 t)
end
end TX
namespace TX
open PySem PySem.Spec PySem.Calls PyProof.Rows L2 DL
open PySem.W (CodeHd kla_fn kla_obj)
section
variable{X:Cx}{pins:List (ak×Obj)}{σ:L2.St}{H:Hp}{s:am}
theorem Dk{K:af}{F:Hp}:∀{ks:List D} {kvs:List V},kvs.length=ks.length->(∀(j:Nat) kv,kvs[j]? =aA kv->Rep K F (ks.getD j .non) kv)->Reps K F ks kvs
 | [],[],_,_=>.nil
 |k::ks,v::kvs,hl,h=>.cons (h 0 v rfl) (Dk (by simpa using hl) λj kv e=>h (j+1) kv (by simpa using e))
theorem Zbk:∀{ws:List V} {its:List aj},Zw ws its->∀{p:List Nat},(∀i∈p,i<its.length)->Zw (p.map λi=>ws.getD i .non) (p.map λi=>its.getD i cf):=by
 intro ws its h p hp;have at':∀{ws:List V} {its:List aj},Zw ws its->∀i,i<its.length->Zm (ws.getD i .non) (its.getD i cf):=by
  intro ws its h;induction h with
  |nil=>intro i hi;simp at hi
  |cons r t ih=>intro i hi;cases i with
   |zero=>exact r
   |succ i=>exact ih i (by simpa using hi)
 induction p with
 |nil=>exact .nil
 |cons i r ih=>exact .cons (at' h i (hp i ah)) (ih λj hj=>hp j (ar _ hj))
theorem Lr{K:af}{F:Hp}:∀{xs:List D} {ws:List V},Reps K F xs ws->∀(i:Nat),i<xs.length->Rep K F (xs.getD i .non) (ws.getD i .non)
 |_,_,.nil,i,hi=>absurd hi (fj _)
 |_,_,.cons h t,0,_=>h
 |_,_,.cons h t,i+1,hi=>Lr t i (Nat.lt_of_succ_lt_succ hi)
theorem Fe{K:af}{F:Hp}{xs:List D}{ws:List V}(h:Reps K F xs ws):∀{p:List Nat},(∀i∈p,i<xs.length)->Reps K F (p.map λi=>xs.getD i .non) (p.map λi=>ws.getD i .non)
 | [],_=>.nil
 |i::r,hp=>.cons (Lr h i (hp i ah)) (Fe h λj hj=>hp j (ar _ hj))
abbrev Dl(enc:D->List Nat)(ks:List D)(i:Nat):strKind.toKeyOrd.α:=enc (ks.getD i .non)
theorem Ze6{ks:List D}{enc:D->List Nat}{A:cj}{kb:KK}(hu:A.units+16<dw)(hk:∀d∈ks,IsKey kb d)(he:∀a∈ks,∀b∈ks,Jo 16 a b=aA (decide (enc a<enc b))){n:Nat}(hn:ks.length=n):
  Cmp X pins σ H A (λj kv H=>Rep X.K H (ks.getD j .non) kv) strKind.toKeyOrd (Dl enc ks) n:=by
 intro H2 s2 ksV kvs sm I2 rv hl hkv h2;have hlk:kvs.length=ks.length:=by have:=rv.length;omega
 have rr:=Dk hlk hkv;have get:∀i,i<ks.length->ks.getD i .non∈ks:=λi hi=>by rw[bz,az hi];exact List.getElem_mem hi
 refine⟨tuples' aC,λQ q=>Ze4 I2 (Ze.refl H2) hk rr rv (by omega) q,λi j Q hi hj q=>?_⟩;obtain⟨v,a1,a2,a3⟩:=Reps.getD rr rv i (by omega);obtain⟨w,b1,b2,b3⟩:=Reps.getD rr rv j (by omega);have e1:ksV.getD i cf=ksV[i]:=by simp[bz,az (show i<ksV.length by omega)]
 have e2:ksV.getD j cf=ksV[j]:=by simp[bz,az (show j<ksV.length by omega)]
 rw[e1,e2];exact Zns I2 (Ze.refl H2) (n:=14) hu (hk _ (get i a3)) (hk _ (get j b3)) a1 a2 b1 b2 (he _ (get i a3) _ (get j b3)) q
theorem Ze7{ks:List D}{enc:D->List Nat}(he:∀a∈ks,∀b∈ks,Jo 16 a b=aA (decide (enc a<enc b))){p:Array Nat}{n:Nat}(hn:ks.length=n)(hp:Pm n p)(hs:Lq (O:=strKind.toKeyOrd) (Dl enc ks) p n):Rf ks p.toList:=by
 subst hn;have pt:p.toList.Perm (cr ks.length):=Array.perm_iff_toList_perm.mp hp;have get:∀i,i<ks.length->ks.getD i .non∈ks:=λi hi=>by rw[bz,az hi];exact List.getElem_mem hi
 refine⟨pt,List.pairwise_iff_getElem.mpr λi j hi hj hij=>?_⟩;have hj':j<ks.length:=by have:=pt.length_eq;rw[List.length_range]at this;omega
 have mi:p.toList[i]<ks.length:=cw.mp (pt.mem_iff.mp (List.getElem_mem hi));have mj:p.toList[j]<ks.length:=cw.mp (pt.mem_iff.mp (List.getElem_mem hj));rw[he _ (get _ mj) _ (get _ mi)];have z:=hs i j (Nat.le_of_lt hij) hj';unfold Kp at z;have ei:p.getD i 0=p.toList[i]:=by rw[Array.getD_eq_getD_getElem?];simp at hi⊢;simp[hi]
 have ej:p.getD j 0=p.toList[j]:=by rw[Array.getD_eq_getD_getElem?];simp at hj⊢;simp[hj]
 rw[ei,ej]at z;have z:decide (enc (ks.getD p.toList[j] .non)<enc (ks.getD p.toList[i] .non))=aD:=z;rw[z]
end
end TX
namespace TX
open PySem PySem.Spec PySem.Calls PyProof.Rows L2 DL
open PySem.W (CodeHd tabObj)
abbrev spT(P:ak)(q:Str)(sp:Sp):Sp:=λvs H Q E=>H P=aA (.tab q)/\sp vs H Q E
structure FunC(K:af)(x qual:Str)(st:Stmt)(f:ak)(fd:cx)(c:ak):Prop where
 ex:∃(oc:aj) (od:Option ak) (kV doc pm:aj) (an:Option ak) (ct:aj) (osl:Array (Option aj)),
  fd=PySem.W.fnOf x qual (Oj st) (Jj st) (Zx st) .none kV doc pm an (.ref c) ct/\K.lookup f=aA ⟨oc,od,.func fd,osl⟩/\PySem.W.codeIn K (.ref c) qual=aC
 kp:bq K (.ref f)=aC
end TX
namespace TX
open PySem PySem.Spec PySem.Calls PyProof.Rows L2 DL
def Xd(a b:Str):Bool:=decide (¬b.cps.toList<a.cps.toList)
def Ub(ss:List Str):List Str:=ss.mergeSort Xd
theorem Y0(ss:List Str):(Ub ss).Perm ss:=List.mergeSort_perm _ _
theorem Ls(ss:List Str):(Ub ss).Pairwise λa b=>Xd a b=aC:=
 List.pairwise_mergeSort (le:=Xd) (λa b c h1 h2=>by
   simp only[Xd,decide_eq_true_eq]at*;exact d4.mpr (List.le_trans (d4.mp h1) (d4.mp h2)))
  (λa b=>by
   simp only[Xd,Bool.or_eq_true,decide_eq_true_eq];rcases List.le_total a.cps.toList b.cps.toList with z|z
   ·exact .inl (d4.mpr z)
   ·exact .inr (d4.mpr z)) ss
theorem Ze8{a b:Str}(h1:Xd a b=aC)(h2:Xd b a=aC):a=b:=by simp only[Xd,decide_eq_true_eq]at*;have e:a.cps.toList=b.cps.toList:=List.le_antisymm (d4.mp h1) (d4.mp h2);have e2:a.cps=b.cps:=Array.toList_inj.mp e;cases a;cases b;simp only at e2;subst e2;rfl
theorem Zbl{a b:List Str}(hp:a.Perm b)(ha:a.Pairwise λa b=>Xd a b=aC)(hb:b.Pairwise λa b=>Xd a b=aC):a=b:=
 List.Perm.eq_of_pairwise (λx y _ _ h1 h2=>Ze8 h1 h2) ha hb hp
theorem Ff:∀(l:List Str) (p:Str),risingS p l=aC->(p::l).Pairwise λa b=>Xd a b=aC
 | [],p,_=>by simp
 |x::l,p,h=>by
  unfold risingS at h;rw[Bool.and_eq_true]at h;have ih:=Ff l x h.2;have hpx:Xd p x=aC:=by have:=h.1;rw[ltCps_eq]at this;simp only[Xd,decide_eq_true_eq];simpa using this
  refine List.pairwise_cons.mpr ⟨λy hy=>?_,ih⟩;rcases bo.mp hy with z|z
  ·rw[z];exact hpx
  ·have hxy:=(List.pairwise_cons.mp ih).1 y z;simp only[Xd,decide_eq_true_eq]at*;exact d4.mpr (List.le_trans (d4.mp hpx) (d4.mp hxy))
theorem Zbm:∀{l:List Str},sortedS l=aC->l.Pairwise λa b=>Xd a b=aC
 | [],_=>.nil
 |p::l,h=>Ff l p h
end TX
namespace L2
open PySem PySem.Spec PySem.Calls PyProof.Rows TX
section
variable{X:Cx}
theorem Ap:∀{ss:List Str} {vs:List aj},StrsAre vs ss->Zw (ss.map V.str) vs
 |_,_,.nil=>.nil
 |_,_,.cons n t h=>.cons ⟨t,rfl⟩ (Ap h)
def Zyo(K:af):List V->Hp->VK->Prop:=λxs H Q=>∃l ss,xs=[.ref l]/\Wp K H l (ss.map V.str)/\ss.length<64/\∀q,H q=aB->Q (.ref q) (Z5 H q (.lst ((Ub ss).map V.str)))
end
end L2
namespace DL
open PySem PySem.Spec PySem.Calls PyProof.Rows L2 TX
variable{K:af}
@[simp] def txs?:List D->Option (List Str)
 | []=>aA []
 | .str i::r=>(txs? r).bind λl=>aA (i::l)
 |_=>aB
theorem Pv{F:Hp}:∀(ns:List Str),Reps K F (ns.map D.str) (ns.map V.str)
 | []=>.nil
 |n::ns=>.cons (.str n) (Pv ns)
def Zyp:List D->Option SV
 | [.lst xs]=>(txs? xs).bind λns=>if ns.length<64 then aA (.ol ((Ub ns).map D.str))else aB
 |_=>aB
@[simp] def ltS:D->D->Option SV
 | .str a,.str b=>aA (.fz (.bl (decide (a.cps.toList<b.cps.toList))))
 |_,_=>aB
end DL
namespace TX
open PySem PySem.Spec PySem.Calls PyProof.Rows L2 DL
open PySem.W (CodeHd tabObj)
def Z09(names:List (Str×NameKind))(cl:List (Str×ak)):Bool:=names.all λp=>p.2 != .free|| (cl.lookup p.1).isSome
def jsB(N:List Str)(sc lc:List (Str×NameKind)):List Nat->List Str->Bool
 |j::js,y::fs=>N[j]? ==aA y&&sc.lookup y==aA .cell&&lc.lookup y==aA .free&&jsB N sc lc js fs
 | [],[]=>aC
 |_,_=>aD
end TX
namespace DL
open PySem PySem.Spec PySem.Calls PyProof.Rows L2 TX
end DL
namespace DL
open PySem PySem.Spec PySem.Calls PyProof.Rows L2
section
variable{K:af}{Z:Ent K}{H:Hp}{σ:L2.St}
open Classical in
@[simp] def Zyq(fa:FA):FD:=λδ=>(fa δ).bind λp=>match Uo p.1 p.2 with
 |some [.int i,.int j]=>if K7 i/\K7 j then aA (Mo i (j- i).toNat,p.2)else aB
 |_=>aB
end
end DL
namespace TX
open PySem PySem.Spec PySem.Calls PyProof.Rows L2 DL
open PySem.W (kas_sort kas_ask kas_item kat_run kat_snds)
section
variable{X:Cx}{pins:List (ak×Obj)}{σ:L2.St}{H:Hp}{s:am}{E:aj->am->Prop}{its:List aj}{l:ak}{KeyOk:Nat->V->Hp->Prop}{Q:aj->am->Prop}{O:KeyOrd}{key:Nat->O.α}{kvs:List V}
theorem Xe(I:Inv X pins σ H s)(hl:s.heap.IsList l its.toArray)(h64:its.length<64)(rv:Zw kvs its)(hk:∀j kv,kvs[j]? =aA kv->KeyOk j kv H)(hc:Cmp X pins σ H X.A.in1.in1 KeyOk O key its.length)
  (hQ:∀p D s' c,Pm its.length p->Lq key p its.length->X.s₀.heap.get? D=aB->Inv X pins σ H s'->Jb X pins H D->s'.heap.get? D=aA (de "list" (gy (p.toList.map λi=>its.getD i cf)) c)->Q (.ref D) s'):
  ba (bp X.prog X.w) X.A (call (.builtin "sorted") [.ref l]) Q E s:=by
 refine Calls.call_function_entry kind_sorted plain_sorted entry_sorted (args_sorted1 _) ?_;unfold Builtin.«sorted»;refine ad (m:=checkCount "sorted" 1 1 _) (ag ?_);refine ad (collect_list hl ?_ (by rw[dr];omega));refine ad (wpAny_newList ?_ (by rw[dr];omega));have hsz:((s.heap.push (de "list" #[] 0)).update s.heap.objs.size (c9 (· ++its.toArray))).objs.size=s.heap.objs.size+1:=by rw[Heap.size_update,size_push']
 have hoL:(((s.heap.push (de "list" #[] 0)).update s.heap.objs.size (c9 (· ++its.toArray))).push (de "list" its.toArray 0)).get? (s.heap.objs.size+1)=aA (de "list" its.toArray 0):=by rw[<-hsz];exact a9 _ rfl
 have keep:∀b o,s.heap.get? b=aA o->(((s.heap.push (de "list" #[] 0)).update s.heap.objs.size (c9 (· ++its.toArray))).push (de "list" its.toArray 0)).get? b=aA o:=λb o q=>by have hlt:b<s.heap.objs.size:=bc q;rw[Heap.get?_push_ne _ _ _ (by rw[hsz];exact b4 (Nat.lt_succ_of_lt hlt)),Heap.get?_update_ne _ _ _ _ (b4 hlt),Heap.get?_push_ne _ _ _ (b4 hlt)];exact q
 show ba _ _ _ _ _ {s with heap:=((s.heap.push (de "list" #[] 0)).update s.heap.objs.size (c9 (· ++its.toArray))).push (de "list" its.toArray 0)};rw[hsz];refine ad (f9 (c5 slot_list_sort ⟨_,hoL,rfl⟩ entry_list_sort ?body (args_list_sort _)))
 case body=>
  rw[list_sort_plain];have hs2:(((s.heap.push (de "list" #[] 0)).update s.heap.objs.size (c9 (· ++its.toArray))).push (de "list" its.toArray 0)).objs.size=s.heap.objs.size+2:=by rw[size_push',hsz]
  generalize hh:(((s.heap.push (de "list" #[] 0)).update s.heap.objs.size (c9 (· ++its.toArray))).push (de "list" its.toArray 0))=h1 at hoL keep hs2⊢;generalize hD:s.heap.objs.size+1=D at hoL⊢;have hDn: @Eq Nat D (s.heap.objs.size+1):=hD.symm;obtain⟨e1,ho1⟩:∃e1,(h1.update D (c9 λ_=>(#[]:Array aj))).get? D=aA (de "list" #[] e1):=⟨_,get?_update_seq hoL λ_=> #[]⟩
  refine ad (listItems_at hoL rfl ?_);refine ad (listUpdate_at hoL rfl ?_ (by rw[bi,dr];omega) (dn _));refine ad (seqEpoch_at ho1 rfl ?_);refine ad (wpAny_newTuple ?_ (by show its.length<=_;rw[dr];omega));refine ad (wpAny_newList ?_ (dn _));refine f9 ?_;have kp:∀b o,s.heap.get? b=aA o->(((h1.update D (c9 λ_=>(#[]:Array aj))).push (de "tuple" its.toArray 0)).push (de "list" #[] 0)).get? b=aA o:=λb o q=>by have hlt: @LT.lt Nat _ b s.heap.objs.size:=bc q;have:=keep b o q;refine aq _ (aq _ ?_);rw[Heap.get?_update_ne _ _ _ _ (b4 (show @LT.lt Nat _ b D by omega))];exact this
  have nD:H D=aB:=I.hok.fresh (by omega);have fD:Jb X pins H D:=I.fpOk (by omega) nD;have ho6:(((h1.update D (c9 λ_=>(#[]:Array aj))).push (de "tuple" its.toArray 0)).push (de "list" #[] 0)).get? D=aA (de "list" #[] e1):=aq _ (aq _ ho1);have I6:Inv X pins σ H {s with heap:=((h1.update D (c9 λ_=>(#[]:Array aj))).push (de "tuple" its.toArray 0)).push (de "list" #[] 0)}:=I.kept kp;show ba (bp X.prog X.w) X.A.in1.in1 _ _ _ {s with heap:=((h1.update D (c9 λ_=>(#[]:Array aj))).push (de "tuple" its.toArray 0)).push (de "list" #[] 0)};have hD0:X.s₀.heap.get? D=aB:=Heap.get?_none_of_le (d3 I.sz (by omega));generalize hs6:({s with heap:=((h1.update D (c9 λ_=>(#[]:Array aj))).push (de "tuple" its.toArray 0)).push (de "list" #[] 0)}:am)=s6 at I6⊢;have ho6:s6.heap.get? D=aA (de "list" #[] e1):=by rw[<-hs6];exact ho6
  have fin:∀(p:Array Nat) (out:Array aj),out=gy (p.toList.map λi=>its.getD i cf)->out.size<64->Pm its.length p->Lq key p its.length->
    Q (.ref D) {s6 with heap:=s6.heap.update D (c9 λ_=>out)}:=λp out ho hz z1 z2=>by
   subst ho;exact hQ p D _ _ z1 z2 hD0 (Dj (o:=de "list" #[] 0) (xs:= #[]) (ys:= #[]) (n:=0) I6 fD) fD (get?_update_seq ho6 λ_=>_)
  try dsimp only
  by_cases h2:its.toArray.size<2
  ·rw[if_pos h2,if_pos h2];have h2':its.length<2:=by simpa using h2
   refine ad (ag ?_);rw[StateT.run_pure];refine ad (ag ?_)
   try dsimp only
   have eo:(arrOf (SortSt.mk' general' (its.toArray.zip its.toArray) #[] 7 aB)).map (·.2)=gy ((gy (cr its.length)).toList.map λi=>its.getD i cf):=by
    show(its.toArray.zip its.toArray).map (·.2)=_;apply Array.toList_inj.mp;rw[Array.toList_map,ksk_zip];simp only[List.toList_toArray];rw[List.map_snd_zip (by omega)];apply List.ext_getElem
    ·simp
    ·intro i a b;simp[a]
   rw[eo];refine ad (seqEpoch_at ho6 rfl ?_);refine ad (listUpdate_at ho6 rfl ?_ (dn _) (by rw[bi,dr];simp;omega));show ba _ _ (if((e1 !=e1)=aC)then _ else _) _ _ _;simp only[bne_self_eq_false,bg,if_false];refine ag ⟨_,rfl,ag ⟨_,rfl,fin (gy (cr its.length)) _ rfl (by simp;omega) (Array.Perm.refl _) (λi j hij hj=>?_)⟩⟩;have:i=j:=by omega
   subst this;exact KeyOrd.kle_refl _
  ·rw[if_neg h2,if_neg h2];have h2':2<=its.length:=Nat.le_of_not_lt (by simpa using h2);obtain⟨κ,hκ,hlt⟩:=hc H s6 its kvs (Ze.refl H) I6 rv rfl hk h2';refine ad (wpAny_mono (hκ (λκ' s'=>κ'=κ/\s'=s6) ⟨rfl,rfl⟩) (λκ' s' z=>?_) λ_ _ z=>z.elim);obtain⟨rfl,rfl⟩:=z;have g:=Wv.wp (lt:=E2 O key) (n:=its.length) (R:=λq=>Pm its.length q/\Lq key q its.length) (cmp:=kas_ask X.prog X.w X.A.in1.in1 κ' its) (I:=λs''=>s''=s') (Q:=λq s''=>s''=s'/\Pm its.length q/\Lq key q its.length)
    (λi j C s'' hi hj z hC=>by subst z;exact hlt i j C hi hj (hC _ rfl)) (λq s'' z1 z2=>⟨z2,z1⟩) (Fa (key:=key) (by omega)) rfl
   refine ad (wpAny_mono (kat_run (Q:=λst s''=>∃p:Array Nat,s''=s'/\Pm its.length p/\Lq key p its.length/\arrOf st=p.map (kas_item (its.toArray.zip its.toArray))/\failedOf st=aB) rfl h2' h64
    (λp st s'' _ a1 a2 z=>⟨p,z.1,z.2.1,z.2.2,a1,a2⟩) g) (λr s'' z=>?_) λ_ _ z=>z)
   obtain⟨⟨⟩,st⟩:=r;obtain⟨p,rfl,z1,z2,z3,z4⟩:=z
   try dsimp only
   rw[kat_snds rfl z3];refine ad (seqEpoch_at ho6 rfl ?_);refine ad (listUpdate_at ho6 rfl ?_ (dn _) (by rw[bi,ao,aw,z1.size,dr];omega));rw[z4];simp only[bne_self_eq_false,bg,if_false];exact ag ⟨_,rfl,ag ⟨_,rfl,fin p _ rfl (by rw[bi,ao,aw,z1.size];exact h64) z1 z2⟩⟩
end
end TX
namespace L2
open PySem PySem.Spec PySem.Calls PyProof.Rows DL TX
section
variable{X:Cx}
def Zlb(K:af):List V->Hp->VK->Prop:=λvs H Q=>∃l F ds ws p,vs=[.ref l]/\Ze F H/\Wp K H l ws/\Reps K F ds ws/\KeysOk ds/\Rf ds p/\ws.length<64/\∀q,H q=aB->Q (.ref q) (Z5 H q (.lst (p.map λi=>ws.getD i .non)))
theorem Zbn(hu:X.A.units+64<dw):Qd X (.builtin "sorted") (Zlb X.K):=by
 intro pins s σ H xs us Q I r h;obtain⟨l,F,ds,ws,p0,rfl,le,hl,rr,ko,hp0,hz,q⟩:=h;obtain⟨u,rfl,ru⟩:=Jt r;cases ru;obtain⟨its,rvi,⟨o,n,ho,hcl,_,hd⟩,_⟩:=I.list hl;have hlen:ds.length=its.length:=TX.Reps.lenV rr rvi;have wlen:ws.length=its.length:=rvi.length;obtain⟨enc,he,hdis⟩:=id ko.ord;obtain⟨kb,hkb⟩:=id ko.key;have hu2:X.A.in1.in1.units+16<cLine:=by show X.A.units+1+1+16<dw;omega
 refine Xe (KeyOk:=λj kv H=>Rep X.K H (ds.getD j .non) kv) (O:=strKind.toKeyOrd) (key:=Dl enc ds) I ⟨o,ho,hcl,n,hd⟩ (by omega) rvi (λj kv e=>?_) (Ze6 hu2 hkb he hlen) ?hQ
 ·have hj:j<ws.length:=(ax.mp e).1;have h1:=Lr rr j (by omega);have:ws.getD j .non=kv:=by rw[bz,e];rfl
  rw[this]at h1;exact h1.mono le
 case hQ=>
  intro p D s3 cc hp hs hD0 I3 fD gD;have ep:p.toList=p0:=Xc ko (Ze7 he hlen hp hs) hp0;rw[ep]at gD;have bnd:∀i∈p0,i<its.length:=λi hi=>by have:=cw.mp (hp0.1.mem_iff.mp hi);omega
  have new:Z9 X.prog X.w (Z5 H D (.lst (p0.map λi=>ws.getD i .non))) s3.heap D (.lst (p0.map λi=>ws.getD i .non)):=by refine⟨?_,p0.map λi=>its.getD i cf,cc,Zbk rvi bnd,gD⟩;have:=hp0.1.length_eq;rw[List.length_range]at this;rw[ao,this,dr];omega
  exact⟨.ref D,_,Inv.trackO I3 hD0 fD.1 fD.2.1 fD.2.2.2.2.1 fD.2.2.2.2.2 new,rfl,q D fD.1⟩
end
end L2
namespace DL
open PySem PySem.Spec PySem.Calls PyProof.Rows L2 TX
variable{K:af}
def Aq:List D->Option SV
 | [.lst xs]=>Ao xs xs
 |_=>aB
section
variable{Z:Ent K}{H:Hp}{σ:L2.St}{Q:VK}{E:Yq}
theorem Znt:Jy Z (Zlb K) Aq:=by
 intro F H σ δ own vs ds sv Q s r e k;unfold Aq at e;split at e
 ·rename_i xs;obtain⟨_,hz,ko,p,hp,rfl⟩:=Ziz e;cases r with
  |cons h t=>cases t;obtain⟨a,us,rfl,ha,ru⟩:=h.lst s.le;have bnd:∀i∈p,i<xs.length:=λi hi=>cw.mp (hp.1.mem_iff.mp hi);exact⟨a,F,xs,us,p,rfl,s.le,ha,ru,ko,hp,by rw[<-Reps.len2 ru];exact hz,λq hq=>k.lst s (Fe ru bnd) hq⟩
 ·cases e
end
section
variable{X:Cx}{Z:Ent X.K}{a b c:ci}{fa fb fc:FE}{pos:Pos}
theorem Ze9{p:Pos}(hv:X.A.units+64<dw)(hm:X.mg "sorted"=aB)(ha:PE X a (Zc Z fa))(hg:Gl X "sorted":=by rfl)(he:ay [a] X.env=(aD,f8 a X.env)::ay [] X.env:=by rfl)(hpl:(f6 pos (ay [] X.env)).any (·.1)=aD:=by rfl):
  PE X (.Call (.Name "sorted" p) [a] [] pos) (Zc Z (Yl Aq (Zd fa Zp))):=M6 (Zbn hv) Znt hm L2.B0 (Zq ha Ym he) hg (by decide) (by decide) he hpl
end
end DL
namespace TX
open PySem PySem.Spec PySem.Calls PyProof.Rows L2 DL
@[simp] def Znu(lt:D->D->Option Bool):Nat->D->List D->Nat->Option Nat
 |b,_,[],_=>aA b
 |b,kb,k::ks,j=>(lt k kb).bind λc=>if c=aC then Znu lt j k ks (j+1)else Znu lt b kb ks (j+1)
section
variable{X:Cx}{pins:List (ak×Obj)}{σ:L2.St}{H:Hp}{s:am}{ws:List V}{f l I S:ak}{fo:Obj}{ks:List D}
def MSt(X:Cx)(pins:List (ak×Obj))(σ:L2.St)(H0:Hp)(f:ak)(fo:Obj)(I S l:ak)(j:Nat)(best:Array aj)(H:Hp)(s:am):Prop:=
 Ze H0 H/\Inv X pins σ H s/\Jb X pins H I/\Jb X pins H S/\Jb X pins H f/\s.heap.IsListIter I l j/\(∃c,s.heap.get? S=aA (de "list" best c))/\s.heap.get? f=aA fo
def Zwk(X:Cx)(pins:List (ak×Obj))(σ:L2.St)(H:Hp)(A:cj)(f:ak)(fo:Obj)(ws:List V)(ks:List D):Prop:=
 ∀(j:Nat) (u:aj) (H1:Hp) (s1:am),j<ws.length->Zm (ws.getD j .non) u->Ze H H1->Inv X pins σ H1 s1->s1.heap.get? f=aA fo->Jb X pins H1 f->
  ba (bp X.prog X.w) A (call (.ref f) [u]) (λk s2=>∃kv H2,Ze H1 H2/\Inv X pins σ H2 s2/\Un (frs X.stack) [] H1 H2 s1.heap s2.heap/\Zm kv k/\Rep X.K H2 (ks.getD j .non) kv) (λ_ _=>False) s1
end
end TX
namespace TX
open PySem PySem.Spec PySem.Calls PyProof.Rows L2 DL
open PySem.W (CodeHd kla_fn kla_obj)
@[simp] def Zwl(lt:D->D->Option Bool):List D->Option (Option Nat)
 | []=>aA aB
 |k::ks=>(Znu lt 0 k ks 1).bind λm=>aA (aA m)
end TX
namespace TX
open PySem PySem.Spec PySem.Calls PyProof.Rows L2 DL
open PySem.W (CodeHd kla_fn kla_obj)
@[simp] def Zwm(fb:FE)(js:List Nat)(d:D)(δ:Yg):Option (RV×Yg):=match d with
 | .lst xs=>(frzAll (js.map RV.bw) δ).bind λr=>(Ze5 fb r.1 xs).bind λks=>(Zwl (Jo 16) ks).bind λm=>aA (.tmp (.fz ((m.map λi=>xs.getD i .non).getD .non)),r.2)
 |_=>aB
@[simp] def Zyr(fa:FE)(js:List Nat)(fb:FE):FE:=λδ=>(fa δ).bind λp=>(frz p.1 p.2).bind λq=>Zwm fb js q.1 q.2
end TX
namespace DL
open PySem PySem.Spec PySem.Calls PyProof.Rows L2 TX
end DL
namespace TX
open PySem PySem.Spec PySem.Calls PyProof.Rows L2 DL
section
variable{prog:bu}{w:ck}{A:cj}{E:aj->am->Prop}{s:am}{d:ak}{od:Obj}{es:Array DictEntry}{ep:Nat}
theorem Zbo(hh:A.handled=aB)(I:ak)(hne:d≠I)(c:od.data= .dict es ep):Walks prog w A I [I,d] [I] es.size (λi v=>∃e,es[i]? =aA e/\v=e.key) (λi h=>h.IsKeyIter I d i es.size ep/\h.get? d=aA od)where
 sub:=λb hb=>by simp at hb;simp[hb]
 frame:=λ_ _ _ st hk=>⟨Rb st.1 λo e=>hk I (by simp) o e,hk d (by simp) _ st.2⟩
 item:=λi s Q E hi st hQ=>by
  have he:es[i]? =aA es[i]:=by simp[hi]
  refine G9 st.1 st.2 c rfl he λh' t' hs'=>?_;exact hQ _ h' s.toks ⟨_,he,rfl⟩ ⟨t',(hs'.2 d hne).trans st.2⟩ λb o hb e=>(hs'.2 b (λh=>hb (by simp[h]))).trans e
 done:=λs Q E st hQ=>Ra hh st.1 st.2 c rfl (a8 _) λh' he'=>hQ h' s.toks λb o hb e=>he' b o (λh=>hb (by simp[h])) e
 self:=λ_ _ _ _ st hQ=>wpAny_pyIter_keyiter st.1 hQ
theorem Zi1(lo:(d==d8)=aD)(x:od.ExactDict)(c:od.data= .dict es ep):PySem.W.KdlSrc prog w "dict" d d es.size (λi v=>∃e,es[i]? =aA e/\v=e.key) (λh=>h.get? d=aA od)where
 type:=λ_ g=>⟨od,g,x.1⟩
 there:=λ_ g=>⟨bc g,bc g⟩
 keep:=λ_ _ g hk=>hk d (.inl rfl) _ g
 notList:=by decide
 notTuple:=by decide
 hint:=λ_ _ _ _ g hq=>PySem.W.kdl_hint_dict ⟨od,g,x.1⟩ hq
 iter:=λ_ _ hh g=>⟨_,_,(λ_ _ hq=>G8 lo g x c hq),Zbo hh _ (b4 (bc g)) c,⟨⟨_,a9 _ rfl,rfl,rfl⟩,aq _ g⟩⟩
theorem Pw{Q:List aj->am->Prop}(hh:A.handled=aB)(lo:(d==d8)=aD)(x:od.ExactDict)(c:od.data= .dict es ep)(g:s.heap.get? d=aA od)(hn:es.size<=1000)
  (h:∀h' tk,(∀b o,s.heap.get? b=aA o->h'.get? b=aA o)->s.heap.objs.size<=h'.objs.size->Q (es.toList.map (·.key)) {s with heap:=h',toks:=tk}):ba (bp prog w) A (collect (.ref d)) Q E s:=by
 have hlr:d<s.heap.objs.size:=bc g;have nS:s.heap.objs.size≠d:=Nat.ne_of_gt hlr;unfold collect;refine ad (wpAny_runValue (gr PySem.F.entry_proto_collect ?_));rw[d7 PySem.F.plain_proto_collect _];show ba _ A.in1 (newList [] >>=λl=>again (.builtin "list.__iadd__" ⟨[l,.ref d],[]⟩)) _ _ s;refine ad (dv ?_);refine ag ⟨plainId_quiet PySem.F.plain_list_iadd _,gr PySem.F.entry_list_iadd ?_⟩;rw[d7 PySem.F.plain_list_iadd _];show ba _ A.in1 (Builtin.List.listExtendWith (.ref s.heap.objs.size) (.ref d) (.ref s.heap.objs.size)) _ _ _;refine PySem.W.kdl_extend (R:=λrr s'=>match rr with
  | .ok (.ret v)=>ba (bp prog w) A (match v with
   | .ref a=>(load a >>=λx=>match x.data with
    | .seq xs _=>pure xs.toList
    |_=>unsupported "internal:collect")
   |_=>unsupported "internal:collect") Q E s'
  | .ok _=>False
  | .error e=>E e s') (s:={s with heap:=s.heap.push {cls:=.type "list",data:=.seq #[] 0}}) (Zi1 (prog:=prog) (w:=w) lo x c) hh (aq _ g) s.heap.objs.size nS nS _ 0 (a9 _ rfl) (λh' tk acc' c' hk gS hacc=>?_) (by rw[dr];omega)
 show ba _ A (load s.heap.objs.size >>=_) _ _ _;refine ad (wpAny_load gS ?_);refine ag ?_;have e:acc'.toList=es.toList.map (·.key):=by
  apply List.ext_getElem?;intro i;rw[b5,bf,b5];cases hi:acc'[i]? with
  |none=>
   have:acc'.size<=i:=by simpa using hi
   rw[hacc.1]at this;rw[show es[i]? =aB by simpa using this];rfl
  |some v=>obtain⟨e,he,rfl⟩:=hacc.2 i v hi;rw[he];rfl
 show Q acc'.toList _;rw[e];exact h h' tk (λb o q=>hk b o (b4 (bc q)) (aq _ q)) (Nat.le_of_lt (bc gS))
end
end TX
namespace TX
open PySem PySem.Spec PySem.Calls PyProof.Rows L2 DL
open PySem.W (kas_sort kas_ask kas_item kat_run kat_snds)
section
variable{X:Cx}{pins:List (ak×Obj)}{σ:L2.St}{H:Hp}{s:am}{E:aj->am->Prop}{its:List aj}{KeyOk:Nat->V->Hp->Prop}{Q:aj->am->Prop}{O:KeyOrd}{key:Nat->O.α}{kvs:List V}
theorem Zbp(I:Inv X pins σ H s)(h64:its.length<64)(rv:Zw kvs its)(hk:∀j kv,kvs[j]? =aA kv->KeyOk j kv H)(hc:Cmp X pins σ H X.A.in1.in1 KeyOk O key its.length)
  (hQ:∀p D s' c,Pm its.length p->Lq key p its.length->X.s₀.heap.get? D=aB->Inv X pins σ H s'->Jb X pins H D->s'.heap.get? D=aA (de "list" (gy (p.toList.map λi=>its.getD i cf)) c)->Q (.ref D) s'):
  ba (bp X.prog X.w) X.A.in1 (do
   let l<-newList its;let _<-holding [l] (call (.builtin "list.sort") [l] [])
   ret l) (λfin s'=>∃v,fin= .done (.ret v)/\Q v s') E s:=by
 refine ad (wpAny_newList ?_ (by rw[dr];omega));have hoL:(s.heap.push (de "list" its.toArray 0)).get? s.heap.objs.size=aA (de "list" its.toArray 0):=a9 _ rfl;have keep:∀b o,s.heap.get? b=aA o->(s.heap.push (de "list" its.toArray 0)).get? b=aA o:=λb o q=>aq _ q;refine ad (f9 (c5 (s:={s with heap:=s.heap.push (de "list" its.toArray 0)}) slot_list_sort ⟨_,hoL,rfl⟩ entry_list_sort ?body (args_list_sort _)))
 case body=>
  rw[list_sort_plain];have hs2:(s.heap.push (de "list" its.toArray 0)).objs.size=s.heap.objs.size+1:=size_push' ..;generalize hh:(s.heap.push (de "list" its.toArray 0))=h1 at hoL keep hs2⊢;generalize hD:s.heap.objs.size=D at hoL⊢;have hDn: @Eq Nat D s.heap.objs.size:=hD.symm;obtain⟨e1,ho1⟩:∃e1,(h1.update D (c9 λ_=>(#[]:Array aj))).get? D=aA (de "list" #[] e1):=⟨_,get?_update_seq hoL λ_=> #[]⟩
  refine ad (listItems_at hoL rfl ?_);refine ad (listUpdate_at hoL rfl ?_ (by rw[bi,dr];omega) (dn _));refine ad (seqEpoch_at ho1 rfl ?_);refine ad (wpAny_newTuple ?_ (by show its.length<=_;rw[dr];omega));refine ad (wpAny_newList ?_ (dn _));refine f9 ?_;have kp:∀b o,s.heap.get? b=aA o->(((h1.update D (c9 λ_=>(#[]:Array aj))).push (de "tuple" its.toArray 0)).push (de "list" #[] 0)).get? b=aA o:=λb o q=>by have hlt: @LT.lt Nat _ b s.heap.objs.size:=bc q;have:=keep b o q;refine aq _ (aq _ ?_);rw[Heap.get?_update_ne _ _ _ _ (b4 (show @LT.lt Nat _ b D by omega))];exact this
  have nD:H D=aB:=I.hok.fresh (by omega);have fD:Jb X pins H D:=I.fpOk (by omega) nD;have ho6:(((h1.update D (c9 λ_=>(#[]:Array aj))).push (de "tuple" its.toArray 0)).push (de "list" #[] 0)).get? D=aA (de "list" #[] e1):=aq _ (aq _ ho1);have I6:Inv X pins σ H {s with heap:=((h1.update D (c9 λ_=>(#[]:Array aj))).push (de "tuple" its.toArray 0)).push (de "list" #[] 0)}:=I.kept kp;show ba (bp X.prog X.w) X.A.in1.in1 _ _ _ {s with heap:=((h1.update D (c9 λ_=>(#[]:Array aj))).push (de "tuple" its.toArray 0)).push (de "list" #[] 0)};have hD0:X.s₀.heap.get? D=aB:=Heap.get?_none_of_le (d3 I.sz (by omega));generalize hs6:({s with heap:=((h1.update D (c9 λ_=>(#[]:Array aj))).push (de "tuple" its.toArray 0)).push (de "list" #[] 0)}:am)=s6 at I6⊢;have ho6:s6.heap.get? D=aA (de "list" #[] e1):=by rw[<-hs6];exact ho6
  have fin:∀(p:Array Nat) (out:Array aj),out=gy (p.toList.map λi=>its.getD i cf)->out.size<64->Pm its.length p->Lq key p its.length->
    Q (.ref D) {s6 with heap:=s6.heap.update D (c9 λ_=>out)}:=λp out ho hz z1 z2=>by
   subst ho;exact hQ p D _ _ z1 z2 hD0 (Dj (o:=de "list" #[] 0) (xs:= #[]) (ys:= #[]) (n:=0) I6 fD) fD (get?_update_seq ho6 λ_=>_)
  try dsimp only
  by_cases h2:its.toArray.size<2
  ·rw[if_pos h2,if_pos h2];have h2':its.length<2:=by simpa using h2
   refine ad (ag ?_);rw[StateT.run_pure];refine ad (ag ?_)
   try dsimp only
   have eo:(arrOf (SortSt.mk' general' (its.toArray.zip its.toArray) #[] 7 aB)).map (·.2)=gy ((gy (cr its.length)).toList.map λi=>its.getD i cf):=by
    show(its.toArray.zip its.toArray).map (·.2)=_;apply Array.toList_inj.mp;rw[Array.toList_map,ksk_zip];simp only[List.toList_toArray];rw[List.map_snd_zip (by omega)];apply List.ext_getElem
    ·simp
    ·intro i a b;simp[a]
   rw[eo];refine ad (seqEpoch_at ho6 rfl ?_);refine ad (listUpdate_at ho6 rfl ?_ (dn _) (by rw[bi,dr];simp;omega));show ba _ _ (if((e1 !=e1)=aC)then _ else _) _ _ _;simp only[bne_self_eq_false,bg,if_false];refine ag ⟨_,rfl,ag ⟨_,rfl,fin (gy (cr its.length)) _ rfl (by simp;omega) (Array.Perm.refl _) (λi j hij hj=>?_)⟩⟩;have:i=j:=by omega
   subst this;exact KeyOrd.kle_refl _
  ·rw[if_neg h2,if_neg h2];have h2':2<=its.length:=Nat.le_of_not_lt (by simpa using h2);obtain⟨κ,hκ,hlt⟩:=hc H s6 its kvs (Ze.refl H) I6 rv rfl hk h2';refine ad (wpAny_mono (hκ (λκ' s'=>κ'=κ/\s'=s6) ⟨rfl,rfl⟩) (λκ' s' z=>?_) λ_ _ z=>z.elim);obtain⟨rfl,rfl⟩:=z;have g:=Wv.wp (lt:=E2 O key) (n:=its.length) (R:=λq=>Pm its.length q/\Lq key q its.length) (cmp:=kas_ask X.prog X.w X.A.in1.in1 κ' its) (I:=λs''=>s''=s') (Q:=λq s''=>s''=s'/\Pm its.length q/\Lq key q its.length)
    (λi j C s'' hi hj z hC=>by subst z;exact hlt i j C hi hj (hC _ rfl)) (λq s'' z1 z2=>⟨z2,z1⟩) (Fa (key:=key) (by omega)) rfl
   refine ad (wpAny_mono (kat_run (Q:=λst s''=>∃p:Array Nat,s''=s'/\Pm its.length p/\Lq key p its.length/\arrOf st=p.map (kas_item (its.toArray.zip its.toArray))/\failedOf st=aB) rfl h2' h64
    (λp st s'' _ a1 a2 z=>⟨p,z.1,z.2.1,z.2.2,a1,a2⟩) g) (λr s'' z=>?_) λ_ _ z=>z)
   obtain⟨⟨⟩,st⟩:=r;obtain⟨p,rfl,z1,z2,z3,z4⟩:=z
   try dsimp only
   rw[kat_snds rfl z3];refine ad (seqEpoch_at ho6 rfl ?_);refine ad (listUpdate_at ho6 rfl ?_ (dn _) (by rw[bi,ao,aw,z1.size,dr];omega));rw[z4];simp only[bne_self_eq_false,bg,if_false];exact ag ⟨_,rfl,ag ⟨_,rfl,fin p _ rfl (by rw[bi,ao,aw,z1.size];exact h64) z1 z2⟩⟩
end
end TX
namespace L2
open PySem PySem.Spec PySem.Calls PyProof.Rows DL TX
section
variable{X:Cx}
def Zys(K:af):List V->Hp->VK->Prop:=λvs H Q=>∃a kvs ep bs F ds p,vs=[.ref a]/\Ze F H/\H a=aA (.dT kvs ep bs)/\Reps K F ds (bs.map V.ref)/\KeysOk ds/\Rf ds p/\bs.length<64/\∀q,H q=aB->Q (.ref q) (Z5 H q (.lst (p.map λi=>(bs.map V.ref).getD i .non)))
end
end L2
namespace DL
open PySem PySem.Spec PySem.Calls PyProof.Rows L2 TX
section
variable{K:af}{F H:Hp}{v:V}
abbrev Zlc(k:List Key):D:=.tup (k.map R7)
def Zyt:List D->Option SV
 | [.dT ks _]=>Ao (ks.map Zlc) (ks.map Zlc)
 |_=>aB
variable{Z:Ent K}{σ:L2.St}{Q:VK}{E:Yq}
end
end DL
namespace L2
open PySem PySem.Spec PyProof.Rows
variable{X:Cx}{pos:Pos}
def Z1b(K:af)(n:Nat)(t:TGs):TG:=λv σ H Q=>∃a xs,v= .ref a/\Wp K H a xs/\xs.length=n/\t xs σ H Q
end L2
namespace DL
open PySem PySem.Spec PyProof.Rows L2
variable{K:af}{Z:Ent K}{H:Hp}{σ:L2.St}
def Zr3(n:Nat)(g:FGs):FG:=⟨λd δ=>match d with
 | .lst xs=>if xs.length=n then g.run xs δ else aB
 |_=>aB,g.tch⟩
@[simp] theorem Zr4(n:Nat)(g:FGs)(xs:List D)(δ:Yg):(Zr3 n g).run (.lst xs) δ=if xs.length=n then g.run xs δ else none:=rfl
variable{X:Cx}{Z:Ent X.K}{pos:Pos}
end DL
namespace TT
open PySem PySem.SetTable SX
def Xf(m:Nat)(p:Probe):Probe:=
 if p.more > 0 then{p with j:=p.j+1,more:=p.more- 1}else
 {p with j:=(leap m p.i p.perturb).1,more:=runEnd m (leap m p.i p.perturb).1- (leap m p.i p.perturb).1,i:=(leap m p.i p.perturb).1,perturb:=(leap m p.i p.perturb).2}
theorem Znv(t:gn)(p:Probe):t.advance p=Xf t.mask p:=rfl
def Wi(m:Nat):Nat->Probe->Probe
 |0,p=>p
 |n+1,p=>Wi m n (Xf m p)
theorem Qg(m:Nat):∀(a b:Nat) (p:Probe),Wi m (a+b) p=Wi m b (Wi m a p)
 |0,b,p=>by rw[Nat.zero_add];rfl
 |a+1,b,p=>by rw[Nat.add_right_comm];exact Qg m a b (Xf m p)
def Rg(m i q:Nat):Probe:={j:=i,more:=runEnd m i- i,i:=i,perturb:=q,dummy:=aB}
theorem Dm(m:Nat)(p:Probe):(Xf m p).dummy=p.dummy:=by unfold Xf;split<;> rfl
theorem Px(m:Nat):∀(n:Nat) (p:Probe),(Wi m n p).dummy=p.dummy
 |0,_=>rfl
 |n+1,p=>(Px m n (Xf m p)).trans (Dm m p)
theorem Znw(m i:Nat):runEnd m i- i<=9:=by unfold runEnd;split<;> omega
theorem Zfa{m i:Nat}(h:i<=m):runEnd m i<=m:=by unfold runEnd;split<;> omega
theorem Lu(m i:Nat):i<=runEnd m i:=by unfold runEnd;split<;> omega
theorem Jq{m i q:Nat}:∀{k:Nat},k<=runEnd m i- i->Wi m k (Rg m i q)={j:=i+k,more:=runEnd m i- i- k,i:=i,perturb:=q,dummy:=aB}
 |0,_=>rfl
 |k+1,h=>by rw[Qg m k 1,Jq (by omega)];show Xf m _=_;unfold Xf;rw[if_pos (by show runEnd m i- i- k > 0;omega)];rfl
theorem Ot(m i q:Nat):Wi m (runEnd m i- i+1) (Rg m i q)=Rg m (leap m i q).1 (leap m i q).2:=by rw[Qg m _ 1,Jq (a8 _)];show Xf m _=_;unfold Xf;rw[if_neg (by show¬runEnd m i- i- (runEnd m i- i) > 0;omega)];rfl
def Jh(m:Nat):Nat->Nat×Nat->Nat×Nat
 |0,x=>x
 |n+1,x=>Jh m n (leap m x.1 x.2)
theorem Fg(m:Nat):∀(a b:Nat) (x:Nat×Nat),Jh m (a+b) x=Jh m b (Jh m a x)
 |0,b,x=>by rw[Nat.zero_add];rfl
 |a+1,b,x=>by rw[Nat.add_right_comm];exact Fg m a b _
theorem Py{m:Nat}:∀(n:Nat) (x:Nat×Nat),x.1<=m->(Jh m n x).1<=m
 |0,_,h=>h
 |n+1,x,_=>Py n _ (Nat.le_of_lt_succ (Nat.mod_lt (x.1*5+1+x.2 / 32) (Nat.succ_pos m)))
theorem Fh(m:Nat):∀(n:Nat) (x:Nat×Nat),(Jh m n x).2=x.2 / 32^n
 |0,x=>by simp[Jh]
 |n+1,x=>by show(Jh m n (leap m x.1 x.2)).2=_;rw[Fh m n];show x.2 / 32 / 32^n=_;rw[Nat.div_div_eq_div_mul,Nat.pow_succ,Nat.mul_comm]
def orb(m:Nat):Nat->Nat->Nat
 |0,_=>0
 |n+1,i=>(1<<<i)|||orb m n ((i*5+1) % (m+1))
theorem Dn{m:Nat}:∀(n i j:Nat),(orb m n i).testBit j=aC->∃c,c<n/\(Jh m c (i,0)).1=j
 |0,i,j,h=>by simp[orb]at h
 |n+1,i,j,h=>by
  unfold orb at h;rw[Nat.testBit_or,Bool.or_eq_true]at h;rcases h with h|h
  ·refine⟨0,by omega,?_⟩;rw[Nat.one_shiftLeft,Nat.testBit_two_pow]at h;show i=j;exact of_decide_eq_true h
  ·obtain⟨c,hc,e⟩:=Dn n _ j h;refine⟨c+1,by omega,?_⟩;show(Jh m c (leap m i 0)).1=j;have:leap m i 0=((i*5+1) % (m+1),0):=by simp[leap]
   rw[this];exact e
def Msk(m:Nat):Prop:=m=7\/m=31\/m=127
theorem Zi2{m:Nat}(h:Msk m):(cr (m+1)).all (λi=>orb m (m+1) i==2^(m+1)- 1)=aC:=by rcases h with rfl|rfl|rfl<;> decide+kernel
theorem Zle{m i q j:Nat}(h:Msk m)(hi:i<=m)(hq:q<2^64)(hj:j<=m):∃c,c<m+15/\(Jh m c (i,q)).1=j:=by
 have h13:(Jh m 13 (i,q)).2=0:=by rw[Fh];exact Nat.div_eq_of_lt (cu hq (by decide))
 have hle:=Py (m:=m) 13 (i,q) hi;generalize hx:Jh m 13 (i,q)=x at h13 hle;obtain⟨a,b⟩:=x;simp only at h13 hle;subst h13;have ho:=g6.mp (Zi2 h) a (cw.mpr (by omega));have ho:orb m (m+1) a=2^(m+1)- 1:=by simpa using ho
 obtain⟨c,hc,e⟩:=Dn (m+1) a j (by rw[ho,Nat.testBit_two_pow_sub_one];simpa using by omega);exact⟨13+c,by omega,by rw[Fg,hx];exact e⟩
theorem Zfb(m:Nat):∀(c i q:Nat),∃n,n<=10*c/\Wi m n (Rg m i q)=Rg m (Jh m c (i,q)).1 (Jh m c (i,q)).2
 |0,i,q=>⟨0,by omega,rfl⟩
 |c+1,i,q=>by obtain⟨n,hn,e⟩:=Zfb m c (leap m i q).1 (leap m i q).2;refine⟨runEnd m i- i+1+n,by have:=Znw m i;omega,?_⟩;rw[Qg,Ot,e];rfl
abbrev Qt(m:Nat)(h:Int):Probe:=Rg m (bits h % (m+1)) (bits h)
theorem Zr5(t:gn)(h:Int):t.probeStart h=Qt t.mask h:=rfl
theorem Dp(h:Int):bits h<2^64:=by unfold bits;have h1:=dy h (show(0:Int)<2^64 by decide);have h2:=fu h (show(2^64:Int)≠0 by decide);omega
theorem Zr6{m:Nat}(hm:Msk m)(h:Int){j:Nat}(hj:j<=m):∃n,n<10*turns m/\(Wi m n (Qt m h)).j=j:=by obtain⟨c,hc,e⟩:=Zle (q:=bits h) hm (Nat.le_of_lt_succ (Nat.mod_lt (bits h) (Nat.succ_pos m))) (Dp h) hj;obtain⟨n,hn,e2⟩:=Zfb m c (bits h % (m+1)) (bits h);exact⟨n,by unfold turns;omega,by rw[e2];exact e⟩
abbrev sq(m:Nat)(h:Int)(n:Nat):Nat:=(Wi m n (Qt m h)).j
theorem Dq{m:Nat}:∀(n:Nat) (p:Probe),p.i<=m->p.j+p.more<=m->(Wi m n p).j<=m
 |0,p,_,h=>by show p.j<=m;omega
 |n+1,p,hi,h=>by
  refine Dq n (Xf m p) ?_ ?_
  ·unfold Xf;split
   ·exact hi
   ·exact Nat.le_of_lt_succ (Nat.mod_lt (p.i*5+1+p.perturb / 32) (Nat.succ_pos m))
  ·unfold Xf;split
   ·show p.j+1+(p.more- 1)<=m;omega
   ·have hl:(leap m p.i p.perturb).1<=m:=Nat.le_of_lt_succ (Nat.mod_lt (p.i*5+1+p.perturb / 32) (Nat.succ_pos m));have:=Zfa hl;have:=Lu m (leap m p.i p.perturb).1;show(leap m p.i p.perturb).1+(runEnd m (leap m p.i p.perturb).1- (leap m p.i p.perturb).1)<=m;omega
theorem Zfc(m:Nat)(h:Int)(n:Nat):sq m h n<=m:=by have h1:bits h % (m+1)<=m:=Nat.le_of_lt_succ (Nat.mod_lt _ (Nat.succ_pos m));refine Dq n _ h1 ?_;have:=Zfa h1;have:=Lu m (bits h % (m+1));show bits h % (m+1)+(runEnd m (bits h % (m+1))- bits h % (m+1))<=m;omega
theorem Mc{t:gn}(hr:Gb t.place.toList){i j:Nat}(h:t.place[i]? =aA j):t.slot j= .live i:=by
 have hi:i<t.place.size:=(f7.mp h).1;have a:At t.place j i:=by
  refine⟨by omega,λk y hk e=>Op hr e h hk,λk y hk e=>?_⟩;rcases Nat.lt_or_eq_of_le hk with z|z
  ·exact Nat.le_of_lt (Op hr h e z)
  ·subst z;rw[h]at e;cases e;exact a8 _
 have e:=Df (Ai hr j) a;unfold SetTable.slot;dsimp only;rw[e,h,if_pos (by simp)]
theorem Lv{t:gn}{i j:Nat}(h:t.slot j= .live i):t.place[i]? =aA j:=by
 unfold SetTable.slot at h;dsimp only at h;split at h
 ·rename_i e;cases h;simpa using e
 ·split at h<;> cases h
theorem Dr{t:gn}(hr:Gb t.place.toList){j:Nat}(h:t.slot j= .empty):j∉t.place.toList:=λz=>by
 obtain⟨i,hi,e⟩:=dz z;have:t.place[i]? =aA j:=by rw[<-b5,ax];exact⟨hi,e⟩
 rw[Mc hr this]at h;cases h
theorem Ar{t:gn}(hd:t.dummies= #[])(j:Nat):t.slot j= .empty\/∃i,t.slot j= .live i:=by
 unfold SetTable.slot;dsimp only;split
 ·exact .inr ⟨_,rfl⟩
 ·rw[hd,Dg];exact .inl (by simp)
theorem As{t:gn}(hd:t.dummies= #[]){j:Nat}(h:j∉t.place.toList):t.slot j= .empty:=by
 rcases Ar hd j with z|⟨i,z⟩
 ·exact z
 ·have:=Lv z;rw[<-b5]at this;exact absurd (cz this) h
theorem Ds{t:gn}(hd:t.dummies= #[])(f:Nat->Int)(h:Int):∀(fuel:Nat) (p:Probe),p.dummy=aB->(∃n,n<fuel/\t.slot (Wi t.mask n p).j= .empty)->
  (∃n,n<fuel/\SetTable.probe.go t f h fuel p=aA (.empty (Wi t.mask n p).j aB)/\t.slot (Wi t.mask n p).j= .empty/\∀k,k<n->∃i,t.slot (Wi t.mask k p).j= .live i/\f i≠h)\/
  (∃n i,n<fuel/\SetTable.probe.go t f h fuel p=aA (.candidate (Wi t.mask n p).j i (Wi t.mask (n+1) p))/\t.slot (Wi t.mask n p).j= .live i/\f i=h/\∀k,k<n->∃i,t.slot (Wi t.mask k p).j= .live i/\f i≠h)
 |0,p,_,⟨n,hn,_⟩=>absurd hn (fj _)
 |fuel+1,p,hp,⟨n,hn,he⟩=>by
  unfold SetTable.probe.go;rcases Ar hd p.j with hs|⟨i,hs⟩
  ·refine .inl ⟨0,by omega,?_,hs,λk hk=>absurd hk (fj _)⟩;rw[hs];show aA (Met.empty p.j p.dummy)=_;rw[hp];rfl
  ·rw[hs];dsimp only;by_cases hf:f i=h
   ·refine .inr ⟨0,i,by omega,?_,hs,hf,λk hk=>absurd hk (fj _)⟩;rw[if_pos (by simpa using hf)];rfl
   ·rw[if_neg (by simpa using hf),Znv];cases n with
    |zero=>have he:t.slot p.j= .empty:=he;rw[hs]at he;cases he
    |succ n=>
     have first:∀n,(∀k,k<n->∃i,t.slot (Wi t.mask k (Xf t.mask p)).j= .live i/\f i≠h)->∀k,k<n+1->∃i,t.slot (Wi t.mask k p).j= .live i/\f i≠h:=λn a k hk=>by
      cases k with
      |zero=>exact⟨i,hs,hf⟩
      |succ k=>exact a k (by omega)
     rcases Ds hd f h fuel (Xf t.mask p) ((Dm _ _).trans hp) ⟨n,by omega,he⟩with⟨n',h1,h2,h3,h4⟩|⟨n',i',h1,h2,h3,h4,h5⟩
     ·exact .inl ⟨n'+1,by omega,h2,h3,first n' h4⟩
     ·exact .inr ⟨n'+1,i',by omega,h2,h3,h4,first n' h5⟩
def Lk(m:Nat)(pl:List Nat)(h:Int)(j:Nat):Prop:=∃n,sq m h n=j/\∀k,k<n->sq m h k∈pl
theorem Lk.mono{m:Nat}{pl pl':List Nat}(hs:∀x∈pl,x∈pl'){h:Int}{j:Nat}(l:Lk m pl h j):Lk m pl' h j:=let⟨n,a,b⟩:=l;⟨n,a,λk hk=>hs _ (b k hk)⟩
structure Tb(t:gn)(hs:List Int):Prop where
 dum:t.dummies= #[]
 msk:Msk t.mask
 rise:Gb t.place.toList
 le:∀j∈t.place.toList,j<=t.mask
 len:t.place.toList.length=hs.length
 room:hs.length<=t.mask
 look:∀e∈hs.zip t.place.toList,Lk t.mask t.place.toList e.1 e.2
theorem Tb.fits{t:gn}{hs:List Int}(b:Tb t hs){n:Nat}(hn:n=hs.length):t.fits n=aC:=by
 have h1:=b.len;have h2:=b.room;have h3:t.place.size=hs.length:=by rw[<-h1,aw]
 unfold SetTable.fits SetTable.fill;rw[b.dum,h3,hn];simp;omega
theorem Tb.gave{t:gn}{hs:List Int}(b:Tb t hs):t.gaveWay=aD:=by unfold SetTable.gaveWay;rcases b.msk with e|e|e<;> rw[e]<;> rfl
theorem Gd{l:List Nat}(h:Gb l):l.Nodup:=h.imp λz=>b4 z
theorem Dt{m:Nat}{pl:List Nat}(nd:pl.Nodup)(hl:pl.length<=m):∃j,j<=m/\j∉pl:=by apply Classical.byContradiction;intro hn;have all:∀j,j<=m->j∈pl:=λj hj=>Classical.byContradiction λz=>hn ⟨j,hj,z⟩;have:(cr (m+1)).length<=pl.length:=List.Nodup.length_le_of_subset List.nodup_range λj hj=>all j (by have:=cw.mp hj;omega);rw[List.length_range]at this;omega
theorem Tb.empty{t:gn}{hs:List Int}(b:Tb t hs)(h:Int):∃n,n<10*turns t.mask/\t.slot (sq t.mask h n)= .empty:=by obtain⟨j,hj,hn⟩:=Dt (Gd b.rise) (by rw[b.len];exact b.room);obtain⟨n,h1,h2⟩:=Zr6 b.msk h hj;exact⟨n,h1,by show t.slot (Wi t.mask n (Qt t.mask h)).j= .empty;rw[h2];exact As b.dum hn⟩
theorem Tb.fresh(f m:Nat)(l:Bool):Tb (SetTable.fresh f m l) []:=⟨rfl,.inl rfl,List.Pairwise.nil,(λ_ z=>nomatch z),rfl,dn _,(λ_ z=>nomatch z)⟩
theorem Zi3{α β:Type}(p:Nat){as:List α}{bs:List β}(h:as.length=bs.length)(a:α)(b:β):(as.take p++a::as.drop p).zip (bs.take p++b::bs.drop p)=(as.zip bs).take p++(a,b)::(as.zip bs).drop p:=by rw[List.zip_append (by simp[h]),List.zip_cons_cons];simp only[List.zip_eq_zipWith,List.take_zipWith,List.drop_zipWith]
theorem Tb.put{t:gn}{hs:List Int}(b:Tb t hs)(h:Int){n:Nat}(he:t.slot (sq t.mask h n)= .empty)(hb:∀k,k<n->t.slot (sq t.mask h k)≠.empty)(hr:hs.length+1<=t.mask):
  Tb (t.put (sq t.mask h n)).1 (hs.take (below t.place (sq t.mask h n))++h::hs.drop (below t.place (sq t.mask h n))):=by
 have hn:t.place[SetTable.below t.place (sq t.mask h n)]?≠aA (sq t.mask h n):=λz=>by rw[Mc b.rise z]at he;cases he
 have hni:=Dr b.rise he;have hbm:∀k,k<n->sq t.mask h k∈t.place.toList:=λk hk=>Classical.byContradiction λz=>hb k hk (As b.dum z);have hjle:=Zfc t.mask h n;have hlk:Lk t.mask t.place.toList h (sq t.mask h n):=⟨n,rfl,hbm⟩
 generalize sq t.mask h n=j at*;have hpl:(t.put j).1.place.toList=t.place.toList.take (below t.place j)++j::t.place.toList.drop (below t.place j):=SetTable.toList_insertAt _ _ _;have hsub:∀x∈t.place.toList,x∈(t.put j).1.place.toList:=λx hx=>by
  rw[hpl];rw[<-List.take_append_drop (below t.place j) t.place.toList]at hx;rcases cn.mp hx with z|z
  ·exact List.mem_append_left _ z
  ·exact c6 _ (ar _ z)
 have hm:(t.put j).1.mask=t.mask:=rfl;refine⟨?_,by rw[hm];exact b.msk,Zex b.rise hn,λx hx=>?_,?_,?_,λe he'=>?_⟩
 ·show(if has t.dummies j then _ else t.dummies)= #[];rw[b.dum,Dg];rfl
 ·rw[hm];rw[hpl]at hx;rcases cn.mp hx with z|z
  ·exact b.le x (List.mem_of_mem_take z)
  ·rcases bo.mp z with z|z
   ·rw[z];exact hjle
   ·exact b.le x (List.mem_of_mem_drop z)
 ·rw[hpl];have:=b.len;simp only[bj,gm,bn,List.length_drop];omega
 ·rw[hm];simp only[bj,gm,bn,List.length_drop];omega
 ·rw[hpl,Zi3 _ b.len.symm]at he';rw[hm];rcases cn.mp he' with z|z
  ·exact(b.look e (List.mem_of_mem_take z)).mono hsub
  ·rcases bo.mp z with z|z
   ·rw[z];exact hlk.mono hsub
   ·exact(b.look e (List.mem_of_mem_drop z)).mono hsub
theorem Tb.plainOff{t:gn}{hs:List Int}(b:Tb t hs):Tb {t with plain:=aD} hs:=⟨b.dum,b.msk,b.rise,b.le,b.len,b.room,b.look⟩
end TT
namespace TT
open PySem PySem.SetTable SX
def Ow(owner:Array (Option Nat))(j:Nat):Prop:=(owner.getD j (aA 0)).isNone=aD
theorem Fi{m:Nat}{owner:Array (Option Nat)}:∀(fuel i q:Nat),(∃c,c<fuel/\¬Ow owner (Jh m c (i,q)).1)->
  ∃n,layClean.free m owner fuel i q=aA (Wi m n (Rg m i q)).j/\¬Ow owner (Wi m n (Rg m i q)).j/\∀k,k<n->Ow owner (Wi m k (Rg m i q)).j
 |0,i,q,⟨c,hc,_⟩=>absurd hc (fj _)
 |fuel+1,i,q,⟨c,hc,hn⟩=>by
  unfold layClean.free;cases hf:(cr (runEnd m i+1- i)).find? λk=>(owner.getD (i+k) (aA 0)).isNone with
  |some k=>
   have hk:=List.find?_range_eq_some.mp hf;have hr:=Lu m i;have hkl:k<=runEnd m i- i:=by have:=cw.mp hk.2.1;omega
   refine⟨k,?_,?_,λk' hk'=>?_⟩
   ·rw[Jq hkl]
   ·rw[Jq hkl];intro z;unfold Ow at z;dsimp only at z;rw[hk.1]at z;cases z
   ·rw[Jq (by omega)];have:=hk.2.2 k' hk';unfold Ow;dsimp only;simpa using this
  |none=>
   have hall:=List.find?_eq_none.mp hf;have hr:=Lu m i;have own:∀k,k<=runEnd m i- i->Ow owner (i+k):=λk hk=>by
    have:=hall k (cw.mpr (by omega));unfold Ow;cases z:(owner.getD (i+k) (aA 0)).isNone with
    |false=>rfl
    |true=>exact absurd z this
   cases c with
   |zero=>exact absurd (own 0 (dn _)) hn
   |succ c=>
    obtain⟨n,h1,h2,h3⟩:=Fi fuel (leap m i q).1 (leap m i q).2 ⟨c,by omega,hn⟩;refine⟨runEnd m i- i+1+n,?_,?_,λk hk=>?_⟩
    ·rw[Qg,Ot];exact h1
    ·rw[Qg,Ot];exact h2
    ·by_cases hk2:k<=runEnd m i- i
     ·rw[Jq hk2];exact own k hk2
     ·have e:k=runEnd m i- i+1+(k- (runEnd m i- i+1)):=by omega
      rw[e,Qg,Ot];exact h3 _ (by omega)
structure Ly(m:Nat)(hs:List Int)(owner:Array (Option Nat))(js:List Nat):Prop where
 size:owner.size=m+1
 len:js.length=hs.length
 nd:js.Nodup
 le:∀j∈js,j<=m
 own:∀j k,j<=m->(owner.getD j aB=aA k↔js[k]? =aA j)
 look:∀e∈hs.zip js,Lk m js e.1 e.2
theorem Ly.ow{m:Nat}{hs:List Int}{owner:Array (Option Nat)}{js:List Nat}(l:Ly m hs owner js){j:Nat}(hj:j<=m):Ow owner j↔j∈js:=by
 have hs:j<owner.size:=by rw[l.size];omega
 have e1:owner.getD j (aA 0)=owner[j]:=by simp[Array.getD,hs]
 have e2:owner.getD j aB=owner[j]:=by simp[Array.getD,hs]
 unfold Ow;rw[e1];constructor
 ·intro h;cases z:owner[j]with
  |none=>rw[z]at h;cases h
  |some k=>exact cz ((l.own j k hj).mp (by rw[e2];exact z))
 ·intro h;obtain⟨k,hk,e⟩:=dz h;have:=(l.own j k hj).mpr (ax.mpr ⟨hk,e⟩);rw[e2]at this;rw[this];rfl
theorem Ly.nil(m:Nat):Ly m [] (Array.replicate (m+1) aB) []:=by
 refine⟨by simp,rfl,c7,(λ_ z=>nomatch z),λj k hj=>?_,(λ_ z=>nomatch z)⟩;have:(Array.replicate (m+1) (aB:Option Nat)).getD j aB=aB:=by simp[Array.getD]
 rw[this];simp
theorem Ly.step{m:Nat}{hs:List Int}{owner:Array (Option Nat)}{js:List Nat}(hm:Msk m)(l:Ly m hs owner js)(hl:hs.length<=m)(h:Int):
  ∃j,layClean.free m owner (turns m) (bits h % (m+1)) (bits h)=aA j/\Ly m (hs++[h]) (owner.setIfInBounds j (aA hs.length)) (js++[j]):=by
 obtain⟨j0,hj0,hn0⟩:=Dt l.nd (by rw[l.len];exact hl);obtain⟨c,hc,e⟩:=Zle (q:=bits h) hm (Nat.le_of_lt_succ (Nat.mod_lt (bits h) (Nat.succ_pos m))) (Dp h) hj0;obtain⟨n,h1,h2,h3⟩:=Fi (m:=m) (owner:=owner) (turns m) (bits h % (m+1)) (bits h) ⟨c,hc,by rw[e,l.ow hj0];exact hn0⟩;have hle:=Zfc m h n;have hlk:Lk m js h (sq m h n):=⟨n,rfl,λk hk=>(l.ow (Zfc m h k)).mp (h3 k hk)⟩
 have hnj:sq m h n∉js:=λz=>h2 ((l.ow hle).mpr z);refine⟨sq m h n,h1,?_⟩;generalize sq m h n=j at*;have hsz:j<owner.size:=by rw[l.size];omega
 refine⟨by simp[l.size],by simp[l.len],di.mpr ⟨l.nd,by simp,λa ha b hb=>?_⟩,λx hx=>?_,λx k hx=>?_,λe he=>?_⟩
 ·rw[au.mp hb];exact λz=>hnj (z▸ha)
 ·rcases cn.mp hx with z|z
  ·exact l.le x z
  ·rw[au.mp z];exact hle
 ·by_cases hxj:x=j
  ·subst hxj;have:(owner.setIfInBounds x (aA hs.length)).getD x aB=aA hs.length:=by simp[Array.getD,hsz]
   rw[this];constructor
   ·intro z;cases z;rw[<-l.len];simp
   ·intro z;by_cases hk:k<js.length
    ·rw[List.getElem?_append_left hk]at z;exact absurd (cz z) hnj
    ·have hk2:=(ax.mp z).1;rw[bj,List.length_singleton]at hk2;rw[<-l.len,show k=js.length by omega]
  ·have hxs:x<owner.size:=by rw[l.size];omega
   have:(owner.setIfInBounds j (aA hs.length)).getD x aB=owner.getD x aB:=by simp[Array.getD,hxs,Array.getElem_setIfInBounds,Ne.symm hxj]
   rw[this,l.own x k hx];by_cases hk:k<js.length
   ·rw[List.getElem?_append_left hk]
   ·rw[List.getElem?_eq_none (by omega)];constructor
    ·intro z;cases z
    ·intro z;have hk2:=(ax.mp z).1;rw[bj,List.length_singleton]at hk2;have:k=js.length:=by omega
     subst this;rw[List.getElem?_append_right (a8 _)]at z;simp at z;exact absurd z.symm hxj
 ·rw[List.zip_append l.len.symm]at he;rcases cn.mp he with z|z
  ·exact(l.look e z).mono λx hx=>List.mem_append_left _ hx
  ·simp at z;rw[z];exact hlk.mono λx hx=>List.mem_append_left _ hx
theorem Du{m:Nat}(hm:Msk m):∀(rest hs:List Int) (owner:Array (Option Nat)) (js:List Nat),Ly m hs owner js->hs.length+rest.length<=m+1->
  ∃owner' js',rest.foldl (λ(acc:Option (Array (Option Nat)×Nat)) h=>do
   let(owner,k)<-acc;let j<-layClean.free m owner (turns m) (bits h % (m+1)) (bits h)
   pure (owner.setIfInBounds j (aA k),k+1)) (aA (owner,hs.length))=aA (owner',(hs++rest).length)/\Ly m (hs++rest) owner' js'
 | [],hs,owner,js,l,_=>⟨owner,js,by simp,by simpa using l⟩
 |h::rest,hs,owner,js,l,hl=>by
  obtain⟨j,e,l2⟩:=l.step hm (by simp only[bn]at hl;omega) h;obtain⟨owner',js',e2,l3⟩:=Du hm rest (hs++[h]) _ _ l2 (by simp only[bj,bn,List.length_nil]at hl⊢;omega);refine⟨owner',js',?_,by simpa using l3⟩;rw[List.foldl_cons];have z:(do
   let(owner,k)<-(aA (owner,hs.length):Option (Array (Option Nat)×Nat));let j<-layClean.free m owner (turns m) (bits h % (m+1)) (bits h)
   pure (owner.setIfInBounds j (aA k),k+1))=aA (owner.setIfInBounds j (aA hs.length),(hs++[h]).length):=by
   show(layClean.free m owner (turns m) (bits h % (m+1)) (bits h) >>=λj=>pure (owner.setIfInBounds j (aA hs.length),hs.length+1))=_;rw[e];simp
  rw[z,e2];simp
theorem Zbq{t:gn}{es:Array (Int×aj)}{wanted:Nat}(hm:Msk (sizeAbove wanted- 1))(hl:es.size<=sizeAbove wanted- 1):
  ∃t' order,t.relaid (es.map λ(e:Int×aj)=>e.1) wanted=aA (t',order)/\t'.led=t.led/\(order.filterMap λi=>es[i]?).toList.Perm es.toList/\Tb t' ((order.filterMap λi=>es[i]?).toList.map λ(e:Int×aj)=>e.1):=by
 unfold SetTable.relaid SetTable.laid SetTable.layClean;generalize sizeAbove wanted- 1=m at*;have hsl:(es.map (·.1)).toList.length=es.size:=by simp
 obtain⟨owner,js,e,l⟩:=Du hm (es.map λe=>e.1).toList [] _ [] (Ly.nil m) (by rw[hsl];simp;omega);rw[<-Array.foldl_toList];have e:((es.map (·.1)).toList.foldl (λ(acc:Option (Array (Option Nat)×Nat)) h=>do
   let(owner,k)<-acc;let j<-layClean.free m owner (turns m) (bits h % (m+1)) (bits h)
   pure (owner.setIfInBounds j (aA k),k+1)) (aA (Array.replicate (m+1) aB,0)))=aA (owner,(([]:List Int)++(es.map λ(e:Int×aj)=>e.1).toList).length):=e
 rw[e];rw[List.nil_append]at l;have jl:js.length=es.size:=by rw[l.len,hsl]
 generalize hlive:((cr (m+1)).filterMap λj=>(owner.getD j aB).map (j,·))=live;have mem:∀j k,(j,k)∈live↔j<=m/\js[k]? =aA j:=λj k=>by
  rw[<-hlive,List.mem_filterMap];constructor
  ·rintro⟨j',hj',z⟩;obtain⟨k',z1,z2⟩:=cm.mp z;cases z2;have hj:j<=m:=by have:=cw.mp hj';omega
   exact⟨hj,(l.own j k hj).mp z1⟩
  ·rintro⟨hj,z⟩;exact⟨j,cw.mpr (by omega),by rw[(l.own j k hj).mpr z];rfl⟩
 have rise:Gb (live.map (·.1)):=by rw[<-hlive];unfold Gb;rw[df];refine List.Pairwise.filterMap _ (λa b hab c hc d hd=>?_) List.pairwise_lt_range;obtain⟨_,_,rfl⟩:=cm.mp hc;obtain⟨_,_,rfl⟩:=cm.mp hd;exact hab
 have pmem:∀x,x∈live.map (·.1)↔x∈js:=λx=>by
  rw[a6];constructor
  ·rintro⟨⟨j,k⟩,hp,rfl⟩;exact cz ((mem j k).mp hp).2
  ·intro hx;obtain⟨k,hk,e⟩:=dz hx;exact⟨(x,k),(mem x k).mpr ⟨l.le x hx,ax.mpr ⟨hk,e⟩⟩,rfl⟩
 have plen:live.length=es.size:=by have p:(live.map (·.1)).Perm js:=(List.perm_ext_iff_of_nodup (Gd rise) l.nd).mpr pmem;have:=p.length_eq;rw[ao]at this;omega
 have ond:(live.map (·.2)).Nodup:=by have Er:live.Pairwise λa b=>a.1≠b.1:=df.mp (Gd rise);refine df.mpr (List.Pairwise.imp_of_mem (fun{a b} ha hb hab z=>?_) Er);obtain⟨j1,k1⟩:=a;obtain⟨j2,k2⟩:=b;simp only at z hab;subst z;have z1:=((mem j1 k1).mp ha).2;have z2:=((mem j2 k1).mp hb).2;rw[z1]at z2;exact hab (dm.inj z2)
 have operm:(live.map (·.2)).Perm (cr es.size):=by
  refine(List.perm_ext_iff_of_nodup ond List.nodup_range).mpr λk=>?_;rw[a6,cw];constructor
  ·rintro⟨⟨j,k⟩,hp,rfl⟩;have:=(ax.mp ((mem j k).mp hp).2).1;omega
  ·intro hk;have hk':k<js.length:=by omega
   exact⟨(js[k],k),(mem _ _).mpr ⟨l.le _ (List.getElem_mem hk'),az hk'⟩,rfl⟩
 refine⟨{mask:=m,place:=(live.map (·.1)).toArray,dummies:= #[],finger:=t.finger,led:=t.led,moves:=t.movedTo m,plain:=t.plain},(live.map (·.2)).toArray,by rw[<-hlive];rfl,rfl,?_,?_⟩
 ·rw[Array.toList_filterMap];exact(operm.filterMap _).trans (by rw[filterMap_getElem?_range])
 ·have ge:∀p∈live,∃v,es[p.2]? =aA v:=λp hp=>by have:=cw.mp (operm.mem_iff.mp (a6.mpr ⟨p,hp,rfl⟩));exact⟨es[p.2],by simp[this]⟩
  have fm:∀l:List (Nat×Nat),(∀p∈l,∃v,es[p.2]? =aA v)->(l.map (·.2)).filterMap (λi=>es[i]?)=l.map λp=>es.getD p.2 (0,cf):=by
   intro l;induction l with
   |nil=>intro _;rfl
   |cons p l ih=>intro h;obtain⟨v,hv⟩:=h p ah;have hv2:=f7.mp hv;rw[av,List.filterMap_cons_some hv,ih λq hq=>h q (ar _ hq),av];congr 1;simp only[Array.getD,hv2.1,↓reduceDIte];exact hv2.2.symm
  have el:(((live.map (·.2)).toArray.filterMap λi=>es[i]?).toList.map λ(e:Int×aj)=>e.1)=live.map λp=>(es.getD p.2 (0,cf)).1:=by rw[Array.toList_filterMap,List.toList_toArray,fm live ge,bx];rfl
  rw[el];refine⟨rfl,hm,by simpa using rise,λj hj=>?_,?_,?_,λe he=>?_⟩
  ·exact l.le j ((pmem j).mp (by simpa using hj))
  ·simp
  ·rw[ao,plen];exact hl
  ·have:e∈(live.map λp=>(es.getD p.2 (0,cf)).1).zip (live.map (·.1)):=by simpa using he
   rw[List.zip_map']at this;obtain⟨⟨j,k⟩,hp,rfl⟩:=a6.mp this;obtain⟨hj,hk⟩:=(mem j k).mp hp;have hkl:=(ax.mp hk).1;have hke:k<es.size:=by omega
   have hz:((es.getD k (0,cf)).1,j)∈(es.map (·.1)).toList.zip js:=by rw[List.mem_iff_getElem?];refine⟨k,?_⟩;rw[List.getElem?_zip_eq_some];refine⟨?_,hk⟩;simp[hke,Array.getD]
   have lk:=l.look _ hz;show Lk m _ _ _;refine lk.mono λx hx=>?_;have:=(pmem x).mpr hx;simpa using this
end TT
namespace TT
open PySem PySem.SetTable PySem.Spec PyProof.Rows SX L2
section
variable{prog:bu}{w:ck}{A:cj}{E:aj->am->Prop}{s:am}
theorem Dv(n:Nat){v:aj}(h:carriedByValue v=aC):ofAClassStatement n v=pure aD:=by
 cases v with
 |ref a=>simp[carriedByValue]at h
 |_=>first|rfl| (unfold ofAClassStatement;rfl)
theorem Pz{m:Nat}{ks:List Key}{a:ak}{Q:Bool->am->Prop}(hk:IsTupleKey (Zk prog w) s.heap ks a)(h:Q aD s):ba (bp prog w) A (ofAClassStatement (m+1) (.ref a)) Q E s:=by
 have hT:=hk.typeIs;obtain⟨o,items,n,ho,_,hd,hi⟩:=hk;unfold ofAClassStatement;refine ad (wpAny_typeOf hT ?_);dsimp only;rw[if_pos (by decide)];refine ad (ag ?_);simp only[du,bg,if_false];refine ad (wpAny_seqItems ho hd ?_);dsimp only;refine ad ?_;rw[<-Array.forIn_toList];refine wpAny_forIn_list _ (λrest r s'=>r.1=aB/\s'=s/\∀v∈rest,carriedByValue v=aC) _ ?_ ?_ _ _ ⟨rfl,rfl,hi.byValue⟩
 ·rintro v rest r s' ⟨hr,rfl,hall⟩;rw[Dv _ (hall v ah)];refine ad (ag ?_);simp only[bg,if_false];exact ag ⟨rfl,rfl,λu hu'=>hall u (ar _ hu')⟩
 ·rintro⟨r1,r2⟩ s' ⟨hr,rfl,_⟩;simp only at hr;subst hr;exact ag h
theorem Zlf{k:Zj}{a:ak}{Q:Bool->am->Prop}(hk:Uv prog w s.heap k a)(h:Q aD s):ba (bp prog w) A (ofAClassStatement 8 (.ref a)) Q E s:=by
 cases k with
 |inl l=>exact Pz hk h
 |inr p=>have hT:=hk.typeIs;obtain⟨n,l⟩:=p;obtain⟨o,items,m,t,b,ho,_,hd,hi,hb⟩:=hk;unfold ofAClassStatement;refine ad (wpAny_typeOf hT ?_);dsimp only;rw[if_pos (by decide)];refine ad (ag ?_);simp only[du,bg,if_false];refine ad (wpAny_seqItems ho hd ?_);dsimp only;refine ad ?_;rw[<-Array.forIn_toList,hi];simp only[List.forIn_cons,List.forIn_nil];rw[Dv _ (v:=Value.int n t) rfl];refine ad (ad (ag ?_));simp only[bg,if_false];refine ag ?_;dsimp only;refine ad (ad (Pz hb ?_));simp only[bg,if_false];exact ag (ag (ag h))
theorem Zi4(n:Nat){v:aj}(h:carriedByValue v=aC):∃b,hashByValue n v=pure b:=by
 cases v with
 |ref a=>simp[carriedByValue]at h
 |_=>unfold hashByValue;exact⟨_,rfl⟩
theorem P0{m:Nat}{ks:List Key}{a:ak}{Q:Bool->am->Prop}(hk:IsTupleKey (Zk prog w) s.heap ks a)(h:∀b,Q b s):ba (bp prog w) A (hashByValue (m+1) (.ref a)) Q E s:=by
 have hT:=hk.typeIs;obtain⟨o,items,n,ho,_,hd,hi⟩:=hk;unfold hashByValue;refine ad (wpAny_specialOf hT F.slot_tuple_hash.lookup ?_);refine ad (wpAny_seqItems ho hd ?_);refine ad ?_;show ba _ _ (forIn items _ _) _ _ s;rw[<-Array.forIn_toList];refine wpAny_forIn_list _ (λrest r s'=>r.1=aB/\s'=s/\∀v∈rest,carriedByValue v=aC) _ ?_ ?_ _ _ ⟨rfl,rfl,hi.byValue⟩
 ·rintro v rest r s' ⟨hr,rfl,hall⟩;obtain⟨b,hb⟩:=Zi4 m (hall v ah);rw[hb];refine ad (ag ?_);cases b with
  |true=>simp only[du,bg,if_false];exact ag ⟨rfl,rfl,λu hu'=>hall u (ar _ hu')⟩
  |false=>simp only[Bool.not_false,if_true];exact ag (ag (h _))
 ·rintro⟨r1,r2⟩ s' ⟨hr,rfl,_⟩;simp only at hr;subst hr;exact ag (h _)
theorem Zr7{k:Zj}{a:ak}{Q:Bool->am->Prop}(hk:Uv prog w s.heap k a)(h:∀b,Q b s):ba (bp prog w) A (hashByValue 8 (.ref a)) Q E s:=by
 cases k with
 |inl l=>exact P0 hk h
 |inr p=>
  have hT:=hk.typeIs;obtain⟨n,l⟩:=p;obtain⟨o,items,m,t,b,ho,_,hd,hi,hb⟩:=hk;unfold hashByValue;refine ad (wpAny_specialOf hT F.slot_tuple_hash.lookup ?_);refine ad (wpAny_seqItems ho hd ?_);refine ad ?_;show ba _ _ (forIn items _ _) _ _ s;rw[<-Array.forIn_toList,hi];simp only[List.forIn_cons,List.forIn_nil];have e:hashByValue 7 (Value.int n t)=pure aC:=by unfold hashByValue;rfl
  rw[e];refine ad (ad (ag ?_));simp only[du,bg,if_false];refine ag ?_;dsimp only;refine ad (ad (P0 hb λbb=>?_));cases bb with
  |true=>simp only[du,bg,if_false];exact ag (ag (ag (h _)))
  |false=>simp only[Bool.not_false,if_true];exact ag (ag (ag (h _)))
theorem Znx{k:Zj}{a:ak}{Q:Bool->am->Prop}(hk:Uv prog w s.heap k a){ys:List aj}(hy:∀v∈ys,∃k' b,v= .ref b/\Uv prog w s.heap k' b)(h:Q aD s):ba (bp prog w) A (searchCouldBeSeen (.ref a) ys) Q E s:=by
 unfold searchCouldBeSeen;refine ad ?_;refine wpAny_forIn_list _ (λrest r s'=>r.1=aB/\s'=s/\∀v∈rest,∃k' b,v= .ref b/\Uv prog w s.heap k' b) _ ?_ ?_ _ _ ⟨rfl,rfl,hy⟩
 ·rintro v rest r s' ⟨hr,rfl,hall⟩;obtain⟨k',b,rfl,hb⟩:=hall v ah;have go:∀u∈rest,∃k' b,u= .ref b/\Uv prog w s'.heap k' b:=λu hu=>hall u (ar _ hu);dsimp only;by_cases hab:(a==b|| (carriedByValue (.ref a)&&carriedByValue (.ref b)))=aC
  ·rw[if_pos hab];exact ag ⟨rfl,rfl,go⟩
  ·rw[if_neg hab];refine ad (Ke hk ?_);simp only[du,bg,if_false];refine ad (Ke hb ?_);simp only[du,bg,if_false];refine ad (Zlf hk ?_);simp only[bg,if_false];refine ad (Zlf hb ?_);simp only[bg,if_false];exact ag ⟨rfl,rfl,go⟩
 ·rintro⟨r1,r2⟩ s' ⟨hr,rfl,_⟩;simp only at hr;subst hr;exact ag h
theorem Zbr{α:Type}{c:Prop}[Decidable c]{m:Sem Bool}{X K:Sem α}{Q:α->am->Prop}(hm:∀Q':Bool->am->Prop,Q' aD s->ba (bp prog w) A m Q' E s)(hK:ba (bp prog w) A K Q E s):
  ba (bp prog w) A (if c then m >>=λr=>if r=aC then X else K else K) Q E s:=by
 split
 ·refine ad (hm _ ?_);simp only[bg,if_false];exact hK
 ·exact hK
abbrev ent(prog:bu)(w:ck)(z:Zj×ak):Int×Value:=(Ya prog w z.1,bv z.2)
variable{a b:ak}{o:Obj}{es:Array (Int×aj)}{ep:Nat}{t:gn}{zs:List (Zj×ak)}{k:Zj}
theorem Zfd(he:es.toList=zs.map (ent prog w))(i:Nat):es[i]? =(zs[i]?).map (ent prog w):=by rw[<-b5,he,bf]
theorem Zny(he:es.toList=zs.map (ent prog w))(tb:Tb t (es.toList.map (·.1))){i:Nat}{z:Zj×ak}(hz:zs[i]? =aA z):∃n,t.slot (sq t.mask (Ya prog w z.1) n)= .live i/\∀k,k<n->t.slot (sq t.mask (Ya prog w z.1) k)≠.empty:=by
 have hl:zs.length=t.place.toList.length:=by rw[tb.len,he,ao,ao]
 have hi:i<zs.length:=(ax.mp hz).1;have hp:t.place.toList[i]? =aA (t.place.toList[i]'(by omega)):=az _;have hh:(es.toList.map (·.1))[i]? =aA (Ya prog w z.1):=by rw[he,bf,bf,hz];rfl
 obtain⟨n,e1,e2⟩:=tb.look (Ya prog w z.1,t.place.toList[i]'(by omega)) (List.mem_iff_getElem?.mpr ⟨i,List.getElem?_zip_eq_some.mpr ⟨hh,hp⟩⟩);refine⟨n,?_,λk hk=>?_⟩
 ·refine Mc tb.rise ?_;rw[<-b5,hp];exact congrArg aA e1.symm
 ·have:=e2 k hk;intro z;exact Dr tb.rise z this
theorem Dw(hu:A.units+1<dw)(hk:Uv prog w s.heap k b)(ho:s.heap.get? a=aA o)(hd:o.data= .set es ep t)(he:es.toList=zs.map (ent prog w))(his:∀z∈zs,Uv prog w s.heap z.1 z.2)(tb:Tb t (es.toList.map (·.1))){N:Nat}(hN:N<10*turns t.mask)(hE:t.slot (sq t.mask (Ya prog w k) N)= .empty){Q:SetFound->am->Prop}
  (hfound:k∈zs.map (·.1)->∀r,Q (.there r) s) (hfree:∀n,k∉zs.map (·.1)->t.slot (sq t.mask (Ya prog w k) n)= .empty->(∀j,j<n->t.slot (sq t.mask (Ya prog w k) j)≠.empty)->Q (.free (sq t.mask (Ya prog w k) n) aD) s):
  ∀(fuel n:Nat) (st:Option Probe),st.getD (t.probeStart (Ya prog w k))=Wi t.mask n (Qt t.mask (Ya prog w k))->n<=N->N<n+fuel->(∀j,j<n->∃i z,t.slot (sq t.mask (Ya prog w k) j)= .live i/\zs[i]? =aA z/\z.1≠k)->
   ba (bp prog w) A (setSearchFrom a (.ref b) (Ya prog w k) aC fuel st) Q E s
 |0,n,st,_,h1,h2,_=>by omega
 |fuel+1,n,st,hst,h1,h2,hb=>by
  have hfit:t.fits es.size=aC:=tb.fits (by simp);unfold setSearchFrom;refine ad (wpAny_setState_of ho hd hfit ?_);dsimp only;rw[tb.gave];simp only[bg,if_false];rw[hst];have hj:∀j,(Wi t.mask j (Wi t.mask n (Qt t.mask (Ya prog w k)))).j=sq t.mask (Ya prog w k) (n+j):=λj=>by rw[<-Qg]
  unfold SetTable.probe;rcases Ds tb.dum (λi=>(es[i]?.map (·.1)).getD 0) (Ya prog w k) (10*turns t.mask) (Wi t.mask n (Qt t.mask (Ya prog w k))) ((Px _ _ _).trans rfl) ⟨N- n,by omega,by rw[hj,show n+(N- n)=N by omega];exact hE⟩with⟨m,g1,g2,g3,g4⟩|⟨m,i,g1,g2,g3,g4,g5⟩
  ·have key:∀f:Nat->Int,f=(λi=>(es[i]?.map (·.1)).getD 0)->SetTable.probe.go t f (Ya prog w k) (10*turns t.mask) (Wi t.mask n (Qt t.mask (Ya prog w k)))=aA (.empty (Wi t.mask m (Wi t.mask n (Qt t.mask (Ya prog w k)))).j aB):=λf hf=>by rw[hf];exact g2
   rw[key]
   case a=>rfl
   dsimp only;rw[hj]at g3⊢;refine ag (hfree (n+m) ?_ g3 λj hjm=>?_)
   ·intro hin;obtain⟨z,hz,ez⟩:=a6.mp hin;obtain⟨i0,hi0,e0⟩:=dz hz;have hz0:zs[i0]? =aA z:=ax.mpr ⟨hi0,e0⟩;obtain⟨n0,q1,q2⟩:=Zny he tb hz0;rw[ez]at q1 q2;rcases Nat.lt_trichotomy n0 (n+m)with c|c|c
    ·rcases gx n0 n with c'|c'
     ·obtain⟨i,z',w1,w2,w3⟩:=hb n0 c';rw[q1]at w1;cases w1;rw[hz0]at w2;cases w2;exact w3 ez
     ·obtain⟨i,w1,w2⟩:=g4 (n0- n) (by omega);rw[hj,show n+(n0- n)=n0 by omega,q1]at w1;cases w1;apply w2;show(es[i0]?.map (·.1)).getD 0=_;rw[Zfd he,hz0,<-ez];rfl
    ·rw[<-c,q1]at g3;cases g3
    ·exact q2 _ c g3
   ·rcases gx j n with c|c
    ·obtain⟨i,z',w1,_⟩:=hb j c;rw[w1];exact λz=>nomatch z
    ·obtain⟨i,w1,_⟩:=g4 (j- n) (by omega);rw[hj,show n+(j- n)=j by omega]at w1;rw[w1];exact λz=>nomatch z
  ·have key:∀f:Nat->Int,f=(λi=>(es[i]?.map (·.1)).getD 0)->SetTable.probe.go t f (Ya prog w k) (10*turns t.mask) (Wi t.mask n (Qt t.mask (Ya prog w k)))=aA (.candidate (Wi t.mask m (Wi t.mask n (Qt t.mask (Ya prog w k)))).j i (Wi t.mask (m+1) (Wi t.mask n (Qt t.mask (Ya prog w k))))):=λf hf=>by rw[hf];exact g2
   rw[key]
   case a=>rfl
   dsimp only;have hp:=Lv g3;have hil:i<zs.length:=by have:=(f7.mp hp).1;have l:=tb.len;rw[he,ao,ao,aw]at l;omega
   have hz0:zs[i]? =aA zs[i]:=az hil;have hzi:=his zs[i] (List.getElem_mem hil);generalize zs[i]=z at hz0 hzi;have hes:es[i]? =aA (Ya prog w z.1,bv z.2):=by rw[Zfd he,hz0];rfl
   refine Zbr (λQ' q=>Znx hk (λv hv=>?_) q) ?_
   ·obtain⟨e,hem,rfl⟩:=a6.mp hv;have:e∈es.toList:=by have:=Array.mem_toList_iff.mp hem;exact Array.mem_toList_iff.mpr (Array.mem_filter.mp this).1
    rw[he]at this;obtain⟨z',hz',rfl⟩:=a6.mp this;exact⟨z'.1,z'.2,rfl,his z' hz'⟩
   rw[hes];dsimp only;refine ad (f9 (Zo1 hu hzi hk ?_));refine ad (wpAny_setState_of ho hd hfit ?_);dsimp only;by_cases hzk:z.1=k
   ·rw[decide_eq_true hzk];simp only[Bool.and_self,if_true];exact ag (hfound (a6.mpr ⟨z,cz hz0,hzk⟩) _)
   ·rw[decide_eq_false hzk];simp only[Bool.and_false,bg,if_false];have hsm:t.sameMemory t.moves t.mask=aA aC:=by unfold SetTable.sameMemory;simp
    rw[hsm];simp only[if_true];rw[g3];dsimp only;rw[hes];dsimp only;refine ad (wpAny_isSame_ref_self ?_);simp only[if_true];refine ad (ag ?_);dsimp only;have hNle:n+m+1<=N:=by
     have:¬N<=n+m:=λc=>by
      rcases Nat.lt_or_eq_of_le c with c|c
      ·rcases gx N n with c'|c'
       ·omega
       ·obtain⟨i',w1,_⟩:=g5 (N- n) (by omega);rw[hj,show n+(N- n)=N by omega,hE]at w1;cases w1
      ·rw[hj,<-c,hE]at g3;cases g3
     omega
    refine Dw hu hk ho hd he his tb hN hE hfound hfree fuel (n+m+1) _ ?_ hNle (by omega) λj hjm=>?_
    ·show Wi t.mask (m+1) (Wi t.mask n (Qt t.mask (Ya prog w k)))=_;rw[<-Qg,<-Nat.add_assoc]
    ·rcases gx j n with c|c
     ·exact hb j c
     ·rcases gx j (n+m)with c'|c'
      ·obtain⟨i',w1,w2⟩:=g5 (j- n) (by omega);rw[hj,show n+(j- n)=j by omega]at w1;have hp':=Lv w1;have hil':i'<zs.length:=by have:=(f7.mp hp').1;have l:=tb.len;rw[he,ao,ao,aw]at l;omega
       refine⟨i',zs[i'],w1,az hil',λzz=>w2 ?_⟩;show(es[i']?.map (·.1)).getD 0=_;rw[Zfd he,az hil',<-zz];rfl
      ·have:j=n+m:=by omega
       subst this;rw[hj]at g3;exact⟨i,z,g3,hz0,hzk⟩
end
end TT
namespace TT
open PySem PySem.SetTable PySem.Spec PyProof.Rows SX L2
def M4(prog:bu)(w:ck)(B:Bool)(h:dq)(o:Obj)(xs:List (Zj×ak)):Prop:=
 ∃(es:Array (Int×aj)) (ep:Nat) (t:gn) (zs:List (Zj×ak)),o.ExactSet/\o.data= .set es ep t/\es.toList=zs.map (ent prog w)/\zs.Perm xs/\(xs.map (·.1)).Nodup/\(∀z∈xs,Uv prog w h z.1 z.2)/\Tb t (es.toList.map (·.1))/\t.led= !B/\es.size*5<t.mask*3
def Ge(xs:List (Zj×ak))(k:Zj)(b:ak):List (Zj×ak):=if(xs.any λz=>decide (z.1=k))=aC then xs else xs++[(k,b)]
theorem G6{xs:List (Zj×ak)}{k:Zj}:(xs.any λz=>decide (z.1=k))=aC↔k∈xs.map (·.1):=by
 rw[List.any_eq_true,a6];constructor
 ·rintro⟨z,hz,e⟩;exact⟨z,hz,of_decide_eq_true e⟩
 ·rintro⟨z,hz,e⟩;exact⟨z,hz,decide_eq_true e⟩
section
variable{prog:bu}{w:ck}{A:cj}{E:aj->am->Prop}{s:am}
theorem Uv.but{h h':dq}{k:Zj}{a d:ak}{o:Obj}{es:Array (Int×aj)}{ep:Nat}{t:gn}(x:Uv prog w h k a)(ho:h.get? d=aA o)(hd:o.data= .set es ep t)(hs:∀b u,b≠d->h.get? b=aA u->h'.get? b=aA u):Uv prog w h' k a:=by
 have ne:∀{c:ak} {u:Obj} {its n},h.get? c=aA u->u.data= .seq its n->c≠d:=fun{c u its n} e1 e2 z=>by subst z;rw[ho]at e1;cases e1;rw[hd]at e2;cases e2
 cases k with
 |inl l=>obtain⟨u,its,n,e,c,d',r⟩:=x;exact⟨u,its,n,hs _ _ (ne e d') e,c,d',r⟩
 |inr p=>obtain⟨u,its,n,tt,b,e,c,d',ei,⟨u2,i2,n2,e2,c2,d2,r2⟩⟩:=x;exact⟨u,its,n,tt,b,hs _ _ (ne e d') e,c,d',ei,u2,i2,n2,hs _ _ (ne e2 d2) e2,c2,d2,r2⟩
theorem Rh{α β:Type}{f:α->β}{l:List β}{m:List β}(p:l.Perm m):∀zs:List α,m=zs.map f->∃l':List α,l'.Perm zs/\l=l'.map f:=by
 induction p with
 |nil=>intro zs e;cases zs with
  |nil=>exact⟨[],List.Perm.nil,rfl⟩
  |cons z zs=>cases e
 | @cons x l1 l2 _ ih=>intro zs e;cases zs with
  |nil=>cases e
  |cons z zs=>injection e with e1 e2;obtain⟨l',p',e'⟩:=ih zs e2;exact⟨z::l',p'.cons z,by rw[av,e1,e']⟩
 |swap x y l=>intro zs e;cases zs with
  |nil=>cases e
  |cons z zs=>cases zs with
   |nil=>cases e
   |cons z2 zs=>injection e with e1 e2;injection e2 with e2 e3;exact⟨z2::z::zs,List.Perm.swap z z2 zs,by rw[av,av,e1,e2,e3]⟩
 |trans _ _ ih1 ih2=>intro zs e;obtain⟨l2,p2,e2⟩:=ih2 zs e;obtain⟨l3,p3,e3⟩:=ih1 l2 e2;exact⟨l3,p3.trans p2,e3⟩
theorem Zwn{B:Bool}{a b:ak}{o:Obj}{xs:List (Zj×ak)}{k:Zj}{Q:Bool->am->Prop}(hu:A.units+1<dw)(ho:s.heap.get? a=aA o)(hO:M4 prog w B s.heap o xs)(hk:Uv prog w s.heap k b)(hr:xs.length+1<=76)
  (h:∀h' o' r,g7 a s.heap h'->h'.get? a=aA o'->M4 prog w B h' o' (Ge xs k b)->Q r {s with heap:=h'}):
  ba (bp prog w) A (setAddHashed a (.ref b) (Ya prog w k)) Q E s:=by
 obtain⟨es,ep,t,zs,hx,hd,he,pm,nd,his,tb,hled,hroom⟩:=hO;have hisz:∀z∈zs,Uv prog w s.heap z.1 z.2:=λz hz=>his z (pm.mem_iff.mp hz);have hfit:t.fits es.size=aC:=tb.fits (by simp);have zl:zs.length=es.size:=by rw[<-aw,he,ao]
 have xl:xs.length=es.size:=by rw[<-pm.length_eq,zl]
 have kz:k∈zs.map (·.1)↔k∈xs.map (·.1):=(pm.map _).mem_iff;unfold setAddHashed;refine f9 ?_;unfold setAddHashedIn;refine ad (wpAny_setState_of ho hd hfit ?_);dsimp only;rw[show byScan (bv b) es=aD from rfl];simp only[bg,if_false];obtain⟨N,hN,hE⟩:=tb.empty (Ya prog w k);unfold setSearch;have hmask:t.mask<=127:=by rcases tb.msk with e|e|e<;> omega
 refine ad (Dw hu hk ho hd he hisz tb hN hE (λhin r=>?_) (λn hni hEn hbn=>?_) 100000 0 aB rfl (dn _) (by unfold turns at hN;omega) (λj hj=>absurd hj (fj _)))
 ·dsimp only;refine ag ?_;refine h s.heap o aD (Heap.SameBut.refl a s.heap) ho ?_;unfold Ge;rw[if_pos (G6.mpr (kz.mp hin))];exact⟨es,ep,t,zs,hx,hd,he,pm,nd,his,tb,hled,hroom⟩
 ·dsimp only;have hni':k∉xs.map (·.1):=λz=>hni (kz.mpr z);refine ad (wpAny_setState_of ho hd hfit ?_);dsimp only;have hcase:es.size+1<=t.mask:=by rcases tb.msk with e|e|e<;> omega
  have tb1:=tb.put (Ya prog w k) hEn hbn (by rw[ao,aw];exact hcase);have hput:(t.put (sq t.mask (Ya prog w k) n)).2=below t.place (sq t.mask (Ya prog w k) n):=rfl;have hmk:(t.put (sq t.mask (Ya prog w k) n)).1.mask=t.mask:=rfl;have hld:(t.put (sq t.mask (Ya prog w k) n)).1.led=t.led:=rfl;rw[hput];generalize below t.place (sq t.mask (Ya prog w k) n)=p at tb1⊢;generalize (t.put (sq t.mask (Ya prog w k) n)).1=t1 at tb1 hmk hld⊢;have he1:(insertAt es p (Ya prog w k,bv b)).toList=(zs.take p++(k,b)::zs.drop p).map (ent prog w):=by rw[SetTable.toList_insertAt,he,cq,av,List.map_take,List.map_drop]
  have hh1:(insertAt es p (Ya prog w k,bv b)).toList.map (·.1)=(es.toList.map (·.1)).take p++Ya prog w k::(es.toList.map (·.1)).drop p:=by rw[SetTable.toList_insertAt,cq,av,List.map_take,List.map_drop]
  have sz1:(insertAt es p (Ya prog w k,bv b)).size=es.size+1:=by rw[<-aw,SetTable.toList_insertAt,bj,bn,gm,List.length_drop,aw];omega
  rw[<-hh1]at tb1;have pm1:(zs.take p++(k,b)::zs.drop p).Perm (xs++[(k,b)]):=by refine List.perm_middle.trans ?_;rw[List.take_append_drop];exact(pm.cons _).trans (List.perm_append_singleton _ _).symm
  have Er:((xs++[(k,b)]).map (·.1)).Nodup:=by rw[cq,di];refine⟨nd,by simp,λx hx y hy=>?_⟩;simp only[av,List.map_nil,au]at hy;subst hy;exact λz=>hni' (z▸hx)
  generalize insertAt es p (Ya prog w k,bv b)=es1 at he1 tb1 sz1⊢;generalize zs.take p++(k,b)::zs.drop p=zs1 at he1 pm1;have hfin:∀h' o' r,g7 a s.heap h'->h'.get? a=aA o'->M4 prog w B h' o' (xs++[(k,b)])->Q r {s with heap:=h'}:=λh' o' r x y z=>h h' o' r x y (by unfold Ge;rw[if_neg λy=>hni' (G6.mp y)];exact z);have his1:∀h',g7 a s.heap h'->∀z∈xs++[(k,b)],Uv prog w h' z.1 z.2:=λh' sb z hz=>by
   have hold:Uv prog w s.heap z.1 z.2:=by
    rcases cn.mp hz with q|q
    ·exact his z q
    ·rw[au.mp q];exact hk
   exact Uv.but hold ho hd λc u hc e=>(sb.2 c hc).trans e
  have tail:∀(t2:gn),Tb t2 (es1.toList.map (·.1))->t2.mask=t.mask->t2.led=t.led->ba (bp prog w) A (do
    storeSet a es1 t2
    if(!aD&&t2.tooFull)=aC then do
     setRelay a (grown (es.size+1))
     pure aC
    else pure aC) Q E s:=λt2 tb2 m2 l2=>by
   refine ad (wpAny_storeSet_of ho hd ?_ (by rw[sz1,dr];omega));have o1:(s.heap.update a (Obj.putSet es1 t2)).get? a=aA {o with data:=.set es1 (ep+1) t2}:=by have z:=Heap.get?_update_self (Obj.putSet es1 t2) ho (by rw[putSet_of es1 t2 hd];rfl);rw[putSet_of es1 t2 hd]at z;exact z
   have b1:=Heap.SameBut.update s.heap a (Obj.putSet es1 t2);have fl:t2.fill=es.size+1:=by unfold SetTable.fill;have:=tb2.len;rw[ao,aw,aw]at this;rw[tb2.dum,this,sz1];rfl
   by_cases hf:t2.tooFull=aC
   ·rw[if_pos (by rw[hf];rfl)];have hge:(es.size+1)*5>=t.mask*3:=by unfold SetTable.tooFull at hf;rw[fl,m2]at hf;exact of_decide_eq_true hf
    have hS:Msk (sizeAbove (grown (es.size+1))- 1)/\es1.size<=sizeAbove (grown (es.size+1))- 1/\es1.size*5<(sizeAbove (grown (es.size+1))- 1)*3/\sizeAbove (grown (es.size+1))<=128:=by
     rw[sz1];rcases tb.msk with e|e|e
     ·have:es.size=4:=by omega
      rw[this];exact⟨.inr (.inl (by decide)),by decide,by decide,by decide⟩
     ·have:es.size=18:=by omega
      rw[this];exact⟨.inr (.inr (by decide)),by decide,by decide,by decide⟩
     ·omega
    refine ad ?_;unfold setRelay;refine ad (wpAny_setState_of (s:={s with heap:=s.heap.update a (Obj.putSet es1 t2)}) o1 rfl (tb2.fits (by simp)) ?_);dsimp only;rw[if_neg (by rw[dr];have:=hS.2.2.2;omega)];obtain⟨t3,order,q1,q2,q3,q4⟩:=Zbq (t:=t2) (es:=es1) hS.1 hS.2.1;have q1':t2.relaid (es1.map (·.1)) (grown (es.size+1))=aA (t3,order):=q1;rw[q1'];have hmk3:t3.mask=sizeAbove (grown (es.size+1))- 1:=by unfold SetTable.relaid SetTable.laid at q1;obtain⟨ow,_,z⟩:=aa.mp q1;cases z;rfl
    have sz3:(order.filterMap λi=>es1[i]?).size=es1.size:=by rw[<-aw,q3.length_eq,aw]
    refine ad ?_;show ba _ _ (if((order.filterMap λi=>es1[i]?).size !=es1.size)=aC then _ else _) _ _ _;rw[if_neg (by rw[sz3];simp)];refine ag ?_;dsimp only;refine wpAny_storeSet_of (s:={s with heap:=s.heap.update a (Obj.putSet es1 t2)}) o1 rfl ?_ (by rw[sz3,sz1,dr];omega);have o2:=Heap.get?_update_self (Obj.putSet (order.filterMap λi=>es1[i]?) t3) o1 (by rw[putSet_of _ t3 rfl];rfl);rw[putSet_of _ t3 rfl]at o2;have b2:=b1.trans (Heap.SameBut.update _ a (Obj.putSet (order.filterMap λi=>es1[i]?) t3));generalize (order.filterMap λi=>es1[i]?)=es3 at q3 q4 sz3 o2 b2⊢;have he3:∃zs3:List (Zj×ak),es3.toList=zs3.map (ent prog w)/\zs3.Perm zs1:=by rw[he1]at q3;obtain⟨l3,r1,r2⟩:=Rh q3 zs1 rfl;exact⟨l3,r2,r1⟩
    obtain⟨zs3,r1,r2⟩:=he3;refine ag (hfin _ _ aC b2 o2 ⟨es3,_,t3,zs3,hx,rfl,r1,r2.trans pm1,Er,his1 _ b2,q4,by rw[q2,l2];exact hled,?_⟩);rw[sz3,hmk3];exact hS.2.2.1
   ·rw[if_neg (by simpa using hf)];refine ag (hfin _ _ aC b1 o1 ⟨es1,_,t2,zs1,hx,rfl,he1,pm1,Er,his1 _ b1,tb2,by rw[l2];exact hled,?_⟩);unfold SetTable.tooFull at hf;rw[fl,m2]at hf;rw[sz1,m2];have:¬(es.size+1)*5>=t.mask*3:=λz=>hf (decide_eq_true z);omega
  by_cases hpl:t1.plain=aC
  ·rw[if_pos hpl];refine ad (Zr7 hk λbb=>?_);cases bb with
   |true=>exact tail t1 tb1 hmk hld
   |false=>exact tail {t1 with plain:=aD} tb1.plainOff hmk hld
  ·rw[if_neg hpl];refine ad (ag ?_);exact tail t1 tb1 hmk hld
end
end TT
namespace TT
open PySem PySem.SetTable PySem.Spec PyProof.Rows SX L2
def E3(ys:List (Zj×ak)):List (Zj×ak):=ys.foldl (λacc y=>Ge acc y.1 y.2) []
theorem Zfe(xs:List (Zj×ak))(k:Zj)(b:ak):(Ge xs k b).length<=xs.length+1:=by
 unfold Ge;split
 ·omega
 ·simp
theorem Zff{xs:List (Zj×ak)}{k:Zj}{b:ak}{z:Zj×ak}(h:z∈Ge xs k b):z∈xs\/z=(k,b):=by
 unfold Ge at h;split at h
 ·exact .inl h
 ·rcases cn.mp h with q|q
  ·exact .inl q
  ·exact .inr (au.mp q)
theorem Zfg{ys:List (Zj×ak)}{i:Nat}{y:Zj×ak}(h:ys[i]? =aA y):E3 (ys.take (i+1))=Ge (E3 (ys.take i)) y.1 y.2:=by unfold E3;rw[List.take_add_one,h];simp
theorem Mq:∀(ys acc:List (Zj×ak)),(ys.foldl (λacc y=>Ge acc y.1 y.2) acc).length<=acc.length+ys.length
 | [],acc=>by simp
 |y::ys,acc=>by rw[List.foldl_cons];have h1:=Mq ys (Ge acc y.1 y.2);have h2:=Zfe acc y.1 y.2;rw[bn];omega
theorem Zi5(ys:List (Zj×ak)):(E3 ys).length<=ys.length:=by have:=Mq ys [];simpa[E3]using this
theorem Mr:∀(ys acc:List (Zj×ak)) (z:Zj×ak),z∈ys.foldl (λacc y=>Ge acc y.1 y.2) acc->z∈acc\/z∈ys
 | [],acc,z,h=>.inl h
 |y::ys,acc,z,h=>by
  rw[List.foldl_cons]at h;rcases Mr ys _ z h with q|q
  ·rcases Zff q with r|r
   ·exact .inl r
   ·exact .inr (by rw[r];exact ah)
  ·exact .inr (ar _ q)
theorem Lw{ys:List (Zj×ak)}{z:Zj×ak}(h:z∈E3 ys):z∈ys:=by
 rcases Mr ys [] z h with q|q
 ·exact nomatch q
 ·exact q
theorem M4.re{prog:bu}{w:ck}{B:Bool}{h h':dq}{o:Obj}{xs:List (Zj×ak)}(x:M4 prog w B h o xs)(hk:∀z∈xs,Uv prog w h' z.1 z.2):M4 prog w B h' o xs:=by obtain⟨es,ep,t,zs,a,b,c,d,e,_,f⟩:=x;exact⟨es,ep,t,zs,a,b,c,d,e,hk,f⟩
def Kpt(h0 h:dq):Prop:=∀b o,h0.get? b=aA o->h.get? b=aA o
section
variable{prog:bu}{w:ck}{A:cj}{R:Result->am->Prop}{I:ak}{fp wr:List ak}{G:Array GenState->Array GenState->Prop}{n:Nat}{P:Nat->aj->Prop}{St:Nat->am->Prop}
theorem Zr8{B:Bool}(W:WalksS prog w A.in1 I fp wr G n P St)(S:ak)(hS:S∉fp)(hu:A.in1.units+1<dw){h0:dq}(hS0:h0.get? S=aB)(hw0:∀b∈wr,h0.get? b=aB)(ys:List (Zj×ak))(hl:ys.length=n)(hv:∀i v,P i v->∃y,ys[i]? =aA y/\v= .ref y.2)(hys:∀y∈ys,Uv prog w h0 y.1 y.2)(hb:n<=75):
  ∀(m i:Nat) (s:am) (o:Obj),i+m=n->St i s->Kpt h0 s.heap->s.heap.get? S=aA o->M4 prog w B s.heap o (E3 (ys.take i))->
  (∀s' o',Moved (S::wr) G s s'->Kpt h0 s'.heap->s'.heap.get? S=aA o'->M4 prog w B s'.heap o' (E3 ys)->R (.ok (.ret .none)) s')->codeAny (bp prog w) A (.builtin "set.update.loop" ⟨[.ref S,.ref I],[]⟩) R s:=by
 have nw:S∉wr:=λz=>hS (W.sub _ z);have up:∀b∈wr,b∈S::wr:=λ_ z=>ar _ z;have kz:∀{l:List (Zj×ak)} {h:dq},Kpt h0 h->(∀z∈l,z∈ys)->∀z∈E3 l,Uv prog w h z.1 z.2:=fun{l h} kp hl z hz=>(hys z (hl z (Lw hz))).mono kp;have tk:∀i,∀z∈ys.take i,z∈ys:=λi z hz=>List.mem_of_mem_take hz;intro m;induction m with
 |zero=>intro i s o hi st kp ho hO hR;obtain rfl:i=n:=hi;refine gr PyProof.Rows.F.entry_set_update_loop ?_;rw[d7 PyProof.Rows.F.plain_set_update_loop _];show ba _ A.in1 (pyNext (.ref I) >>=_) _ _ s;refine ad (W.done s _ _ st λs' mv=>?_);have kp':Kpt h0 s'.heap:=λb x e=>mv.heap b x (λz=>by rw[hw0 b z]at e;cases e) (kp b x e);rw[<-hl,List.take_length]at hO;exact ag (hR s' o (mv.mono up) kp' (mv.heap S _ nw ho) (hO.re (kz kp' λ_ z=>z)))
 |succ m ih=>
  intro i s o hi st kp ho hO hR;have hlt:i<n:=by omega
  refine gr PyProof.Rows.F.entry_set_update_loop ?_;rw[d7 PyProof.Rows.F.plain_set_update_loop _];show ba _ A.in1 (pyNext (.ref I) >>=_) _ _ s;refine ad (W.item i s _ _ hlt st λv s1 pv st1 mv=>?_);obtain⟨y,hy,rfl⟩:=hv i v pv;have ho1:=mv.heap S _ nw ho;have kp1:Kpt h0 s1.heap:=λb x e=>mv.heap b x (λz=>by rw[hw0 b z]at e;cases e) (kp b x e);have hny:Uv prog w s1.heap y.1 y.2:=(hys y (cz hy)).mono kp1;show ba _ A.in1 (holding [bv y.2] (setAdd S (.ref y.2)) >>=_) _ _ s1;refine ad (f9 ?_);unfold setAdd;refine f9 (ad (Zcc hu hny ?_));refine Zwn (s:={s1 with toks:=s1.toks+Tg y.1}) (B:=B) (xs:=E3 (ys.take i)) hu ho1 (hO.re (kz kp1 (tk i))) hny (by have:=Zi5 (ys.take i);rw[gm]at this;omega) λh2 o2 b sb g2 O2=>?_;have kp2:Kpt h0 h2:=λc x e=>by
   have hc:c≠S:=λz=>by rw[z,hS0]at e;cases e
   rw[sb.2 c hc];exact kp1 c x e
  refine ag ⟨plainId_quiet PyProof.Rows.F.plain_set_update_loop _,ih (i+1) _ o2 (by omega) (W.frame _ s1 _ _ st1 (Nat.le_add_right _ _) λc hc x e=>?_) kp2 g2 ?_ λs3 o3 m3 k3 g3 O3=>?_⟩
  ·rw[sb.2 c λz=>hS (z▸hc)];exact e
  ·rw[Zfg hy];exact O2
  ·refine hR s3 o3 (Moved.trans W.gtrans ((mv.mono up).then_heap (Nat.le_add_right _ _) λc x hc e=>?_) m3) k3 g3 O3;rw[sb.2 c λz=>hc (z▸ah)];exact e
end
section
variable{prog:bu}{w:ck}{A:cj}{E:aj->am->Prop}{s:am}
theorem Zr9{h:dq}:M4 prog w (By w) h (R9 w) []:=⟨#[],0,_,[],⟨rfl,rfl,rfl⟩,rfl,rfl,List.Perm.nil,c7,(λz hz=>nomatch hz),Tb.fresh _ _ _,rfl,by show 0*5<7*3;decide⟩
theorem Zfh{l:ak}{its:Array aj}{ys:List (Zj×ak)}{Q:aj->am->Prop}(hh:A.handled=aB)(hu:A.units+5<dw)(hl:s.heap.IsList l its)(hi:its.toList=ys.map λy=>bv y.2)(hys:∀y∈ys,Uv prog w s.heap y.1 y.2)(hb:ys.length<=75)
  (h:∀(h':dq) (tk:Nat) (o:Obj),h'.get? s.heap.objs.size=aA o->M4 prog w (By w) h' o (E3 ys)->(∀b x,b<s.heap.objs.size->s.heap.get? b=aA x->h'.get? b=aA x)->Q (.ref s.heap.objs.size) {s with heap:=h',toks:=tk}):
  ba (bp prog w) A (call (.type "set") [.ref l]) Q E s:=by
 have hsz:its.size=ys.length:=by rw[<-aw,hi,ao]
 obtain⟨c,tl,hmro⟩:=PySem.F.called_set.mro;have hmade:=PySem.F.called_set.made;have hsub:=PySem.F.called_set.sub;have h1:=PySem.F.called_set.notType;have h2:=PySem.F.called_set.canCreate;have hct:=PySem.F.typeCall_set_1 (.ref l);refine wpAny_call (codeAny_of_tree ?_);show ba _ _ (callAny (.type "set") _) _ _ _;refine ag ⟨Code.quiet_builtin _ (by decide+kernel),gr PySem.F.entry_type_call ?_⟩;rw[Around.under_plain (weight_type_call_type "set" [.ref l] []) rfl]
 repeat (any_goals (first|assumption|wp_step))
 refine codeAny_mono (Ziw (.ref l) (E:=E) (Q:=λv s1=>v= .ref s.heap.objs.size/\s1={s with heap:=s.heap.push (R9 w)}) ⟨rfl,rfl⟩) λr s1 hr=>?_;cases r with
 |error e=>exact hr
 |ok fl=>
  cases fl with
  |ret obj=>
   obtain⟨rfl,rfl⟩:=hr;have hS:(s.heap.push (R9 w)).get? s.heap.objs.size=aA (R9 w):=a9 _ rfl;have hT:Shared.TypeIs {s with heap:=s.heap.push (R9 w)} (.ref s.heap.objs.size) "set":=⟨_,hS,rfl⟩
   have hli:=PySem.F.called_set.init.lookup;have hbi:=PySem.F.called_set.init.bind (.ref s.heap.objs.size)
   repeat (any_goals (first|assumption|wp_step))
   refine codeAny_mono (codeAny_call_builtin (R:=wants (λr s2=>r= .none/\∃h' tk o,s2={s with heap:=h',toks:=tk}/\h'.get? s.heap.objs.size=aA o/\M4 prog w (By w) h' o (E3 ys)/\(∀b x,b<s.heap.objs.size->s.heap.get? b=aA x->h'.get? b=aA x)) E)
    PySem.F.called_set.init.plain PySem.F.entry_set_init (check_set_init_1 hT ?_)) λr2 s2 hr2=>?_
   ·obtain⟨ol,hol,hcl,nl,hdl⟩:=hl;obtain⟨ocls,od,odata,osl⟩:=ol;simp only at hcl hdl;subst hcl hdl;have hol':(s.heap.push (R9 w)).get? l=aA {cls:=.type "list",dict:=od,data:=.seq its nl,slots:=osl}:=aq _ hol;have hsa:=PySem.F.sub_list_set;have hsb:=PySem.F.sub_list_frozenset;have hsc:(Value.type "list"==Value.type "dict")=aD:=by decide
    have hl1:(s.heap.push (R9 w)).IsList l its:=⟨_,hol',rfl,nl,rfl⟩
    unfold Builtin.«set.__init__» noKeywords Builtin.Frozenset.updateFrom;generalize hPI:pyIter=PI;wp_walk;subst hPI;refine wpAny_pyIter_list hl1 (ad (wpAny_runValue ?_));have ll:l<s.heap.objs.size:=bc hol;have hh3:A.in1.in1.in1.handled=aB:=by simp[hh]
    have sz:(s.heap.push (R9 w)).objs.size=s.heap.objs.size+1:=Heap.size_push _ _;have ne:l≠(s.heap.push (R9 w)).objs.size:=by rw[sz];exact b4 (Nat.lt_succ_of_lt ll)
    have nf:s.heap.objs.size∉[(s.heap.push (R9 w)).objs.size,l]:=by rw[sz];simp only[bo,gk,or_false,not_or];exact⟨b4 (Nat.lt_succ_self _),Nat.ne_of_gt ll⟩
    refine Zr8 (h0:=s.heap) ((Walks.list hh3 _ l ne its).toS) s.heap.objs.size nf (by show A.units+1+1+1+1<dw;omega) (Heap.get?_none_of_le (a8 _)) (λb hb'=>?_) ys hsz.symm (λi v hv=>?_) hys (by omega) its.size 0 _ (R9 w) (by omega)
     ⟨⟨_,a9 _ rfl,rfl,rfl⟩,(hl1.push _)⟩ (λb o e=>aq _ (aq _ e)) (aq _ hS) Zr9 λs' o' mv kp go Oo=>?_
    ·have:b=(s.heap.push (R9 w)).objs.size:=by simpa using hb'
     rw[this,sz];exact Heap.get?_none_of_le (Nat.le_succ _)
    ·have hv':its[i]? =aA v:=hv;rw[<-b5,hi,bf]at hv';obtain⟨y,hy,rfl⟩:=cm.mp hv';exact⟨y,hy,rfl⟩
    have eg:s'.gens=s.gens:=mv.gens;have ed:s'.drawn=s.drawn:=mv.drawn;have eo:s'.os=s.os:=mv.os;have es:s'={s with heap:=s'.heap,toks:=s'.toks}:=by cases s';simp only at eg ed eo;subst eg ed eo;rfl
    show ba _ _ _ _ _ _;refine ag ?_;show ba _ _ (ret cf) _ _ _;exact ag ⟨rfl,s'.heap,s'.toks,o',es,go,Oo,λb x hb e=>kp b x e⟩
   ·cases r2 with
    |error e=>exact hr2
    |ok f2=>
     cases f2 with
     |ret r=>
      obtain⟨rfl,h',tk,o',rfl,g',O',k'⟩:=hr2
      repeat (any_goals (first|assumption|wp_step))
      exact h _ _ _ g' O' k'
     |_=>exact hr2.elim
  |_=>exact hr.elim
end
section
variable{prog:bu}{w:ck}{A:cj}{E:aj->am->Prop}{s:am}{I r S:ak}{o:Obj}{es:Array (Int×aj)}{ep:Nat}{t:gn}
theorem Zwo{R:Result->am->Prop}{res:aj}{c:Nat}(hh:A.handled=aB)(ho:s.heap.get? r=aA o)(hx:o.ExactSet)(hd:o.data= .set es ep t)(hf:t.fits es.size=aC)(hled:t.led= !By w)(rise:Gb t.place.toList)(hr:es.size<=1000)(hS:S≠r)(hl:s.heap.get? S=aA (E1 #[] c))
  (hR:∀(h':dq) d c' (ord:List aj),ord.Perm (es.toList.map (·.2))->(∀b x,b≠S->s.heap.get? b=aA x->h'.get? b=aA x)->h'.get? S=aA (E1 ord.toArray c')->R (.ok (.ret res)) {s with heap:=h',drawn:=d}):
  ba (bp prog w) A.in1 (Builtin.List.listExtendWith (.ref S) (.ref r) res) (λfin s'=>match fin with| .done f=>R (.ok f) s'| .again c'=>c'.quiet=aC/\codeAny (bp prog w) A c' R s') (λe s'=>R (.error e) s') s:=by
 have hb:es.size<scanBound:=by unfold scanBound;omega
 have psz:t.place.size=es.size:=by unfold SetTable.fits at hf;simp only[Bool.and_eq_true,beq_iff_eq]at hf;exact hf.1
 have hT:s.TypeIs (.ref r) "set":=⟨o,ho,hx.1⟩
 have hlS:S<s.heap.objs.size:=bc hl;have hlr:r<s.heap.objs.size:=bc ho;unfold Builtin.List.listExtendWith;refine ad (wpAny_typeOf (T:="set") hT ?_);have z1:Builtin.List.listSameRef (.ref S) (.ref r)=aD:=by simp[Builtin.List.listSameRef,hS]
 have z2:(Value.type "set"==Value.type "list")=aD:=by decide
 have z3:(Value.type "set"==Value.type "tuple")=aD:=by decide
 simp only[z1,z2,z3,Bool.or_false,bg,if_false];have hh':A.in1.handled=aB:=hh;refine ad (Zix ho hx hd hf hb (λhc=>?_) λhc ps d hp=>?_)
 ·have rI:r≠s.heap.objs.size:=b4 hlr;have SI:S≠s.heap.objs.size:=b4 hlS;have nf:S∉[s.heap.objs.size,r]:=by simp only[bo,gk,or_false,not_or];exact⟨SI,hS⟩
  have old:∀b x,s.heap.get? b=aA x->b≠s.heap.objs.size:=λb x e=>b4 (bc e);cases hB:By w with
  |false=>
   have hl':t.led=aC:=by rw[hled,hB];rfl
   have hp:(!t.plain&&decide (es.size > 1))=aD:=by rw[hB]at hc;simpa using hc
   refine Lp (V6 hh' rI hd hf hB hl' hp rise psz) nf (by rw[ao,aw];omega) ⟨o,aq _ ho,hx.1⟩ ⟨a9 _ rfl,aq _ ho⟩ (aq _ hl) (f:=λb=>b||_) λh' c' k g=>?_;exact hR h' s.drawn c' _ (List.Perm.refl _) (λb x hb e=>k b x hb (old b x e) (aq _ e)) g
  |true=>have pp:=Ze0 (w.params.setOrder r ep) es;refine Lp (Zbi hh' rI hd hf hB) nf (by rw[ao,pp.length_eq,aw];omega) ⟨o,aq _ ho,hx.1⟩ ⟨a9 _ rfl,aq _ ho⟩ (aq _ hl) (f:=λb=>b||_) λh' c' k g=>?_;exact hR h' s.drawn c' _ (pp.map _) (λb x hb e=>k b x hb (old b x e) (aq _ e)) g
 ·have pm0:∀p∈ps,p<es.size:=λp hq=>cw.mp (hp.mem_iff.mp hq);have rI:r≠s.heap.objs.size+1:=b4 (Nat.lt_succ_of_lt hlr);have TI:s.heap.objs.size≠s.heap.objs.size+1:=b4 (Nat.lt_succ_self _);have nf:S∉[s.heap.objs.size+1,r,s.heap.objs.size]:=by simp only[bo,gk,or_false,not_or];exact⟨b4 (Nat.lt_succ_of_lt hlS),hS,b4 hlS⟩
  have up:∀b x,s.heap.get? b=aA x->((s.heap.push (Mb ps)).push (Sw (.ref s.heap.objs.size) 0 r es.size ep)).get? b=aA x:=λb x e=>aq _ (aq _ e);have sz2:(s.heap.push (Mb ps)).objs.size=s.heap.objs.size+1:=Heap.size_push _ _;have gI:((s.heap.push (Mb ps)).push (Sw (.ref s.heap.objs.size) 0 r es.size ep)).get? (s.heap.objs.size+1)=aA (Sw (.ref s.heap.objs.size) 0 r es.size ep):=by rw[<-sz2];exact a9 _ rfl
  have gT:((s.heap.push (Mb ps)).push (Sw (.ref s.heap.objs.size) 0 r es.size ep)).get? s.heap.objs.size=aA (Mb ps):=aq _ (a9 _ rfl);have pl:(ps.map λp=>es.getD p (0,cf)).Perm es.toList:=by
   refine(hp.map _).trans ?_;have:(cr es.size).map (λp=>es.getD p (0,cf))=es.toList:=by
    apply List.ext_getElem?;intro i;rw[bf];by_cases hi:i<es.size
    ·rw[List.getElem?_range hi,b5];simp[Array.getD,hi]
    ·rw[List.getElem?_eq_none (by simpa using hi),List.getElem?_eq_none (by simpa using hi)];rfl
   rw[this]
  have eo:(ps.map λp=>(es.getD p (0,cf)).2)=(ps.map λp=>es.getD p (0,cf)).map (·.2):=by rw[bx];rfl
  refine Lp (s:={s with heap:=(s.heap.push (Mb ps)).push (Sw (.ref s.heap.objs.size) 0 r es.size ep),drawn:=d}) (V7 hh' rI TI hd hf pm0) nf (by rw[ao,hp.length_eq,List.length_range];omega) ⟨o,up _ _ ho,hx.1⟩ ⟨gI,up _ _ ho,gT⟩ (up _ _ hl) (f:=λb=>b||_) λh' c' k g=>?_;rw[eo]at g;exact hR h' d c' _ (pl.map _) (λb x hb e=>k b x hb (b4 (Nat.lt_succ_of_lt (bc e))) (up b x e)) g
theorem Zfi{xs:List (Zj×ak)}{Q:List aj->am->Prop}(hh:A.handled=aB)(ho:s.heap.get? r=aA o)(hO:M4 prog w (By w) s.heap o xs)(hr:xs.length<=1000)
  (h:∀(zs:List (Zj×ak)) (h':dq) d,zs.Perm xs->(∀b x,s.heap.get? b=aA x->h'.get? b=aA x)->s.heap.objs.size<=h'.objs.size->Q (zs.map λz=>bv z.2) {s with heap:=h',drawn:=d}):ba (bp prog w) A (collect (.ref r)) Q E s:=by
 obtain⟨es,ep,t,zs,hx,hd,he,pm,nd,his,tb,hled,hroom⟩:=hO;have zl:zs.length=es.size:=by rw[<-aw,he,ao]
 have xl:xs.length=es.size:=by rw[<-pm.length_eq,zl]
 have hlr:r<s.heap.objs.size:=bc ho;have nS:s.heap.objs.size≠r:=Nat.ne_of_gt hlr;unfold collect;refine ad (wpAny_runValue (gr PySem.F.entry_proto_collect ?_));rw[d7 PySem.F.plain_proto_collect _];show ba _ A.in1 (newList [] >>=λl=>again (.builtin "list.__iadd__" ⟨[l,.ref r],[]⟩)) _ _ s;refine ad (dv ?_);refine ag ⟨plainId_quiet PySem.F.plain_list_iadd _,gr PySem.F.entry_list_iadd ?_⟩;rw[d7 PySem.F.plain_list_iadd _];show ba _ A.in1 (Builtin.List.listExtendWith (.ref s.heap.objs.size) (.ref r) (.ref s.heap.objs.size)) _ _ _;refine Zwo (R:=λrr s'=>match rr with
  | .ok (.ret v)=>ba (bp prog w) A (match v with
   | .ref a=>(load a >>=λx=>match x.data with
    | .seq xs _=>pure xs.toList
    |_=>unsupported "internal:collect")
   |_=>unsupported "internal:collect") Q E s'
  | .ok _=>False
  | .error e=>E e s') (s:={s with heap:=s.heap.push (E1 #[] 0)}) (c:=0) hh (aq _ ho) hx hd (tb.fits (by simp)) hled tb.rise (by omega) nS (a9 _ rfl) λh' d c' ord hp hk g=>?_
 show ba _ A (load s.heap.objs.size >>=_) _ _ _;refine ad (wpAny_load g ?_);refine ag ?_;have e:ord.toArray.toList=ord:=by simp
 show Q ord.toArray.toList _;rw[e];rw[he,bx]at hp;obtain⟨zs',p',e'⟩:=Rh hp zs rfl;rw[e'];exact h zs' h' d (p'.trans pm) (λb x e=>hk b x (b4 (bc e)) (aq _ e)) (Nat.le_of_lt (bc g))
end
end TT
namespace TT
open PySem PySem.Spec PyProof.Rows L2 DL TX SX
def Zs:Zj->D
 | .inl l=>.tup (l.map D.str)
 | .inr (n,l)=>.tup [.int n,.tup (l.map D.str)]
def M5(ks:List Zj)(k:Zj):List Zj:=if(ks.any λz=>decide (z=k))=aC then ks else ks++[k]
def Sx(ks:List Zj):List Zj:=ks.foldl M5 []
theorem Zfj(xs:List (Zj×ak))(k:Zj)(b:ak):(Ge xs k b).map (·.1)=M5 (xs.map (·.1)) k:=by
 unfold Ge M5;have e:((xs.map (·.1)).any λz=>decide (z=k))=xs.any λz=>decide (z.1=k):=by rw[List.any_map];rfl
 rw[e];split
 ·rfl
 ·rw[cq];rfl
theorem Dx(ys:List (Zj×ak)):(E3 ys).map (·.1)=Sx (ys.map (·.1)):=by
 have go:∀(ys acc:List (Zj×ak)),(ys.foldl (λacc y=>Ge acc y.1 y.2) acc).map (·.1)=(ys.map (·.1)).foldl M5 (acc.map (·.1)):=by
  intro ys;induction ys with
  |nil=>intro acc;rfl
  |cons y ys ih=>intro acc;rw[List.foldl_cons,ih,av,List.foldl_cons,Zfj]
 exact go ys []
def Ri(ds out:List D):Prop:=out.Perm ds/\out.Pairwise λa b=>Jo 16 b a=aA aD
theorem Zbs{ks:List D}{enc:D->List Nat}(hd:∀i j:Nat,i<ks.length->j<ks.length->enc (ks.getD i .non)=enc (ks.getD j .non)->i=j){a b:D}(ha:a∈ks)(hb:b∈ks)(e:enc a=enc b):a=b:=by
 obtain⟨i,hi,rfl⟩:=dz ha;obtain⟨j,hj,rfl⟩:=dz hb;have gi:ks.getD i .non=ks[i]:=by rw[bz,az hi];rfl
 have gj:ks.getD j .non=ks[j]:=by rw[bz,az hj];rfl
 have:=hd i j hi hj (by rw[gi,gj];exact e);subst this;rfl
theorem Gf{ds a b:List D}(h:KeysOk ds)(ha:Ri ds a)(hb:Ri ds b):a=b:=by
 obtain⟨enc,he,hd⟩:=h.ord;refine List.Perm.eq_of_pairwise (le:=λa b=>Jo 16 b a=aA aD) (λx y hx hy h1 h2=>?_) ha.2 hb.2 (ha.1.trans hb.1.symm);have mx:=ha.1.mem_iff.mp hx;have my:=hb.1.mem_iff.mp hy;rw[he _ my _ mx]at h1;rw[he _ mx _ my]at h2;have h1:¬enc y<enc x:=by simpa using h1
 have h2:¬enc x<enc y:=by simpa using h2
 exact Zbs hd mx my (List.le_antisymm (d4.mp h1) (d4.mp h2))
theorem Au{ds:List D}{p:List Nat}(h:Rf ds p):Ri ds (p.map λi=>ds.getD i .non):=by
 refine⟨?_,df.mpr h.2⟩;refine(h.1.map _).trans ?_;have:(cr ds.length).map (λi=>ds.getD i .non)=ds:=by
  apply List.ext_getElem
  ·simp
  ·intro i h1 h2;simp[bz,az h2]
 rw[this]
theorem Gg{ds:List D}(h:KeysOk ds):∃out,Ri ds out:=let⟨_,hp⟩:=Os h;⟨_,Au hp⟩
theorem Ch{ks:List D}{enc:D->List Nat}:(∀i j:Nat,i<ks.length->j<ks.length->enc (ks.getD i .non)=enc (ks.getD j .non)->i=j)↔(ks.map enc).Nodup:=by
 have gi:∀i (hi:i<ks.length),ks.getD i .non=ks[i]:=λi hi=>by rw[bz,az hi];rfl
 constructor
 ·intro h;refine List.pairwise_iff_getElem.mpr λi j hi hj hij e=>?_;rw[ao]at hi hj;rw[List.getElem_map,List.getElem_map]at e;have:=h i j hi hj (by rw[gi i hi,gi j hj];exact e);omega
 ·intro h i j hi hj e;rw[gi i hi,gi j hj]at e;have:=(List.getElem?_inj (i:=i) (j:=j) (by rw[ao];exact hi) h).mp (by simp[hi,hj,e]);exact this
theorem P1{ds es:List D}(h:KeysOk ds)(p:es.Perm ds):KeysOk es:=by obtain⟨k,hk⟩:=h.key;obtain⟨enc,he,hd⟩:=h.ord;refine⟨⟨k,λd hd=>hk d (p.mem_iff.mp hd)⟩,enc,λa ha b hb=>he a (p.mem_iff.mp ha) b (p.mem_iff.mp hb),?_⟩;exact Ch.mpr ((p.map enc).nodup_iff.mpr (Ch.mp hd))
end TT
namespace L2
open PySem PySem.Spec PySem.Calls PyProof.Rows DL TX SX TT
theorem Lx{P:bu}{w:ck}{H:Hp}{h:dq}(ok:Cq P w H h){k:Zj}{b:ak}(e:Ji H k b):Uv P w h k b:=by
 cases k with
 |inl l=>exact Oi ok e
 |inr p=>
  obtain⟨n,l⟩:=p;obtain⟨c,h1,h2⟩:=e;obtain⟨_,its,r,o,q1,q2,m,q3⟩:=(show Z9 P w H h b (.tup [.int n,.ref c])from ok b _ h1)
  cases r with
  |cons r1 t=>cases t with
   |cons r2 t=>cases t;obtain⟨tk,rfl⟩:=r1;cases r2;exact⟨o,_,m,tk,c,q1,q2,q3,rfl,Oi ok h2⟩
theorem Rj{K:af}{F:Hp}{k:Zj}{b:ak}(e:Ji F k b):Rep K F (Zs k) (.ref b):=by
 have tx:∀l:List Str,Reps K F (l.map D.str) ((Mz l).map kV):=λl=>by
  induction l with
  |nil=>exact .nil
  |cons x l ih=>exact .cons (.str x) ih
 cases k with
 |inl l=>exact .tup e (tx l)
 |inr p=>obtain⟨n,l⟩:=p;obtain⟨c,h1,h2⟩:=e;exact .tup h1 (.cons (.int n) (.cons (.tup h2 (tx l)) .nil))
theorem Rk{K:af}{F:Hp}{k:Zj}{v:V}(r:Rep K F (Zs k) v):∃b,v= .ref b/\Ji F k b:=by
 have tx:∀{l:List Str} {vs:List V},Reps K F (l.map D.str) vs->vs=(Mz l).map kV:=fun{l}=>by
  induction l with
  |nil=>intro vs h;cases h;rfl
  |cons x l ih=>intro vs h;cases h with
   |cons h t=>cases h;rw[ih t];rfl
 cases k with
 |inl l=>cases r with
  |tup h r=>rw[tx r]at h;exact⟨_,rfl,h⟩
 |inr p=>
  obtain⟨n,l⟩:=p;cases r with
  |tup h r=>cases r with
   |cons r1 t=>cases r1;cases t with
    |cons r2 t=>cases t;cases r2 with
     |tup h2 r2=>rw[tx r2]at h2;exact⟨_,rfl,_,h,h2⟩
section
variable{X:Cx}
def rSN(K:af):List V->Hp->VK->Prop:=λvs H Q=>∃(l:ak) (ys:List (Zj×ak)),vs=[.ref l]/\Wp K H l (ys.map λy=>V.ref y.2)/\(∀y∈ys,Ji H y.1 y.2)/\ys.length<=75/\(E3 ys).length<64/\KeysOk ((E3 ys).map λy=>Zs y.1)/\
 ∀(zs:List (Zj×ak)) (q:ak),zs.Perm (E3 ys)->Ri ((E3 ys).map λy=>Zs y.1) (zs.map λy=>Zs y.1)->H q=aB->Q (.ref q) (Z5 H q (.lst (zs.map λz=>V.ref z.2)))
theorem Zsa:∀{ys:List (Zj×ak)} {its:List aj},Zw (ys.map λy=>V.ref y.2) its->its=ys.map λy=>bv y.2
 | [],_,h=>by cases h;rfl
 |y::ys,_,h=>by
  cases h with
  |cons r t=>cases r;rw[Zsa t];rfl
theorem Zfk:∀ys:List (Zj×ak),Zw (ys.map λy=>V.ref y.2) (ys.map λy=>bv y.2)
 | []=>.nil
 |y::ys=>.cons rfl (Zfk ys)
theorem Zi6{a:ci}{t:TA}{p1 p2 q1 q2:Pos}(hc:X.calm=aC)(hu:X.A.units+64<dw)(h1:X.mg "sorted"=aB)(h2:X.mg "set"=aB)(ha:PA X [a] t)(g1:Gl X "sorted")(g2:Gl X "set")
  (he1:ay [.Call (.Name "set" q1) [a] [] q2] X.env=(aD,f8 (.Call (.Name "set" q1) [a] [] q2) X.env)::ay [] X.env) (hp1:(f6 p2 (ay [] X.env)).any (·.1)=aD)
  (he2:ay [a] X.env=(aD,f8 a X.env)::ay [] X.env) (hp2:(f6 q2 (ay [] X.env)).any (·.1)=aD):
  PE X (.Call (.Name "sorted" p1) [.Call (.Name "set" q1) [a] [] q2] [] p2) (tCB (rSN X.K) t):=by
 intro pins s σ H Q I h;refine wpAny_Call_Name_kw (Bo I g1 h1 B0 ?_);refine PyProof.Rows.callWith_builtin1 ?_ he1 hp1;rw[he1];show ba _ _ (spliced ((aD,f8 (.Call (.Name "set" q1) [a] [] q2) X.env)::f6 p2 (ay [] X.env))) _ _ s;refine Calls.spliced_cons (wpAny_Call_Name_kw (Bo I g2 h2 Ze1 ?_));refine PyProof.Rows.callWith_type1 (Wo (ha q2 pins s σ H _ I h) λus s1 ⟨vs,H1,I1,r1,z1⟩=>?_) he2 hp2;obtain⟨l,ys,rfl,hl,hn,hz,hz2,ko,q⟩:=z1;obtain⟨u,rfl,ru⟩:=Jt r1;cases ru;obtain⟨its,rv,⟨o,n,ho,hcl,_,hd⟩,_⟩:=I1.list hl;have hits:=Zsa rv;have hh:=I1.ok.hd hc;refine Zfh (its:=its.toArray) (ys:=ys) hh (by omega) ⟨o,ho,hcl,n,hd⟩ (by simpa using hits) (λy hy=>Lx I1.hok (hn y hy)) hz λh' tk o' ho' hO hk=>?_;show ba _ _ (spliced []) _ _ _;refine Calls.spliced_nil ?_;have kept:∀b x,s1.heap.get? b=aA x->h'.get? b=aA x:=λb x e=>hk b x (bc e) e;have I2:Inv X pins σ H1 {s1 with heap:=h',toks:=tk}:=I1.kept kept;refine Calls.call_function_entry kind_sorted plain_sorted entry_sorted (args_sorted1 _) ?_;unfold Builtin.«sorted»;refine ad (m:=checkCount "sorted" 1 1 _) (ag ?_);refine ad (Zfi (A:=X.A.in1) (s:={s1 with heap:=h',toks:=tk}) hh ho' hO (by omega) λzs h3 d hp hk3 ge=>?_);have I3:Inv X pins σ H1 {s1 with heap:=h3,toks:=tk,drawn:=d}:=(I2.kept (t':=tk) hk3).drawnAt d;have kz:KeysOk (zs.map λy=>Zs y.1):=P1 ko (hp.map _);obtain⟨enc,he,hdis⟩:=id kz.ord;obtain⟨kb,hkb⟩:=id kz.key;have hu2:X.A.in1.in1.units+16<cLine:=by show X.A.units+1+1+16<dw;omega
 have zl:zs.length=(E3 ys).length:=hp.length_eq;have dl:(zs.map λy=>Zs y.1).length=(zs.map λz=>bv z.2).length:=by simp
 have hnz:∀z∈zs,Ji H1 z.1 z.2:=λz hz'=>hn z (Lw (hp.mem_iff.mp hz'));refine Zbp (its:=zs.map λz=>bv z.2) (kvs:=zs.map λz=>V.ref z.2) (KeyOk:=λj kv H=>Rep X.K H ((zs.map λy=>Zs y.1).getD j .non) kv) (O:=strKind.toKeyOrd) (key:=Dl enc (zs.map λy=>Zs y.1)) I3 (by rw[ao];omega) (Zfk zs) (λj kv e=>?_) (Ze6 hu2 hkb he dl) ?hQ
 ·rw[bf]at e;obtain⟨z,ez,rfl⟩:=cm.mp e;have:(zs.map λy=>Zs y.1).getD j .non=Zs z.1:=by rw[bz,bf,ez];rfl
  rw[this];exact Rj (hnz z (cz ez))
 case hQ=>
  intro p D s3 cc hp2' hs hD0 I4 fD gD;have sb:=Ze7 he dl hp2' hs;have pt:p.toList.Perm (cr zs.length):=by have:=sb.1;rw[ao]at this;exact this
  have bnd:∀i∈p.toList,i<zs.length:=λi hi=>cw.mp (pt.mem_iff.mp hi);have g1':∀i∈p.toList,(zs.map λz=>bv z.2).getD i cf=bv (zs.getD i (.inl [],0)).2:=λi hi=>by have hb:=bnd i hi;simp[bz,bf,az hb]
  have g2':∀i∈p.toList,(zs.map λy=>Zs y.1).getD i .non=Zs (zs.getD i (.inl [],0)).1:=λi hi=>by have hb:=bnd i hi;simp[bz,bf,az hb]
  generalize hzs2:p.toList.map (λi=>zs.getD i (.inl [],0))=zs2;have e1:(p.toList.map λi=>(zs.map λz=>bv z.2).getD i cf)=zs2.map λz=>bv z.2:=by rw[<-hzs2,bx];exact fg g1'
  have e2:(p.toList.map λi=>(zs.map λy=>Zs y.1).getD i .non)=zs2.map λy=>Zs y.1:=by rw[<-hzs2,bx];exact fg g2'
  have pz:zs2.Perm zs:=by
   rw[<-hzs2];refine(pt.map _).trans ?_;have:(cr zs.length).map (λi=>zs.getD i (.inl [],0))=zs:=by
    apply List.ext_getElem
    ·simp
    ·intro i h1 h2;simp[bz,az h2]
   rw[this]
  have so:=Au sb;rw[e2]at so;have so2:Ri ((E3 ys).map λy=>Zs y.1) (zs2.map λy=>Zs y.1):=⟨so.1.trans (hp.map _),so.2⟩
  rw[e1]at gD;have new:Z9 X.prog X.w (Z5 H1 D (.lst (zs2.map λz=>V.ref z.2))) s3.heap D (.lst (zs2.map λz=>V.ref z.2)):=by refine⟨?_,zs2.map λz=>bv z.2,cc,Zfk zs2,gD⟩;rw[ao,pz.length_eq,dr];omega
  exact⟨.ref D,_,Inv.trackO I4 hD0 fD.1 fD.2.1 fD.2.2.2.2.1 fD.2.2.2.2.2 new,rfl,q zs2 D (pz.trans hp) so2 fD.1⟩
end
end L2
namespace DL
open PySem PySem.Spec PyProof.Rows L2 SX TT TX
variable{K:af}
def nk?:D->Option Zj
 | .tup xs=>match strs? xs with
  |some l=>aA (.inl l)
  |none=>match xs with
   | [.int n,.tup ys]=>(strs? ys).bind λl=>aA (.inr (n,l))
   |_=>aB
 |_=>aB
theorem Av:∀l:List Str,strs? (l.map D.str)=aA l
 | []=>rfl
 |x::l=>by rw[av,strs?,Av l];rfl
theorem Lz:∀{xs:List D} {l:List Str},strs? xs=aA l->xs=l.map D.str
 | [],_,h=>by cases h;rfl
 |x::xs,l,h=>by
  unfold strs? at h;split at h
  ·rename_i e;cases e
  ·rename_i y r e;cases e;obtain⟨t,h1,h2⟩:=aa.mp h;cases h2;rw[Lz h1];rfl
  ·cases h
@[simp] theorem Md(k:Zj):nk? (Zs k)=some k:=by
 cases k with
 |inl l=>show(match strs? (l.map D.str)with|some l=>_|none=>_)=_;rw[Av]
 |inr p=>obtain⟨n,l⟩:=p;show(strs? (l.map D.str)).bind _=_;rw[Av];rfl
theorem Zfl{d:D}{k:Zj}(h:nk? d=aA k):d=Zs k:=by
 unfold nk? at h;split at h
 ·rename_i xs;split at h
  ·rename_i l hl;cases h;rw[Lz hl];rfl
  ·split at h
   ·obtain⟨l,h1,h2⟩:=aa.mp h;cases h2;rw[Lz h1];rfl
   ·cases h
 ·cases h
def nks?:List D->Option (List Zj)
 | []=>aA []
 |d::r=>(nk? d).bind λk=>(nks? r).bind λks=>aA (k::ks)
@[simp] theorem Dy:∀ks:List Zj,nks? (ks.map Zs)=some ks
 | []=>rfl
 |k::ks=>by rw[av,nks?,Md,Dy ks];rfl
theorem Zfm:∀{ds:List D} {ks:List Zj},nks? ds=aA ks->ds=ks.map Zs
 | [],_,h=>by cases h;rfl
 |d::ds,_,h=>by obtain⟨k,h1,h2⟩:=aa.mp (show(nk? d).bind _=_ from h);obtain⟨ks,h3,h4⟩:=aa.mp h2;cases h4;rw[Zfl h1,Zfm h3];rfl
theorem P2{F:Hp}:∀{ks:List Zj} {vs:List V},Reps K F (ks.map Zs) vs->∃ys:List (Zj×ak),ys.map (·.1)=ks/\vs=ys.map (λy=>V.ref y.2)/\∀y∈ys,Ji F y.1 y.2
 | [],_,h=>by cases h;exact⟨[],rfl,rfl,λ_ z=>nomatch z⟩
 |k::ks,_,h=>by
  cases h with
  |cons h t=>
   obtain⟨b,rfl,hb⟩:=Rk h;obtain⟨ys,rfl,rfl,hy⟩:=P2 t;refine⟨(k,b)::ys,rfl,rfl,λy hy'=>?_⟩;rcases bo.mp hy' with z|z
   ·rw[z];exact hb
   ·exact hy y z
theorem Fj{F:Hp}:∀{ys:List (Zj×ak)},(∀y∈ys,Ji F y.1 y.2)->Reps K F (ys.map λy=>Zs y.1) (ys.map λy=>V.ref y.2)
 | [],_=>.nil
 |y::ys,h=>.cons (Rj (h y ah)) (Fj λz hz=>h z (ar _ hz))
open Classical in
def Ms(ks:List Zj):Option SV:=
 if h:ks.length<=75/\(Sx ks).length<64/\KeysOk ((Sx ks).map Zs)then aA (.ol (Classical.choose (Gg h.2.2)))else aB
theorem Zfn{ks:List Zj}{sv:SV}(e:Ms ks=aA sv):ks.length<=75/\(Sx ks).length<64/\KeysOk ((Sx ks).map Zs)/\∃out,Ri ((Sx ks).map Zs) out/\sv= .ol out:=by
 unfold Ms at e;split at e
 ·rename_i h;cases e;exact⟨h.1,h.2.1,h.2.2,_,Classical.choose_spec (Gg h.2.2),rfl⟩
 ·cases e
theorem Zfo{ks:List Zj}{out:List D}(h1:ks.length<=75)(h2:(Sx ks).length<64)(h3:KeysOk ((Sx ks).map Zs))(h4:Ri ((Sx ks).map Zs) out):Ms ks=aA (.ol out):=by unfold Ms;rw[dif_pos ⟨h1,h2,h3⟩,Gf h3 (Classical.choose_spec (Gg h3)) h4]
def Cz:List D->Option SV
 | [.lst xs]=>(nks? xs).bind Ms
 |_=>aB
@[simp] theorem Me(ks:List Zj):Cz [.lst (ks.map Zs)]=Ms ks:=by show(nks? (ks.map Zs)).bind _=_;rw[Dy];rfl
section
variable{Z:Ent K}{H:Hp}{σ:L2.St}{Q:VK}{E:Yq}
theorem Znz:Jy Z (rSN K) Cz:=by
 intro F H σ δ own vs ds sv Q s r e k;unfold Cz at e;split at e
 ·obtain⟨ks,e1,e2⟩:=aa.mp e;obtain⟨z1,z2,ko,out,ho,rfl⟩:=Zfn e2;have:=Zfm e1;subst this;cases r with
  |cons h t=>
   cases t;obtain⟨a,us,rfl,ha,ru⟩:=h.lst s.le;obtain⟨ys,rfl,rfl,hy⟩:=P2 ru;have ek:(E3 ys).map (λy=>Zs y.1)=(Sx (ys.map (·.1))).map Zs:=by rw[<-Dx,bx];rfl
   refine⟨a,ys,rfl,ha,λy hy'=>(hy y hy').mono λ_ _ q=>s.le _ _ q,by simpa using z1,?_,by rw[ek];exact ko,λzs q hp so hq=>?_⟩
   ·have:=congrArg List.length (Dx ys);rw[ao]at this;omega
   ·have eo:out=zs.map λy=>Zs y.1:=by rw[ek]at so;exact Gf ko ho so
    rw[eo]at k;exact k.lst s (Fj λz hz=>hy z (Lw (hp.mem_iff.mp hz))) hq
 ·cases e
end
section
variable{X:Cx}{Z:Ent X.K}{a b c:ci}{fa fb fc:FE}{pos:Pos}
theorem Xg{p1 q1 q2:Pos}(hc:X.calm=aC)(hv:X.A.units+64<dw)(h1:X.mg "sorted"=aB)(h2:X.mg "set"=aB)(ha:PE X a (Zc Z fa))(g1:Gl X "sorted":=by rfl)(g2:Gl X "set":=by rfl)
  (he1:ay [.Call (.Name "set" q1) [a] [] q2] X.env=(aD,f8 (.Call (.Name "set" q1) [a] [] q2) X.env)::ay [] X.env:=by rfl) (hp1:(f6 pos (ay [] X.env)).any (·.1)=aD:=by rfl)
  (he2:ay [a] X.env=(aD,f8 a X.env)::ay [] X.env:=by rfl) (hp2:(f6 q2 (ay [] X.env)).any (·.1)=aD:=by rfl):
  PE X (.Call (.Name "sorted" p1) [.Call (.Name "set" q1) [a] [] q2] [] pos) (Zc Z (Yl Cz (Zd fa Zp))):=
 (Zi6 hc hv h1 h2 (Zq ha Ym he2) g1 g2 he1 hp1 he2 hp2).imp λ_ _ _ h=>K0 Znz h
end
end DL
namespace L2
open PySem PySem.Spec PySem.Calls PyProof.Rows
section
variable{prog:bu}{w:ck}{K:Type}[DecidableEq K]{knd:HeapKind prog w K}{A:cj}{E:aj->am->Prop}{s:am}
theorem P3{d a:ak}{xs:List (K×ak×aj)}{k:K}{v:aj}{Q:aj->am->Prop}(hu:knd.room A)(hkey:knd.is s.heap k a)(hm:s.heap.DictOfH knd d xs)
  (hold:∀p,atKey xs k=aA p->Q p.2 {s with toks:=s.toks+knd.draws k})
  (hnew:atKey xs k=aB->∀h',h'.DictOfH knd d (xs++[(k,a,v)])->g7 d s.heap h'->Q v {s with heap:=h',toks:=s.toks+knd.draws k}) (hsz:xs.length<=sizeLine):
  ba (bp prog w) A (dictSetDefault d (.ref a) v) Q E s:=by
 obtain⟨o,es,ep,ho,hc,hd,he,his,hn⟩:=hm;unfold dictSetDefault
 try with_reducible refine f9 ?_
 refine ad (knd.pyHash hu hkey (ad (wpAny_dictFind_heap (s:={s with toks:=s.toks+knd.draws k}) hu hkey ho hd he his hn ?_ ?_)))
 ·intro hno;have hnot:k∉xs.map (·.1):=not_mem_keys_of_get hno;dsimp only;refine ad (wpAny_rule (ad (wpAny_updateDictKeys (hz:=by have e:=size_of_entries he;omega) (s:={s with toks:=s.toks+knd.draws k}) ho hd (ag (hnew (atKey_none_of_get hno) _ ⟨_,_,ep+1,Heap.get?_update_self _ ho (Obj.isFreed_of_dict (Obj.data_mapDictKeys hd _)),
   hc.mapDictKeys _,Obj.data_mapDictKeys hd _,?_,?_,?_⟩ (Heap.SameBut.update ..))))))
  ·simp[he,entryOfKey]
  ·intro x hx;rcases cn.mp hx with hx|hx
   ·exact knd.keeps (his x hx) ho hd (Heap.SameBut.update ..)
   ·simp only[au]at hx;subst hx;exact knd.keeps hkey ho hd (Heap.SameBut.update ..)
  ·rw[cq,di];refine⟨hn,by simp,?_⟩;intro x hx y hy;simp only[av,List.map_nil,au]at hy;subst hy;exact λe=>hnot (e▸hx)
 ·intro j p hj;dsimp only;refine ad (wpAny_dictEntries (s:={s with toks:=s.toks+knd.draws k}) ho hd ?_);rw[entry_at he j,hj];exact ad (wpAny_rule (ag (hold p (atKey_of_get hn hj))))
end
def KNt(H:Hp):List (Zj×V)->List (Zj×ak×aj)->Prop:=Paired λ(p:Zj×V) (q:Zj×ak×aj)=>p.1=q.1/\Ji H p.1 q.2.1/\Zm p.2 q.2.2
section
variable{P:bu}{w:ck}{H:Hp}{h:dq}{a:ak}
theorem Zfp{kvs:List (Zj×V)}{ep:Nat}{bs:List ak}(ok:Cq P w H h)(e:H a=aA (.dN kvs ep bs)):kvs.length<=sizeLine/\(a==d8)=aD/\
  ∃xs,KNt H kvs xs/\h.DictOfH (E7 P w) a xs/\(xs.map λx=>x.2.1)=bs:=by
 obtain⟨z,y,xs,r,o,es,h1,h2,h3,h4,h5,h6⟩:=(show Z9 P w H h a (.dN kvs ep bs)from ok a _ e)
 refine⟨z,y,xs,r,⟨o,es,ep,h1,h2,h3,h4,λx hx=>?_,h5⟩,h6⟩;have all:∀{l:List (Zj×V)} {m:List (Zj×ak×aj)},KNt H l m->∀x∈m,(E7 P w).is h x.1 x.2.1:=by
  intro l m q;induction q with
  |nil=>intro x hx;exact nomatch hx
  | @cons p q ps qs hq t ih=>
   intro x hx;rcases bo.mp hx with e|hx
   ·subst e;exact Lx ok (by rw[<-hq.1];exact hq.2.1)
   ·exact ih x hx
 exact all r x hx
theorem KNt.val{kvs:List (Zj×V)}{xs:List (Zj×ak×aj)}(r:KNt H kvs xs)(k:Zj):C3 (Wy kvs k) ((atKey xs k).map (·.2)):=by
 induction r with
 |nil=>exact True.intro
 | @cons p q ps qs hq t ih=>
  by_cases e:p.1=k
  ·rw[U6 e];have:atKey (q::qs) k=aA q.2:=by unfold atKey;rw[List.find?_cons_of_pos (by rw[<-hq.1];exact decide_eq_true e)];rfl
   rw[this];exact hq.2.2
  ·rw[Jx e];have:atKey (q::qs) k=atKey qs k:=by unfold atKey;rw[List.find?_cons_of_neg (by rw[<-hq.1];simpa using e)]
   rw[this];exact ih
end
def IsN(H:Hp)(a:ak):Prop:=∃kvs ep bs,H a=aA (.dN kvs ep bs)
def Zsc(td ty:TE):TE:=λσ H Q=>td σ H λx H1=>ty σ H1 λy H2=>∃a b kvs ep bs k v,x= .ref a/\y= .ref b/\H2 a=aA (.dN kvs ep bs)/\Ji H2 k b/\Wy kvs k=aA v/\Q v H2
def Zlg(td ty tx:TE):TE:=λσ H Q=>td σ H λx H1=>∃a,x= .ref a/\IsN H1 a/\ty σ H1 λy H2=>tx σ H2 λz H3=>∃kvs ep bs k b,y= .ref b/\H3 a=aA (.dN kvs ep bs)/\Ji H3 k b/\kvs.length<sizeLine/\
 ((∃v,Wy kvs k=aA v/\Q v H3)\/(Wy kvs k=aB/\∀ep',Q z (Z5 H3 a (.dN (kvs++[(k,z)]) ep' (bs++[b])))))
section
variable{X:Cx}{o i e f:ci}{td ty tx:TE}{pos apos cpos:Pos}
theorem Zlh{A:cj}{P:bu}{w:ck}(hu:A.units+2<dw):(E7 P w).room A.in1:=hu
theorem Zi7(hu:X.A.units+2<dw)(ho:PE X o td)(hi:PE X i ty)(hs:Zmg i):PE X (.Subscript o i pos) (Zsc td ty):=by intro pins s σ H Q I h;refine Hi PySem.F.slot_dict_getitem.lookup hs (Wo (ho pins s σ H _ I h) λu s1 ⟨x,H1,I1,rx,q1⟩=>Wo (hi pins s1 σ H1 _ I1 q1) λiv s2 zq9=>?_);obtain⟨y,H2,I2,ry,a,b,kvs,ep,bs,k,v,ex,ey,ea,eb,ev,q2⟩:=zq9;subst ex ey;obtain rfl:u=bv a:=rx;obtain rfl:iv=bv b:=ry;obtain⟨z,hd,xs,rel,dd,_⟩:=Zfp I2.hok ea;obtain⟨w',hw,rw'⟩:=C3.some_of (v:=v) (o:=(atKey xs k).map (·.2)) (by rw[<-ev];exact rel.val k);obtain⟨p,hp,hp2⟩:=cm.mp hw;refine⟨dd.typeIs,wpAny_getItem_heap (Zlh hu) (Lx I2.hok eb) dd hp ?_⟩;rw[hp2];exact⟨v,H2,I2.tok _,rw',q2⟩
theorem Dz(hu:X.A.units+2<dw)(ho:PE X o td)(he:PE X e ty)(hf:PE X f tx)(m:M2 X o "setdefault" apos e f cpos):PE X (.Call (.Attribute o "setdefault" apos) [e,f] [] cpos) (Zlg td ty tx):=by
 intro pins s σ H Q I h;refine wpAny_Call_method m.base m.few m.line PySem.F.plainAttrs_dict PySem.F.slot_dict_setdefault PySem.F.type_dict_setdefault (Wo (ho pins s σ H _ I h) λu s1 zq9=>?_);obtain⟨x,H1,I1,rx,a,ex,d,q1⟩:=zq9;subst ex;obtain rfl:u=bv a:=rx;obtain⟨kvs1,ep1,bs1,ea1⟩:=d;obtain⟨_,_,xs1,_,dd1,_⟩:=Zfp I1.hok ea1;refine⟨dd1.typeIs,λb q=>?_,?_⟩
 ·cases q;obtain⟨ob,_,_,h1,h2,_⟩:=dd1;exact⟨ob,h1,h2.2.1⟩
 rw[m.trees];refine Calls.callWith_builtin rfl (Calls.evalArgs_plain (Calls.spliced_cons (Wo (he pins s1 σ H1 _ I1 q1) λiv s2 ⟨y,H2,I2,ry,q2⟩=>
  Calls.spliced_cons (Wo (hf pins s2 σ H2 _ I2 q2) λfv s3 ⟨z,H3,I3,rz,kvs,ep,bs,k,b,ey,ea,eb,hl,q3⟩=>Calls.spliced_nil ?_))))
 subst ey;obtain rfl:iv=bv b:=ry;obtain⟨hz,hd,xs,rel,dd,hbs⟩:=Zfp I3.hok ea;have hxl:xs.length=kvs.length:=(gu rel).symm;refine c5 PySem.F.slot_dict_setdefault dd.typeIs PySem.F.entry_dict_setdefault ?_ (PySem.F.args_dict_setdefault_3 _ _ _);unfold Builtin.«dict.setdefault»;refine ad (m:=Builtin.Dict.keyAndDefault "setdefault" ⟨[.ref a,.ref b,fv],[]⟩) ?_;show ba _ _ (Builtin.Dict.notOrdered "setdefault" ⟨[.ref a,.ref b,fv],[]⟩>>=_) _ _ s3;refine ad (wpAny_notOrdered_dict dd.typeIs ?_);refine ag (a:=(a,bv b,aA fv)) ?_;dsimp only;rw[if_neg (by rw[hd];simp)];refine ad (P3 (knd:=E7 X.prog X.w) (Zlh hu) (Lx I3.hok eb) dd (λp hp=>?_) (λhno h' dd' hs=>?_) (by omega))
 ·rcases q3 with⟨v,ev,q⟩|⟨ev,_⟩
  ·have r:=rel.val k;rw[hp,ev]at r;exact ag ⟨_,rfl,v,H3,I3.tok _,r,q⟩
  ·have r:=rel.val k;rw[hp,ev]at r;exact r.elim
 ·rcases q3 with⟨v,ev,q⟩|⟨ev,q⟩
  ·have r:=rel.val k;rw[hno,ev]at r;exact r.elim
  ·obtain⟨ob,es,ep',hq,h2,h3,h4,_,h5⟩:=dd';refine ag ⟨_,rfl,z,_,Gw I3 (ob:=.dN (kvs++[(k,z)]) ep' (bs++[b])) (by rw[ea];exact True.intro) hs ⟨ob,hq⟩ ⟨by rw[bj,List.length_singleton];omega,hd,xs++[(k,b,fv)],?_,ob,es,hq,h2,h3,h4,h5,by rw[cq,hbs];rfl⟩,rz,q ep'⟩;have app:∀{l:List (Zj×V)} {m:List (Zj×ak×aj)},KNt H3 l m->Paired (λ(p:Zj×V) (q:Zj×ak×aj)=>p.1=q.1/\Ji (Z5 H3 a (.dN (kvs++[(k,z)]) ep' (bs++[b]))) p.1 q.2.1/\Zm p.2 q.2.2) (l++[(k,z)]) (m++[(k,b,fv)]):=by
    have up:∀c ys,H3 c=aA (.tup ys)->Z5 H3 a (.dN (kvs++[(k,z)]) ep' (bs++[b])) c=aA (.tup ys):=λc ys ec=>by rw[Zn (Ti ec ea (λz=>nomatch z))];exact ec
    intro l m r;induction r with
    |nil=>exact .cons ⟨rfl,eb.mono up,rz⟩ .nil
    |cons hq t ih=>exact .cons ⟨hq.1,hq.2.1.mono up,hq.2.2⟩ ih
   exact app rel
theorem Zfq{P:bu}{w:ck}{H:Hp}(h:dq)(hb:d8<h.objs.size):Z9 P w H (h.push {cls:=.type "dict",data:=.dict #[]}) h.objs.size (.dN [] 0 []):=
 ⟨dn _,beq_eq_false_iff_ne.mpr (Ne.symm (b4 hb)),[],.nil,_, #[],a9 _ rfl,⟨rfl,rfl,rfl⟩,rfl,rfl,c7,rfl⟩
def Zfr:TE:=λ_ H Q=>∀p,H p=aB->Q (.ref p) (Z5 H p (.dN [] 0 []))
theorem Zfs:PE X (.Dict [] [] pos) Zfr:=λpins s σ H Q I h=>
 wpAny_Dict_empty ⟨.ref s.heap.objs.size,_,I.laid (a:=s.heap.objs.size) (o:=.dN [] 0 []) (t':=s.toks) (λ_ _ q=>aq _ q) (a8 _) (Zfq s.heap I.big),rfl,h _ (I.hok.fresh (a8 _))⟩
def D0(K:af):V->List V->Hp->VK->Prop:=λx vs H Q=>∃l b xs zs,x= .ref l/\vs=[.ref b]/\H l=aA (.lst xs)/\Wp K H b zs/\xs.length+zs.length<=sizeLine/\Q .non (Z5 H l (.lst (xs++zs)))
end
end L2
namespace L2
open PySem PySem.Spec PySem.Calls PyProof.Rows
theorem Zi8(l:ak)(items:Array aj)(n:Nat)(b:ak)(items2:Array aj)(n2:Nat)(dc:Option ak)(sl:Array (Option aj))(hs0:¬(!items.isEmpty&&Builtin.List.listTooLong (items.size+items2.size))=aC)(hs1:items.size<=sizeLine)(hs2:items.size+items2.size<=sizeLine+1):
  Meets (Builtin.«list.extend» ⟨[.ref l,.ref b],[]⟩) (λ_ R s=>s.heap.get? l=aA {cls:=.type "list",dict:=aB,data:=.seq items n,slots:= #[]}/\s.heap.get? b=aA {cls:=.type "list",dict:=dc,data:=.seq items2 n2,slots:=sl}/\R (.ok (.ret cf)) {s with heap:=s.heap.update l (c9 λx=>x++items2),toks:=s.toks}):=
 .of_wp λprog w A R s h=>by
  obtain⟨hp,g,d,tk,os⟩:=s;obtain⟨hl,hb,h⟩:=h;have f1:=AutoSeq1.idx_int;have f2:=AutoSeq1.sub_tuple_tuple;have f3:=AutoSeq1.sub_list_list;have f4:=AutoSeq1.sub_tuple_list;have f5:=AutoSeq1.sub_list_tuple;have hz':(items++items2).size<=sizeLine+1:=by rw[Array.size_append];exact hs2
  wp_walk using(wpAny_updateSeq hl rfl (hz:=hs1) (_hz':=hz')),AutoSeq1.wpAny_loadPart' hl,AutoSeq1.wpAny_loadPart' hb;exact⟨_,rfl,h⟩
theorem D1{X:Cx}:MtM X "list.extend" (D0 X.K):=by
 intro pins s σ H x vs v us Q I rx rv h;obtain⟨l,b,xs,zs,rfl,rfl,hH,hB,hz,q⟩:=h;cases rx;obtain⟨u,rfl,ru⟩:=rv.one;cases ru;obtain⟨z,its,n,r,hl,e⟩:=I.lstM hH;obtain⟨its2,r2,⟨o,n2,ho,hc,hdn,hd⟩,z2⟩:=I.list hB;have hl2:=r2.length;obtain⟨cls,dc,data,sl⟩:=o;cases hc;cases hd;have hsz:its.toArray.size+its2.toArray.size<=sizeLine:=by rw[bi,bi];omega
 have hlong:¬(!its.toArray.isEmpty&&Builtin.List.listTooLong (its.toArray.size+its2.toArray.size))=aC:=by rw[Zcx hsz,Bool.and_false];exact bh
 refine call_meets F.slot_list_extend ⟨_,e,rfl⟩ F.entry_list_extend (F.args_list_extend_2 _ _)
  (Zi8 l its.toArray n b its2.toArray n2 dc sl hlong (by rw[bi];omega) (by omega)) ⟨e,ho,?_⟩
 refine⟨.non,_,I.lset (its':=its++its2) hH e (by simp) (r.append r2) ?_,rfl,q⟩;rw[bj];omega
end L2
namespace DL
open PySem PySem.Spec PyProof.Rows L2 TT
variable{K:af}
theorem Kids.appL{F:Hp}:∀{xss:List (List D)} {ws:List V} {ns:Zo} {p:Nat} {b:ak},Kids K F xss ws ns->ws[p]? =aA (.ref b)->(Cu ns).Nodup->
  ∃xs vs,xss[p]? =aA xs/\(b,HO.lst vs)∈ns/\Reps K F xs vs/\∀{ys:List D} {us:List V},Reps K F ys us->∃ns',Kids K F (xss.set p (xs++ys)) ws ns'/\Cu ns'=Cu ns/\∀q∈ns',q=(b,HO.lst (vs++us))\/(q∈ns/\q.1≠b)
 |_,_,_,_,_,.nil,e,_=>by simp at e
 |_,_,_,0,b,@Kids.cons _ _ xs xss b' vs ws ns r t,e,nd=>by
  have e':b'=b:=by simpa using e
  subst e';obtain⟨n1,n2⟩:=fq.mp nd;refine⟨xs,vs,rfl,ah,r,fun{ys us} hd=>⟨(b',.lst (vs++us))::ns,.cons (r.append hd) t,rfl,λq hq=>?_⟩⟩;rcases bo.mp hq with z|z
  ·exact .inl z
  ·exact .inr ⟨ar _ z,λw=>n1 (a6.mpr ⟨q,z,w⟩)⟩
 |_,_,_,p+1,b,@Kids.cons _ _ xs0 xss b' vs0 ws ns r t,e,nd=>by
  obtain⟨n1,n2⟩:=fq.mp nd;obtain⟨xs,vs,h1,h2,h3,h4⟩:=Kids.appL (p:=p) (b:=b) t (by simpa using e) n2;refine⟨xs,vs,by simpa using h1,ar _ h2,h3,fun{ys us} hd=>?_⟩;obtain⟨ns',k1,k2,k3⟩:=h4 hd;refine⟨(b',.lst vs0)::ns',by rw[List.set_cons_succ];exact .cons r k1,by show b'::Cu ns'=b'::Cu ns;rw[k2],λq hq=>?_⟩;rcases bo.mp hq with z|z
  ·refine .inr ⟨by rw[z];exact ah,λw=>n1 ?_⟩;rw[z]at w;exact a6.mpr ⟨_,h2,w.symm⟩
  ·rcases k3 q z with w|⟨w,w2⟩
   ·exact .inl w
   ·exact .inr ⟨ar _ w,w2⟩
@[simp] def Jd:List Zj->Zj->Option Nat
 | [],_=>aB
 |a::r,k=>if a=k then aA 0 else(Jd r k).map (· +1)
theorem Fk{k:Zj}:∀{kvs:List (Zj×V)} {p:Nat},Jd (kvs.map (·.1)) k=aA p->∃v,(kvs.map (·.2))[p]? =aA v/\Wy kvs k=aA v
 | [],_,e=>by cases e
 |q::r,p,e=>by
  have e:(if q.1=k then aA 0 else(Jd (r.map (·.1)) k).map (· +1))=aA p:=e;by_cases h:q.1=k
  ·rw[if_pos h]at e;cases e;exact⟨q.2,rfl,U6 h⟩
  ·rw[if_neg h]at e;obtain⟨p',e1,e2⟩:=cm.mp e;subst e2;obtain⟨v,h1,h2⟩:=Fk e1;exact⟨v,by simpa using h1,by rw[Jx h];exact h2⟩
theorem Fm{k:Zj}:∀{kvs:List (Zj×V)},Jd (kvs.map (·.1)) k=aB->Wy kvs k=aB
 | [],_=>rfl
 |q::r,e=>by
  have e:(if q.1=k then aA 0 else(Jd (r.map (·.1)) k).map (· +1))=aB:=e;by_cases h:q.1=k
  ·rw[if_pos h]at e;cases e
  ·rw[if_neg h]at e;rw[Jx h];exact Fm (Option.map_eq_none_iff.mp e)
theorem KN.snoc{F:Hp}{kvs:List (Zj×V)}{bs:List ak}{k:Zj}{v:V}{b:ak}(h:KN F kvs bs)(hb:Ji F k b):KN F (kvs++[(k,v)]) (bs++[b]):=by
 induction h with
 |nil=>exact .cons hb .nil
 |cons r t ih=>exact .cons r ih
theorem Zft{F:Hp}{ks:List Zj}{xss:List (List D)}{v:V}{ns:Zo}(h:Shape K F (.oX ks xss) v ns):∃a kvs ns' ep bs,v= .ref a/\ns=(a,.dN kvs ep bs)::ns'/\KN F kvs bs/\kvs.map (·.1)=ks/\Kids K F xss (kvs.map (·.2)) ns':=by
 cases h with
 |oX kb e r=>exact⟨_,_,_,_,_,rfl,rfl,kb,e,r⟩
section
variable{Z:Ent K}{H:Hp}{σ:L2.St}{Q:VK}{E:Yq}
@[simp] def Fn:FE:=λδ=>some (.tmp (.oX [] []),δ)
theorem Zi9(h:Zc Z Fn σ H Q):Zfr σ H Q:=by obtain⟨F,δ,own,rv,δ',s,e,k⟩:=h;cases e;intro p hp;have f:Fin Z F H σ δ own (.oX [] []) Q:=λv H' F' ns a b c t=>k v H' F' own a b c ⟨ns,t⟩;exact f.one s (.oX (kvs:=[]) .nil rfl .nil) hp
theorem Rl{F:Hp}{δ:Yg}{own:Nat->Zo}{i:Nat}{ks:List Zj}{xss:List (List D)}(s:SR Z F H σ δ own)(e:δ[i]? =aA (aA (.oX ks xss))):∃a kvs ep bs ns',σ[i]? =aA (aA (.ref a))/\own i=(a,.dN kvs ep bs)::ns'/\H a=aA (.dN kvs ep bs)/\KN F kvs bs/\kvs.map (·.1)=ks/\Kids K F xss (kvs.map (·.2)) ns':=by obtain⟨x,hx,sh⟩:=s.at' i _ e;obtain⟨a,kvs,ns',ep,bs,rfl,en,kb,ek,kd⟩:=Zft sh;exact⟨a,kvs,ep,bs,ns',hx,en,(s.ok i (a,.dN kvs ep bs) (by rw[en];exact ah)).2.2,kb,ek,kd⟩
theorem Zsd{F:Hp}{δ:Yg}{own:Nat->Zo}{i:Nat}{ks:List Zj}{xss:List (List D)}{k:Zj}{p:Nat}(s:SR Z F H σ δ own)(e:δ[i]? =aA (aA (.oX ks xss)))(hp:Jd ks k=aA p):
  ∃a kvs ep bs c vs xs,σ[i]? =aA (aA (.ref a))/\H a=aA (.dN kvs ep bs)/\kvs.length=xss.length/\Wy kvs k=aA (.ref c)/\H c=aA (.lst vs)/\xss[p]? =aA xs/\xs.length=vs.length/\F c=aB/\
   ∀(ys:List D) (us:List V),Reps K F ys us->∃own',SR Z F (Z5 H c (.lst (vs++us))) σ (δ.set i (aA (.oX ks (xss.set p (xs++ys))))) own':=by
 obtain⟨a,kvs,ep,bs,ns',hx,en,hH,kb,ek,kd⟩:=Rl s e;rw[<-ek]at hp;obtain⟨v,g1,g2⟩:=Fk hp;obtain⟨c,rfl⟩:=kd.ref g1;have nd:=s.nod i;rw[en]at nd;obtain⟨n1,n2⟩:=fq.mp nd;obtain⟨xs,vs,q1,q2,q3,q4⟩:=kd.appL g1 n2;have mb:(c,HO.lst vs)∈own i:=by rw[en];exact ar _ q2
 obtain⟨fc,_,hHc⟩:=s.ok i _ mb;refine⟨a,kvs,ep,bs,c,vs,xs,hx,hH,by have:=kd.length;rw[ao]at this;exact this.symm,g2,hHc,q1,q3.length,fc,λys us r=>?_⟩;obtain⟨ns2,k1,k2,k3⟩:=q4 r;have hac:a≠c:=λz=>n1 (a6.mpr ⟨_,q2,z.symm⟩);refine⟨_,s.change (sv':=.oX ks (xss.set p (xs++ys))) (o':=.lst (vs++us)) (ns':=(a,.dN kvs ep bs)::ns2) e hx mb (.oX kb ek k1) (λq hq=>?_) ?_⟩
 ·rcases bo.mp hq with z|z
  ·exact .inr ⟨by rw[en,z];exact ah,by rw[z];exact hac⟩
  ·rcases k3 q z with w|⟨w,w2⟩
   ·exact .inl w
   ·exact .inr ⟨by rw[en];exact ar _ w,w2⟩
 ·show(a::Cu ns2).Nodup;rw[k2];exact nd
theorem Zse{F:Hp}{δ:Yg}{own:Nat->Zo}{i:Nat}{ks:List Zj}{xss:List (List D)}{k:Zj}(s:SR Z F H σ δ own)(e:δ[i]? =aA (aA (.oX ks xss)))(hp:Jd ks k=aB):
  ∃a kvs ep bs,σ[i]? =aA (aA (.ref a))/\H a=aA (.dN kvs ep bs)/\kvs.length=xss.length/\Wy kvs k=aB/\
   ∀(l b:ak) (ys:List D) (us:List V) (ep':Nat),H l=aB->Ji F k b->Reps K F ys us->∃own',SR Z F (Z5 (Z5 (Z5 H l (.lst [])) a (.dN (kvs++[(k,.ref l)]) ep' (bs++[b]))) l (.lst us)) σ (δ.set i (aA (.oX (ks++[k]) (xss++[ys])))) own':=by
 obtain⟨a,kvs,ep,bs,ns',hx,en,hH,kb,ek,kd⟩:=Rl s e;rw[<-ek]at hp;have nd:=s.nod i;rw[en]at nd;obtain⟨n1,n2⟩:=fq.mp nd;have mb:(a,HO.dN kvs ep bs)∈own i:=by rw[en];exact ah
 refine⟨a,kvs,ep,bs,hx,hH,by have:=kd.length;rw[ao]at this;exact this.symm,Fm hp,λl b ys us ep' hl hb r=>?_⟩;have hla:l≠a:=λz=>by rw[z,hH]at hl;cases hl
 have eH:Z5 (Z5 (Z5 H l (.lst [])) a (.dN (kvs++[(k,.ref l)]) ep' (bs++[b]))) l (.lst us)=Z5 (Z5 H l (.lst us)) a (.dN (kvs++[(k,.ref l)]) ep' (bs++[b])):=by
  funext c;unfold Z5;by_cases h1:c=l
  ·rw[if_pos h1];by_cases h2:c=a
   ·exact absurd (h1.symm.trans h2) hla
   ·rw[if_neg h2,if_pos h1]
  ·rw[if_neg h1];by_cases h2:c=a
   ·rw[if_pos h2,if_pos h2]
   ·rw[if_neg h2,if_neg h2,if_neg h1,if_neg h1]
 rw[eH];have sm:=Qe (o:=HO.lst us) hl;have s1:=s.grow sm;have t:TmpOk Z F (Z5 H l (.lst us)) own (.ol ys) (.ref l) [(l,.lst us)]:=by
  refine⟨.ol r,Er,λq hq=>?_,λj q r hq hr z=>?_⟩
  ·obtain rfl:=au.mp hq;exact⟨s.le.free hl,s.old.free hl,Z3⟩
  ·obtain rfl:=au.mp hq;have z':l=r.1:=z;have:=(s.ok j r hr).2.2;rw[<-z',hl]at this;cases this
 have hb':∀p∈own i,p.1≠l:=λp hp z=>t.sep i (l,.lst us) p ah hp z.symm;refine⟨_,s1.changeT (o':=.dN (kvs++[(k,.ref l)]) ep' (bs++[b])) (ns':=(a,.dN (kvs++[(k,.ref l)]) ep' (bs++[b]))::(ns'++[(l,.lst us)])) t e hx mb (.oX (kb.snoc hb) (by rw[cq,ek];rfl) (by rw[cq];exact kd.snoc r)) (λp hp=>?_) ?_⟩
 ·rcases bo.mp hp with z|z
  ·exact .inl z
  ·rcases cn.mp z with z|z
   ·exact .inr (.inl ⟨by rw[en];exact ar _ z,λw=>n1 (a6.mpr ⟨p,z,w⟩)⟩)
   ·exact .inr (.inr z)
 ·show(a::(ns'++[(l,HO.lst us)]).map (·.1)).Nodup;rw[cq];refine fq.mpr ⟨λz=>?_,?_⟩
  ·rcases cn.mp z with z|z
   ·exact n1 z
   ·exact hb' _ mb (au.mp z)
  ·refine di.mpr ⟨n2,Er,λx hx y hy z=>?_⟩;obtain⟨p,hp,ep⟩:=a6.mp hx;have hy':y=l:=au.mp hy;exact hb' p (by rw[en];exact ar _ hp) (by rw[ep,z,hy'])
@[simp] def P4(ks:List Zj)(xss:List (List D))(k:Zj)(ys:List D):List Zj×List (List D):=match Jd ks k with
 |some p=>(ks,xss.set p (xss.getD p []++ys))
 |none=>(ks++[k],xss++[ys])
def okX(xss:List (List D))(n:Nat):Prop:=xss.length<a7/\n<a7/\∀xs∈xss,xs.length+n<a7
open Classical in
def Mu(i:Nat)(fk:FE)(j:Nat)(ext:Bool):FS:=λδ=>match δ[i]? with
 |some (aA (.oX _ _))=>(fk δ).bind λp=>(frz p.1 p.2).bind λq=>(nk? q.1).bind λk=>match q.2[i]?,q.2[j]? with
  |some (aA (.oX ks xss)),aA (aA (.fz d))=>(if ext=aC then(match d with| .lst ys=>aA ys|_=>aB)else aA [d]).bind λys=>if okX xss ys.length then aA (.nx (q.2.set i (aA (.oX (P4 ks xss k ys).1 (P4 ks xss k ys).2))))else aB
  |_,_=>aB
 |_=>aB
theorem D2{i j:Nat}{fk:FE}{ext:Bool}(h:Z1 Z (Mu i fk j ext) E σ H):Bp (tBM K "list" (if ext=aC then D0 K else Qy) (Zlg (Ja i) (Zc Z fk) (Zl8 Rz)) (Ju (Ja j) Rz)) E σ H:=by
 obtain⟨F,δ,own,fl,s,e,k⟩:=h;unfold Mu at e;split at e
 ·rename_i ks0 xss0 hi0;obtain⟨⟨rv,δ1⟩,e1,e⟩:=aa.mp e;obtain⟨⟨kd,δ2⟩,e2,e⟩:=aa.mp e;obtain⟨kk,e3,e⟩:=aa.mp e;dsimp only at e2 e3 e;split at e
  ·rename_i ks xss d hi hj;obtain⟨ys,e4,e⟩:=aa.mp e;split at e
   ·rename_i hok;cases e;obtain⟨a,kvs0,ep0,bs0,ns0,hx0,en0,hH0,_⟩:=Rl s hi0;refine⟨.ref a,hx0,a,rfl,⟨_,_,_,hH0⟩,F,δ,own,rv,δ1,s,e1,λv H1 F1 own1 sH sF s1 r1=>?_⟩;obtain⟨F2,sF2,s2,r2⟩:=s1.settleR r1;obtain⟨F3,own3,sF3,s3,r3⟩:=s2.frzR r2 e2;rw[Zfl e3]at r3;obtain⟨b,rfl,hb⟩:=Rk r3;obtain⟨y,hy,shy⟩:=s3.at' j _ hj;have ry:=Q4 shy;have hus:∃us,Reps K F3 ys us/\(∀{c:ak} {vs:List V} {H4:Hp} {Q:VK},Ze F3 H4->H4 c=aA (.lst vs)->F3 c=aB->vs.length+ys.length<a7->Q .non (Z5 H4 c (.lst (vs++us)))->(if ext=aC then D0 K else Qy) (.ref c) [y] H4 Q):=by
     cases ext with
     |false=>
      obtain rfl:[d]=ys:=by simpa using e4
      refine⟨[y],.cons ry .nil,fun{c vs H4 Q} le hc hf hz q=>?_⟩;exact⟨c,vs,y,rfl,rfl,hc,by simpa using(by simp at hz;omega:vs.length<a7),q⟩
     |true=>
      simp only[if_true]at e4;split at e4
      ·rename_i zs;cases e4;cases ry with
       | @lst l _ us hl _ ru=>refine⟨us,ru,fun{c vs H4 Q} le hc hf hz q=>?_⟩;exact⟨c,l,vs,us,rfl,rfl,hc,Y2 le hl,by rw[<-ru.length];omega,q⟩
      ·cases e4
    obtain⟨us,ru,step⟩:=hus;have lu:=ru.length;have sFt:=sF.trans (sF2.trans sF3);refine⟨dn _,λl hl=>?_⟩;have sml:=Qe (o:=HO.lst []) hl;cases hp:Jd ks kk with
    |some p=>
     obtain⟨a',kvs,ep,bs,c,vs,xs,hx,hH,hlen,hv,hHc,q1,q2,fc,q3⟩:=Zsd (s3.grow sml) hi hp;rw[hx0]at hx;cases hx;have hxs:=cz q1;have hz:=hok.2.2 xs hxs;refine⟨kvs,ep,bs,kk,b,rfl,hH,hb.mono λ_ _ q=>(s3.grow sml).le _ _ q,by rw[hlen];exact hok.1,.inl ⟨.ref c,hv,.inl ⟨rfl,vs,.inl (.inl hHc)⟩,y,hy,?_⟩⟩;refine step (s3.grow sml).le hHc fc (by omega) ?_;obtain⟨own',sr⟩:=q3 ys us ru;refine k σ _ F3 own' sFt ?_;have:P4 ks xss kk ys=(ks,xss.set p (xs++ys)):=by
      unfold P4;rw[hp];have:xss.getD p []=xs:=by rw[bz,q1];rfl
      show(ks,xss.set p (xss.getD p []++ys))=_;rw[this]
     rw[this];exact sr
    |none=>
     obtain⟨a',kvs,ep,bs,hx,hH,hlen,hv,q3⟩:=Zse s3 hi hp;rw[hx0]at hx;cases hx;have hH':(Z5 H1 l (.lst [])) a=aA (.dN kvs ep bs):=sml _ _ hH;refine⟨kvs,ep,bs,kk,b,rfl,hH',hb.mono λ_ _ q=>(s3.grow sml).le _ _ q,by rw[hlen];exact hok.1,.inr ⟨hv,λep'=>?_⟩⟩;have hla:l≠a:=λz=>by rw[z,hH]at hl;cases hl
     have hHl:(Z5 (Z5 H1 l (.lst [])) a (.dN (kvs++[(kk,.ref l)]) ep' (bs++[b]))) l=aA (.lst []):=by rw[Zn hla,Z3]
     have leN:Ze F3 (Z5 (Z5 H1 l (.lst [])) a (.dN (kvs++[(kk,.ref l)]) ep' (bs++[b]))):=λc u ec=>by
      have hca:c≠a:=λz=>by obtain⟨a2,kvs2,ep2,bs2,ns2,hx2,en2,_⟩:=Rl s3 hi;rw[hx0]at hx2;cases hx2;have:=(s3.ok i (a,.dN kvs2 ep2 bs2) (by rw[en2];exact ah)).1;rw[z,this]at ec;cases ec
      rw[Zn hca];exact(s3.grow sml).le _ _ ec
     refine⟨.inl ⟨rfl,[],.inl (.inl hHl)⟩,y,hy,?_⟩;refine step (vs:=[]) leN hHl (s3.le.free hl) (by have h1:=hok.2.1;simpa using h1) ?_;obtain⟨own',sr⟩:=q3 l b ys us ep' hl hb ru;refine k σ _ F3 own' sFt ?_;have:P4 ks xss kk ys=(ks++[kk],xss++[ys]):=by unfold P4;rw[hp]
     rw[this];exact sr
   ·cases e
  ·cases e
 ·cases e
end
section
variable{X:Cx}{Z:Ent X.K}{a b c:ci}{fa fb fc:FE}{pos:Pos}
theorem D3:PE X (.Dict [] [] pos) (Zc Z Fn):=Zfs.imp λ_ _ _ h=>Zi9 h
theorem Zja(i j:Nat){x y:Str}{k:ci}{fk:FE}{px py p2 ap1 cp1 apos cpos:Pos}(hu:X.A.units+64<dw)(hk:PE X k (Zc Z fk))(hN:X.N[i]? =aA x:=by rfl)(hv:Sy X.env.scope x:=by first|exact Or.inl rfl|exact gp (Or.inl rfl)|exact gp (gp rfl))(hd:(x==("__debug__":Str))=aD:=by decide)(hcd:(x==("__classdict__":Str))=aD:=by decide)
  (hN':X.N[j]? =aA y:=by rfl) (hv':Sy X.env.scope y:=by first|exact Or.inl rfl|exact gp (Or.inl rfl)|exact gp (gp rfl)) (hd':(y==("__debug__":Str))=aD:=by decide) (hcd':(y==("__classdict__":Str))=aD:=by decide)
  (m:M2 X (.Name x px) "setdefault" ap1 k (.List [] p2) cp1:=by exact⟨rfl,rfl,rfl,rfl⟩)
  (hbase:attributeBase (.Call (.Attribute (.Name x px) "setdefault" ap1) [k,.List [] p2] [] cp1) "append" X.env (f8 (.Call (.Attribute (.Name x px) "setdefault" ap1) [k,.List [] p2] [] cp1) X.env)=f8 (.Call (.Attribute (.Name x px) "setdefault" ap1) [k,.List [] p2] [] cp1) X.env:=by rfl)
  (hfew:((f6 cpos (ay [.Name y py] X.env)).all (λx=>!x.1)&&(backToKw cpos (keywordEach [] X.env)).all (λx=>x.1.isSome)&&decide ([Expr.Name y py].length+([]:List Keyword).length+(if([]:List Keyword).isEmpty then 0 else 1)<30))=aC:=by rfl)
  (hline:(apos.endLine==cpos.line)=aC:=by rfl) (hs:ay [.Name y py] X.env=(aD,f8 (.Name y py) X.env)::ay [] X.env:=by rfl) (hpl:(f6 cpos (ay [] X.env)).any (·.1)=aD:=by rfl) (hsw:swapsWith (.Call (.Attribute (.Call (.Attribute (.Name x px) "setdefault" ap1) [k,.List [] p2] [] cp1) "append" apos) [.Name y py] [] cpos) aB pos.line X.env=pure aD:=by rfl):
  PS X (.Expr (.Call (.Attribute (.Call (.Attribute (.Name x px) "setdefault" ap1) [k,.List [] p2] [] cp1) "append" apos) [.Name y py] [] cpos) pos) (Z1 Z (Mu i fk j aD)):=
 (Og (Ii PySem.F.plainAttrs_list PySem.F.slot_list_append PySem.F.type_list_append Cc (Dz (by omega) (Js (i:=i) hN hv hd hcd) hk (S7 Jv) m) (W3 (Js (i:=j) hN' hv' hd' hcd') Jv hs) hbase hfew hline hs hpl) hsw).imp λ_ _ _ h=>D2 (ext:=aD) h
theorem Zjb(i j:Nat){x y:Str}{k:ci}{fk:FE}{px py p2 ap1 cp1 apos cpos:Pos}(hu:X.A.units+64<dw)(hk:PE X k (Zc Z fk))(hN:X.N[i]? =aA x:=by rfl)(hv:Sy X.env.scope x:=by first|exact Or.inl rfl|exact gp (Or.inl rfl)|exact gp (gp rfl))(hd:(x==("__debug__":Str))=aD:=by decide)(hcd:(x==("__classdict__":Str))=aD:=by decide)
  (hN':X.N[j]? =aA y:=by rfl) (hv':Sy X.env.scope y:=by first|exact Or.inl rfl|exact gp (Or.inl rfl)|exact gp (gp rfl)) (hd':(y==("__debug__":Str))=aD:=by decide) (hcd':(y==("__classdict__":Str))=aD:=by decide)
  (m:M2 X (.Name x px) "setdefault" ap1 k (.List [] p2) cp1:=by exact⟨rfl,rfl,rfl,rfl⟩)
  (hbase:attributeBase (.Call (.Attribute (.Name x px) "setdefault" ap1) [k,.List [] p2] [] cp1) "extend" X.env (f8 (.Call (.Attribute (.Name x px) "setdefault" ap1) [k,.List [] p2] [] cp1) X.env)=f8 (.Call (.Attribute (.Name x px) "setdefault" ap1) [k,.List [] p2] [] cp1) X.env:=by rfl)
  (hfew:((f6 cpos (ay [.Name y py] X.env)).all (λx=>!x.1)&&(backToKw cpos (keywordEach [] X.env)).all (λx=>x.1.isSome)&&decide ([Expr.Name y py].length+([]:List Keyword).length+(if([]:List Keyword).isEmpty then 0 else 1)<30))=aC:=by rfl)
  (hline:(apos.endLine==cpos.line)=aC:=by rfl) (hs:ay [.Name y py] X.env=(aD,f8 (.Name y py) X.env)::ay [] X.env:=by rfl) (hpl:(f6 cpos (ay [] X.env)).any (·.1)=aD:=by rfl) (hsw:swapsWith (.Call (.Attribute (.Call (.Attribute (.Name x px) "setdefault" ap1) [k,.List [] p2] [] cp1) "extend" apos) [.Name y py] [] cpos) aB pos.line X.env=pure aD:=by rfl):
  PS X (.Expr (.Call (.Attribute (.Call (.Attribute (.Name x px) "setdefault" ap1) [k,.List [] p2] [] cp1) "extend" apos) [.Name y py] [] cpos) pos) (Z1 Z (Mu i fk j aC)):=
 (Og (Ii PySem.F.plainAttrs_list PySem.F.slot_list_extend PySem.F.type_list_extend D1 (Dz (by omega) (Js (i:=i) hN hv hd hcd) hk (S7 Jv) m) (W3 (Js (i:=j) hN' hv' hd' hcd') Jv hs) hbase hfew hline hs hpl) hsw).imp λ_ _ _ h=>D2 (ext:=aC) h
end
end DL
namespace L2
open PySem PySem.Spec PySem.Calls PyProof.Rows
def Zsf:V->V->Hp->VK->Prop:=λx y H Q=>∃a b kvs ep bs k v,x= .ref a/\y= .ref b/\H a=aA (.dN kvs ep bs)/\Ji H k b/\Wy kvs k=aA v/\Q v H
def Itn(a:ak)(n ep:Nat):It:=
 ⟨λi H=>∃kvs bs,H a=aA (.dN kvs ep bs)/\kvs.length=n/\i<n,λi H x H'=>H'=H/\∃kvs bs b,H a=aA (.dN kvs ep bs)/\bs[i]? =aA b/\x= .ref b,λi H=>∃kvs bs,H a=aA (.dN kvs ep bs)/\kvs.length=n/\n<=i⟩
theorem Zjc{P:bu}{w:ck}{K:af}{tg:ci}(a it:ak)(n ep:Nat):Turn P w K tg (Itn a n ep) [it] it (λi h=>h.IsKeyIter it a i n ep)where
 mem:=ah
 obj:=(On (P:=P) (w:=w) (K:=K) (tg:=tg) a it n ep).obj
 keep:=(On (P:=P) (w:=w) (K:=K) (tg:=tg) a it n ep).keep
 item:=by
  intro X hP hw hK hc i pins s σ H E I hf st hg;subst hP hw hK;obtain⟨kvs,bs,hq,hn,hi⟩:=hg;obtain⟨z,hd,xs,rel,od,es,g,x,c,en,nd,hbs⟩:=(show Z9 X.prog X.w H s.heap a (.dN kvs ep bs)from I.hok a _ hq)
  obtain⟨f0,f1,f2,f3,f4,f5⟩:=hf it ah;have hkv:kvs[i]? =aA (kvs[i]'(by omega)):=az (by omega);obtain⟨vv,hv,hr⟩:=Jp rel hkv;have hz:es.size=n:=by rw[<-aw,en,ao,<-gu rel,hn]
  have he:es[i]? =aA (entryOfKey (E7 X.prog X.w) vv):=by rw[<-b5,en,bf,hv];rfl
  refine G9 st g c hz he λh' st' sb=>?_;have I1:Inv X pins σ H {s with heap:=h'}:=I.turned (t':=s.toks) (λb o hb e=>(sb.2 b hb).trans e) f0 f1 f3 f4 f5;obtain⟨o,e1,c1,d1⟩:=id st';exact⟨.ref vv.2.1,rfl,Tl (s:={s with heap:=h'}) e1 c1 d1 (by decide) ⟨.ref vv.2.1,H,I1,rfl,⟨rfl,kvs,bs,vv.2.1,hq,by rw[<-hbs,bf,hv];rfl,rfl⟩,st',λb hb=>(hf b hb).1⟩⟩
 done:=by
  intro X hP hw hK hc i pins s σ H E I hf st hg;subst hP hw hK;obtain⟨kvs,bs,hq,hn,hi⟩:=hg;obtain⟨z,hd,xs,rel,od,es,g,x,c,en,nd,hbs⟩:=(show Z9 X.prog X.w H s.heap a (.dN kvs ep bs)from I.hok a _ hq)
  obtain⟨f0,f1,f2,f3,f4,f5⟩:=hf it ah;have hz:es.size=n:=by rw[<-aw,en,ao,<-gu rel,hn]
  exact Ra (I.ok.hd hc) st g c hz hi λh' eb=>⟨rfl,I.turned (t':=s.toks) (λb o hb e=>eb b o hb e) f0 f1 f3 f4 f5⟩
 self:=(On (P:=P) (w:=w) (K:=K) (tg:=tg) a it n ep).self
section
variable{X:Cx}{tg:ci}
def Zli(tl:TE):TI:=λσ H R=>tl σ H λx H1=>∃a kvs ep bs,x= .ref a/\H1 a=aA (.dN kvs ep bs)/\R (Itn a kvs.length ep) H1
theorem Zjd{l:ci}{tl:TE}(hl:PE X l tl):PI X tg l (Zli tl):=by
 intro pins s σ H R I h;refine Wo (hl pins s σ H _ I h) λv s1 zq9=>?_;obtain⟨x,H1,I1,r1,q1⟩:=zq9;obtain⟨a,kvs,ep,bs,rfl,hq,q⟩:=q1;cases r1;obtain⟨z,hd,xs,rel,od,es,g,x,c,en,nd,hbs⟩:=(show Z9 X.prog X.w H1 s1.heap a (.dN kvs ep bs)from I1.hok a _ hq)
 have hz:es.size=kvs.length:=by rw[<-aw,en,ao,<-gu rel]
 refine G8 hd g x c ⟨s1.heap.objs.size,[s1.heap.objs.size],_,_,H1,rfl,I1.kept (t':=s1.toks) λb o e=>aq _ e,Zjc a _ kvs.length ep,⟨_,a9 _ rfl,rfl,by rw[hz];rfl⟩,λb hb=>?_,q⟩;obtain rfl:=au.mp hb;exact I1.fpOk (a8 _) (I1.hok.fresh (a8 _))
end
end L2
namespace DL
open PySem PySem.Spec PyProof.Rows L2 TT
variable{K:af}
theorem Zbt{F:Hp}{a:ak}{kvs:List (Zj×V)}{ep:Nat}{bs:List ak}(h:F a=aA (.dN kvs ep bs))(kb:KN F kvs bs):Ux K (Itn a kvs.length ep) F ((kvs.map (·.1)).map Zs):=λF' H sF sH i=>by have q:H a=aA (.dN kvs ep bs):=sH _ _ (sF _ _ h);refine⟨λd hd=>?_,λhl=>⟨kvs,bs,q,rfl,by simpa using hl⟩⟩;rw[bx,bf]at hd;obtain⟨kv,h1,h2⟩:=cm.mp hd;refine⟨⟨kvs,bs,q,rfl,(ax.mp h1).1⟩,λx H' ⟨e1,kvs',bs',b,e2,e3,e4⟩=>?_⟩;subst e1;rw[q]at e2;cases e2;subst e4;obtain⟨b',g1,g2⟩:=Jp (kb.mono sF) h1;rw[e3]at g1;cases g1;rw[<-h2];exact⟨Ze.refl _,[],c7,λ_ h=>(nomatch h),Rj g2⟩
theorem Z7.dX{F H:Hp}{ks:List Zj}{ds:List D}{v:V}(le:Ze F H)(h:Z7 K F H (.dX ks ds) v):∃a kvs ep bs,v= .ref a/\H a=aA (.dN kvs ep bs)/\kvs.map (·.1)=ks/\Reps K F ds (kvs.map (·.2)):=by
 obtain⟨sv,ns,e,n,sh,hp⟩:=h;cases sh with
 |fz r=>cases e;cases r with|dX h kb e r=>exact⟨_,_,_,_,rfl,le _ _ h,e,r⟩
 |ol r=>cases e
 |oK e' r=>cases e
 |oT kb e' r=>cases e
 |oN e' r=>cases n
 |oX kb' e' r=>cases n
 |oD r=>cases n
 |oM kb' e' r=>cases n
 |oL _ r=>cases n
 |oQ e' r=>cases e
theorem Z7.nk{F H:Hp}{d:D}{k:Zj}{v:V}(le:Ze F H)(e0:nk? d=aA k)(h:Z7 K F H d v):∃b,v= .ref b/\Ji H k b:=by
 rw[Zfl e0]at h;obtain⟨sv,ns,e,n,sh,hp⟩:=h;have nt:∀{xs:List D},Zs k≠.lst xs:=fun{xs} z=>by cases k<;> cases z
 have nd:∀{ks:List Key} {xs:List D},Zs k≠.dK ks xs:=fun{ks xs} z=>by cases k<;> cases z
 have ndt:∀{ks:List (List Key)} {xs:List D},Zs k≠.dT ks xs:=fun{ks xs} z=>by cases k<;> cases z
 cases sh with
 |fz r=>have e:_=Zs k:=e;simp only[SV.toD]at e;subst e;obtain⟨b,rfl,hb⟩:=Rk r;exact⟨b,rfl,hb.mono λ_ _ q=>le _ _ q⟩
 |ol r=>exact absurd e.symm nt
 |oK e' r=>exact absurd e.symm nd
 |oT kb e' r=>exact absurd e.symm ndt
 |oN e' r=>cases n
 |oX kb' e' r=>cases n
 |oD r=>cases n
 |oM kb' e' r=>cases n
 |oL _ r=>cases n
 |oQ e' r=>exact absurd e.symm nd
section
variable{Z:Ent K}{H:Hp}{σ:L2.St}{Q:VK}{E:Yq}
@[simp] def Zfu(fe:FE):FD:=λδ=>(fe δ).bind λp=>(frz p.1 p.2).bind λq=>match q.1 with
 | .dX ks _=>aA (ks.map Zs,q.2)
 |_=>aB
theorem Zje{fe:FE}{R:It->Hp->Prop}(h:W5 Z (Zfu fe) σ H R):Zli (Zc Z fe) σ H R:=by
 obtain⟨F,δ,own,ds,δ',s,e,k⟩:=h;obtain⟨⟨rv,δ1⟩,e1,e2⟩:=aa.mp e;obtain⟨⟨d,δ2⟩,e3,e4⟩:=aa.mp e2;refine⟨F,δ,own,rv,δ1,s,e1,λv H1 F1 own1 sH sF s1 r1=>?_⟩;obtain⟨F2,sF2,s2,r2⟩:=s1.settleR r1;obtain⟨F3,own3,sF3,s3,r3⟩:=s2.frzR r2 e3;dsimp only at e4;split at e4
 ·cases e4;cases r3 with
  |dX h kb e r=>subst e;exact⟨_,_,_,_,rfl,s3.le _ _ h,k _ H1 F3 own3 sH (sF.trans (sF2.trans sF3)) s3 (Zbt h kb)⟩
 ·cases e4
@[simp] def Zfv(d1 d2:D):Option SV:=match d1 with
 | .dX ks vs=>(nk? d2).bind λk=>(look ks vs k).bind λd=>aA (.fz d)
 |_=>aB
theorem Zsg:Yw Z Zsf Zfv:=by
 intro F H σ δ own x y d1 d2 sv Q s r1 r2 e k;unfold Zfv at e;split at e
 ·rename_i ks vs;obtain⟨kk,e1,e2⟩:=aa.mp e;obtain⟨d,e3,e4⟩:=aa.mp e2;cases e4;obtain⟨a,kvs,ep,bs,rfl,ha,rfl,rr⟩:=r1.dX s.le;obtain⟨b,rfl,hb⟩:=r2.nk s.le e1;have z:=G5 kk kvs _ rr;rw[e3]at z;obtain⟨v,z1,z2⟩:=z;exact⟨a,b,kvs,ep,bs,kk,v,rfl,rfl,ha,hb,z1,k.fz s z2⟩
 ·cases e
@[simp] def P5(i:Nat)(fe:FE):FS:=λδ=>match δ[i]? with
 |some (aA (.ol _))=>(fe δ).bind λp=>(frz p.1 p.2).bind λq=>match q.1,q.2[i]? with
  | .lst ys,aA (aA (.ol xs))=>if xs.length+ys.length<=a7 then aA (.nx (q.2.set i (aA (.ol (xs++ys)))))else aB
  |_,_=>aB
 |_=>aB
theorem Zn0{i:Nat}{fe:FE}(h:Z1 Z (P5 i fe) E σ H):Bp (tBM K "list" (D0 K) (Ja i) (Ju (Zc Z fe) Rz)) E σ H:=by
 obtain⟨F,δ,own,fl,s,e,k⟩:=h;unfold P5 at e;split at e
 ·rename_i xs0 hx0;obtain⟨⟨rv,δ1⟩,e1,e2⟩:=aa.mp e;obtain⟨⟨d,δ2⟩,e3,e4⟩:=aa.mp e2;obtain⟨v,hv,sh⟩:=s.at' i _ hx0;obtain⟨a,vs0,ev,en,r0⟩:=J1 sh;refine⟨v,hv,?_,F,δ,own,rv,δ1,s,e1,λy H1 F1 own1 sH sF s1 r1=>?_⟩
  ·subst ev;exact .inl ⟨rfl,vs0,.inl (.inl (s.ok i (a,.lst vs0) (by rw[en];exact ah)).2.2)⟩
  obtain⟨F2,sF2,s2,r2⟩:=s1.settleR r1;obtain⟨F3,own3,sF3,s3,r3⟩:=s2.frzR r2 e3;dsimp only at e4;split at e4
  ·rename_i ys xs hx;by_cases hz:xs.length+ys.length<=a7
   ·rw[if_pos hz]at e4;cases e4;obtain⟨v',hv',sh'⟩:=s3.at' i _ hx;rw[hv]at hv';cases hv';obtain⟨b,vs,eb,en',r'⟩:=J1 sh';have mb:(b,HO.lst vs)∈own3 i:=by rw[en'];exact ah
    subst eb;cases r3 with
    | @lst l _ us hl _ ru=>refine⟨b,l,vs,us,rfl,rfl,(s3.ok i _ mb).2.2,Y2 s3.le hl,by rw[<-r'.length,<-ru.length];exact hz,?_⟩;exact k σ _ F3 _ (sF.trans (sF2.trans sF3)) (s3.change (sv':=.ol (xs++ys)) (o':=.lst (vs++us)) (ns':=[(b,.lst (vs++us))]) hx hv mb (.ol (r'.append ru)) (λp hp=>.inl (au.mp hp)) Er)
   ·rw[if_neg hz]at e4;cases e4
  ·cases e4
 ·cases e
@[simp] def L0(j ia il:Nat):FS:=λδ=>match δ[ia]?,δ[il]? with
 |some (aA (.fz (.lst hs))),aA (aA (.ol xs))=>(xs[xs.length- 1]?).bind λd=>(ixD (.lst hs) d).bind λsv=>(stow j (.tmp sv) (δ.set il (aA (.ol xs.dropLast)))).bind λδ'=>aA (.nx δ')
 |_,_=>aB
theorem Reps.dropLast{F:Hp}{ds:List D}{vs:List V}(r:Reps K F ds vs):Reps K F ds.dropLast vs.dropLast:=by rw[List.dropLast_eq_take,List.dropLast_eq_take,<-r.length];exact r.take _
theorem Zjf{j ia il:Nat}(h:Z1 Z (L0 j ia il) E σ H):Kh (tOp (rIx K) (Ja ia) (Zcv K "list" Zpo (Ja il))) (Ul j) E σ H:=by
 obtain⟨F,δ,own,fl,s,e,k⟩:=h;unfold L0 at e;split at e
 ·rename_i hs xs hia hil;obtain⟨d,e1,e⟩:=aa.mp e;obtain⟨sv,e2,e⟩:=aa.mp e;obtain⟨δ2,e3,e⟩:=aa.mp e;cases e;obtain⟨x,hx,shx⟩:=s.at' ia _ hia;have rx:=Q4 shx;obtain⟨y,hy,shy⟩:=s.at' il _ hil;obtain⟨a,vs,ea,en,ra⟩:=J1 shy;subst ea;have mb:(a,HO.lst vs)∈own il:=by rw[en];exact ah
  have hHa:=(s.ok il _ mb).2.2;obtain⟨v,hv,rv⟩:=ra.get e1;have hl:=ra.length;refine⟨x,hx,.ref a,hy,.inl ⟨rfl,vs,.inl (.inl hHa)⟩,a,vs,v,rfl,rfl,hHa,by rw[<-hl];exact hv,?_⟩;have s2:=s.change (sv':=.ol xs.dropLast) (o':=.lst vs.dropLast) (ns':=[(a,.lst vs.dropLast)]) hil hy mb (.ol ra.dropLast) (λp hp=>.inl (au.mp hp)) Er;refine Zqg F _ σ _ _ x v (.lst hs) d sv _ s2 (Z7.of rx) (Z7.of rv) e2 λw H3 F3 ns sH sF s3 t3=>?_;obtain⟨F4,own4,sF4,s4⟩:=s3.stow (rv:=.tmp sv) (v:=w) ⟨ns,t3⟩ e3;exact k _ H3 F4 own4 (sF.trans sF4) s4
 ·cases e
@[simp] def D4(j:Nat)(f1:FE):FE:=λδ=>match δ[j]? with
 |some (aA (.fz kd))=>kd.key?.bind λk=>(Zf f1 Zl δ).bind λp=>match p.1 with
  | [v1]=>aA (.tmp (.oK [k] [v1]),p.2)
  |_=>aB
 |_=>aB
theorem Zjg{f1:FE}{j:Nat}(h:Zc Z (D4 j f1) σ H Q):Zep [(Ja j,Zc Z f1)] σ H Q:=by
 obtain⟨F,δ,own,rv,δ',s,e,k⟩:=h;unfold D4 at e;split at e
 ·rename_i kd hx;obtain⟨kk,e0,e⟩:=aa.mp e;obtain⟨⟨ds,δ1⟩,e1,e2⟩:=aa.mp e;dsimp only at e2;split at e2
  ·rename_i v1;cases e2;obtain⟨v,hv,sh⟩:=s.at' j _ hx;have r:=Q4 sh;have ev:v=kV kk:=Hq e0 r;have hd:Wj Z (Zf f1 Zl) σ H (λvs H'=>∃kvs:List (Key×V),([kV kk].zip vs)=kvs.map (λkv=>(kV kv.1,kv.2))/\kvs.length<=15/\∀p ep,H' p=aB->Q (.ref p) (Z5 H' p (.dK (Uw [] kvs) ep))):=by
    refine⟨F,δ,own,[v1],_,s,e1,λvs H1 F1 own1 sH sF s1 r1=>?_⟩;obtain⟨w1,rfl⟩:∃w1,vs=[w1]:=by
     cases r1 with
     |cons h t=>cases t;exact⟨_,rfl⟩
    refine⟨[(kk,w1)],rfl,by show 1<=15;decide,λp ep hp=>?_⟩;have nd:((([]:List (Key×V))++[(kk,w1)]).map (·.1)).Nodup:=by simp
    rw[I8 _ [] nd,List.nil_append];exact Fin.one (λw H' F' ns a b c t=>k w H' F' own1 (sH.trans a) (sF.trans b) c ⟨ns,t⟩) s1 (.oK rfl r1) hp
   have h2:=Tv (fe:=f1) (fd:=Zl) hd;refine⟨v,hv,?_⟩;rw[ev];refine Vy (λu H1 q=>?_) h2;have z:=Ip q;exact z
  ·cases e2
 ·cases e
end
section
variable{X:Cx}{Z:Ent X.K}{a b c:ci}{fa fb fc:FE}{pos:Pos}
theorem Zn1{tg:ci}(ha:PE X a (Zc Z fa)):PI X tg a (W5 Z (Zfu fa)):=λpins s σ H R I h=>Zjd ha pins s σ H R I (Zje h)
theorem Zlj(hu:X.A.units+64<dw)(ha:PE X a (Zc Z fa))(hb:PE X b (Zc Z fb))(hs:Kk b:=by intro _ _;rfl):PE X (.Subscript a b pos) (Zc Z (Zt Zfv fa fb)):=λpins s σ H Q I h=>Zi7 (by omega) ha hb hs pins s σ H Q I (Io Zsg h)
theorem Zfw(i:Nat){x:Str}{px apos cpos:Pos}(hb:PE X b (Zc Z fb))(hN:X.N[i]? =aA x:=by rfl)(hv:Sy X.env.scope x:=by first|exact Or.inl rfl|exact gp (Or.inl rfl)|exact gp (gp rfl))(hd:(x==("__debug__":Str))=aD:=by decide)
  (hcd:(x==("__classdict__":Str))=aD:=by decide) (hbase:attributeBase (.Name x px) "extend" X.env (f8 (.Name x px) X.env)=f8 (.Name x px) X.env:=by rfl)
  (hfew:((f6 cpos (ay [b] X.env)).all (λx=>!x.1)&&(backToKw cpos (keywordEach [] X.env)).all (λx=>x.1.isSome)&&decide ([b].length+([]:List Keyword).length+(if([]:List Keyword).isEmpty then 0 else 1)<30))=aC:=by rfl)
  (hline:(apos.endLine==cpos.line)=aC:=by rfl) (hs:ay [b] X.env=(aD,f8 b X.env)::ay [] X.env:=by rfl) (hpl:(f6 cpos (ay [] X.env)).any (·.1)=aD:=by rfl) (hsw:swapsWith (.Call (.Attribute (.Name x px) "extend" apos) [b] [] cpos) aB pos.line X.env=pure aD:=by rfl):
  PS X (.Expr (.Call (.Attribute (.Name x px) "extend" apos) [b] [] cpos) pos) (Z1 Z (P5 i fb)):=
 (Og (Ii PySem.F.plainAttrs_list PySem.F.slot_list_extend PySem.F.type_list_extend D1 (Js (i:=i) hN hv hd hcd) (W3 hb Jv hs) hbase hfew hline hs hpl) hsw).imp λ_ _ _ h=>Zn0 h
theorem Zjh(j ia il:Nat){x y z:Str}{py pz apos cpos p1 p2:Pos}(hn:X.N.Nodup)(hy:PE X (.Name y py) (Ja ia))(hz:PE X (.Name z pz) (Ja il))(hj:X.N[j]? =aA x:=by rfl)(hl:Loc X.env.scope x:=by first|exact Or.inl rfl|exact gp rfl)
  (hbase:attributeBase (.Name z pz) "pop" X.env (f8 (.Name z pz) X.env)=f8 (.Name z pz) X.env:=by rfl) (hline:(apos.endLine==cpos.line)=aC:=by rfl)
  (hs:swapsWith (.Subscript (.Name y py) (.Call (.Attribute (.Name z pz) "pop" apos) [] [] cpos) p2) (aA (.Name x p1)) pos.line X.env=pure aD:=by rfl) (hf:X.fn x=aC\/X.env.scope.names.lookup x=aA .local:=by first|exact .inl rfl|exact .inr rfl):
  PS X (.Assign [.Name x p1] (.Subscript (.Name y py) (.Call (.Attribute (.Name z pz) "pop" apos) [] [] cpos) p2) pos) (Z1 Z (L0 j ia il)):=
 (S3 hn hj hl (Hg Kl hy (Zcw PySem.F.plainAttrs_list PySem.F.slot_list_pop PySem.F.type_list_pop Zmf hz hbase hline) (by intro _ _;rfl)) hs hf).imp λ_ _ _ h=>Zjf h
theorem Zji(j:Nat){x:Str}{p2:Pos}(hb:PE X b (Zc Z fb))(hN:X.N[j]? =aA x:=by rfl)(hv:Sy X.env.scope x:=by first|exact Or.inl rfl|exact gp (Or.inl rfl)|exact gp (gp rfl))(hd:(x==("__debug__":Str))=aD:=by decide)
  (hcd:(x==("__classdict__":Str))=aD:=by decide):PE X (.Dict [aA (.Name x p2)] [b] pos) (Zc Z (D4 j fb)):=
 (Zeq (Zc4 (Js (i:=j) hN hv hd hcd) hb Zhs) (by rfl) (by rfl) (by simp) (by show 1<=15;decide)).imp λ_ _ _ h=>Zjg h
end
end DL
namespace L2
open PySem PySem.Spec PySem.Calls PyProof.Rows DL TX
section
variable{X:Cx}
def Zfx(_:af):List V->Hp->VK->Prop:=λvs H Q=>∃a kvs ep ss,vs=[.ref a]/\H a=aA (.dK kvs ep)/\kvs.map (·.1)=ss.map b8/\ss.length<64/\∀q,H q=aB->Q (.ref q) (Z5 H q (.lst ((Ub ss).map V.str)))
theorem Fo{P:bu}{w:ck}:∀{es:List DictEntry} {vs:List (Key×aj)} {ss:List Str},Pairs (Zk P w) es vs->vs.map (·.1)=ss.map b8->StrsAre (es.map (·.key)) ss
 |_,_,[],.nil,_=>.nil
 |_,_,_::_,.nil,h=>nomatch h
 |_,_,[],.cons _ _ _,h=>nomatch h
 |_,_,x::ss,.cons h1 _ t,h=>by
  rw[av,av]at h;injection h with h2 h3;rw[h2]at h1;rw[av];rcases Z0 (k:=.inr x) h1 with⟨_,_,z,_⟩|⟨y,tk,z,e⟩
  ·cases z
  ·cases z;rw[e];exact .cons _ _ (Fo t h3)
theorem Xh(hc:X.calm=aC):Qd X (.builtin "sorted") (Zfx X.K):=by
 intro pins s σ H xs us Q I r h;obtain⟨a,kvs,ep,ss,rfl,ha,hk0,hz,q⟩:=h;obtain⟨u,rfl,ru⟩:=Jt r;cases ru;obtain⟨z,hd,vs,rel,od,es,g,x,c,ko,pr,nd⟩:=(show Z9 X.prog X.w H s.heap a (.dK kvs ep)from I.hok a _ ha)
 have hvk:vs.map (·.1)=ss.map Sum.inr:=by
  rw[<-hk0];clear ha pr hk0 z nd;induction rel with
  |nil=>rfl
  |cons h _ ih=>rw[av,av,ih,h.1]
 have hS:=Fo pr hvk;have hes:es.size=ss.length:=by have:=Ce pr;rw[aw]at this;have h2:=congrArg List.length hvk;rw[ao,ao]at h2;omega
 refine Calls.call_function_entry kind_sorted plain_sorted entry_sorted (args_sorted1 _) ?_;unfold Builtin.«sorted»;refine ad (m:=checkCount "sorted" 1 1 _) (ag ?_);refine ad (Pw (A:=X.A.in1) (I.ok.hd hc) hd x c g (by omega) λh1 tk hk ge=>?_);generalize es.toList.map (·.key)=its at hS;have il:its.length=ss.length:=hS.length;refine ad (wpAny_newList ?_ (by rw[dr];omega));have gL:(h1.push (de "list" its.toArray 0)).get? h1.objs.size=aA (de "list" its.toArray 0):=a9 _ rfl;have ltL:h1.objs.size<(h1.push (de "list" its.toArray 0)).objs.size:=bc gL;refine ad (f9 (c5 slot_list_sort ⟨_,gL,rfl⟩ entry_list_sort (list_sort_treeK (s:={s with heap:=h1.push (de "list" its.toArray 0),toks:=tk}) strKind_oneLt gL hS.keysOf (λv₁ v₂ rest e=>keyKind_strs (by rw[<-e];exact hS)) (by omega) λst' hp hs=>⟨_,rfl,?_⟩) (args_list_sort _)));obtain⟨ss',a1,a2,a3⟩:=sorted_out_str hS hp hs;have e:ss'=Ub ss:=Zbl (a2.trans (Y0 ss).symm) (Zbm a3) (Ls ss);subst e;obtain⟨cc,hcc⟩:=sortedHeap_at (out:=(arrOf st').map (·.2)) gL;have keep:∀b o,s.heap.get? b=aA o->(sortedHeap (h1.push (de "list" its.toArray 0)) h1.objs.size its ((arrOf st').map (·.2))).get? b=aA o:=λb o e=>by have e1:=hk b o e;have lt1:b<h1.objs.size:=bc e1;rw[sortedHeap_old (b4 lt1) (Nat.lt_trans lt1 ltL)];exact aq _ e1
 have ok:Z9 X.prog X.w (Z5 H h1.objs.size (.lst ((Ub ss).map V.str))) (sortedHeap (h1.push (de "list" its.toArray 0)) h1.objs.size its ((arrOf st').map (·.2))) h1.objs.size (.lst ((Ub ss).map V.str)):=by refine⟨?_,((arrOf st').map (·.2)).toList,cc,Ap a1,by rw[Array.toArray_toList];exact hcc⟩;rw[ao,(Y0 ss).length_eq,dr];omega
 exact ag ⟨_,rfl,.ref h1.objs.size,_,I.laid (t':=tk) keep ge ok,rfl,q _ (I.hok.fresh ge)⟩
end
end L2
namespace DL
open PySem PySem.Spec PySem.Calls PyProof.Rows L2 TX
variable{K:af}
def txk?:List Key->Option (List Str)
 | []=>aA []
 | .inr x::r=>(txk? r).bind λl=>aA (x::l)
 | .inl _::_=>aB
@[simp] theorem D5:∀ss:List Str,txk? (ss.map b8)=some ss
 | []=>rfl
 |s::ss=>by rw[av,txk?,D5 ss];rfl
theorem Zfy:∀{ks:List Key} {ss:List Str},txk? ks=aA ss->ks=ss.map b8
 | [],_,h=>by cases h;rfl
 | .inr x::r,_,h=>by obtain⟨l,h1,h2⟩:=aa.mp (show(txk? r).bind _=_ from h);cases h2;rw[Zfy h1];rfl
 | .inl _::_,_,h=>nomatch h
def B2:List D->Option SV
 | [.dK ks _]=>(txk? ks).bind λss=>if ss.length<64 then aA (.ol ((Ub ss).map D.str))else aB
 |_=>aB
theorem Fp{ss:List Str}{vs:List D}(h:ss.length<64):B2 [.dK (ss.map b8) vs]=aA (.ol ((Ub ss).map D.str)):=by show(txk? (ss.map b8)).bind _=_;rw[D5];show(if ss.length<64 then _ else _)=_;rw[if_pos h]
section
variable{Z:Ent K}{H:Hp}{σ:L2.St}{Q:VK}{E:Yq}
theorem Zjj:Jy Z (Zfx K) B2:=by
 intro F H σ δ own vs ds sv Q s r e k;unfold B2 at e;split at e
 ·obtain⟨ss,e1,e2⟩:=aa.mp e;split at e2
  ·rename_i hz;cases e2;cases r with
   |cons h t=>cases t;obtain⟨a,kvs,rfl,⟨ep,ha⟩,ek,_⟩:=h.dK s.le;exact⟨a,kvs,ep,ss,rfl,ha,by rw[ek];exact Zfy e1,hz,λq hq=>k.lst s (Pv _) hq⟩
  ·cases e2
 ·cases e
end
section
variable{X:Cx}{Z:Ent X.K}{a b c:ci}{fa fb fc:FE}{pos:Pos}
theorem D6{p:Pos}(hc:X.calm=aC)(hm:X.mg "sorted"=aB)(ha:PE X a (Zc Z fa))(hg:Gl X "sorted":=by rfl)(he:ay [a] X.env=(aD,f8 a X.env)::ay [] X.env:=by rfl)(hpl:(f6 pos (ay [] X.env)).any (·.1)=aD:=by rfl):
  PE X (.Call (.Name "sorted" p) [a] [] pos) (Zc Z (Yl B2 (Zd fa Zp))):=M6 (Xh hc) Zjj hm L2.B0 (Zq ha Ym he) hg (by decide) (by decide) he hpl
end
end DL
namespace DL
open PySem PySem.Spec PyProof.Rows L2 TT
variable{K:af}
open Classical in
def res(S:ak->Prop)(F:Hp):Hp:=λb=>if S b then F b else aB
theorem Zfz{S:ak->Prop}{F:Hp}:Ze (res S F) F:=λb o e=>by
 unfold res at e;split at e
 ·exact e
 ·cases e
theorem U0{S:ak->Prop}{F:Hp}{b:ak}{o:HO}(hb:S b)(h:F b=aA o):res S F b=aA o:=by unfold res;rw[if_pos hb];exact h
theorem Aw{S S':ak->Prop}{F:Hp}(h:∀b,S b->S' b):Ze (res S F) (res S' F):=λb o e=>by
 unfold res at e;split at e
 ·rename_i hb;exact U0 (h b hb) e
 ·cases e
theorem Zn2{S:ak->Prop}{F:Hp}{b:ak}{o:HO}(e:res S F b=aA o):S b/\F b=aA o:=by
 unfold res at e;split at e
 ·rename_i hb;exact⟨hb,e⟩
 ·cases e
inductive AR:D->Prop where
 |non:AR .non
 |bl (b:Bool):AR (.bl b)
 |int (i:Int):AR (.int i)
 |str (x:Str):AR (.str x)
 |tup {xs:List D} (h:∀d∈xs,AR d):AR (.tup xs)
 |dK {ks:List Key} {vs:List D} (h:∀d∈vs,AR d):AR (.dK ks vs)
 |txs {ss:List Str} (h:ss≠[]):AR (.lst (ss.map D.str))
 |lsts {xss:List (List Str)} (h:∀ss∈xss,ss≠[]):AR (.lst (xss.map λss=>.lst (ss.map D.str)))
def Zf0(F:Hp)(b:ak):Prop:=∀t rest,F b=aA (.lst (.ref t::rest))->∃us,F t=aA (.lst us)
def Cut(K:af)(F:Hp)(d:D):Prop:=∀v,Rep K F d v->∃S:ak->Prop,Rep K (res S F) d v/\∀b,S b->Zf0 F b
theorem Zf1{F:Hp}:∀{ds:List D} {vs:List V},(∀d∈ds,Cut K F d)->Reps K F ds vs->∃S:ak->Prop,Reps K (res S F) ds vs/\∀b,S b->Zf0 F b
 |_,_,_,.nil=>⟨λ_=>False,.nil,λ_ z=>z.elim⟩
 |d::ds,_,h,.cons r t=>by obtain⟨S1,r1,n1⟩:=h d ah _ r;obtain⟨S2,r2,n2⟩:=Zf1 (λe he=>h e (ar _ he)) t;exact⟨λb=>S1 b\/S2 b,.cons (r1.mono (Aw λ_ z=>.inl z)) (r2.mono (Aw λ_ z=>.inr z)),λb z=>z.elim (n1 b) (n2 b)⟩
theorem C0{F G:Hp}:∀{ss:List Str} {vs:List V},Reps K F (ss.map D.str) vs->Reps K G (ss.map D.str) vs
 | [],_,h=>by cases h;exact .nil
 |s::ss,_,h=>by
  cases h with
  |cons h t=>cases h;exact .cons (.str _) (C0 t)
theorem Rm{F:Hp}{xs:List D}{v:V}(r:Rep K F (.lst xs) v){d:D}(hd:d∈xs)(hi:∀i,d≠.int i):∃a vs,v= .ref a/\F a=aA (.lst vs)/\Reps K F xs vs:=by
 cases r with
 |lst h o r=>
  rcases o with o|o
  ·exact⟨_,_,rfl,o,r⟩
  ·obtain⟨i,e⟩:=o d hd;exact absurd e (hi i)
theorem P6{F:Hp}{ss:List Str}(h:ss≠[]):Cut K F (.lst (ss.map D.str)):=λv r=>by
 obtain⟨x,l,rfl⟩:=List.exists_cons_of_ne_nil h;obtain⟨a,vs,rfl,ha,ru⟩:=Rm r (d:=.str x) (by simp) (λi=>by simp);refine⟨λb=>b=a,.lst (.inl (.inl (U0 rfl ha))) (.inl (U0 rfl ha)) (C0 ru),λb z t rest e=>?_⟩;subst z;rw[ha]at e;cases e;cases ru with
 |cons h t=>cases h
theorem Zn3{F:Hp}{d:D}(h:AR d):Cut K F d:=by
 induction h with
 |non=>intro v r;cases r;exact⟨λ_=>False,.non,λ_ z=>z.elim⟩
 |bl b=>intro v r;cases r;exact⟨λ_=>False,.bl _,λ_ z=>z.elim⟩
 |int b=>intro v r;cases r;exact⟨λ_=>False,.int _,λ_ z=>z.elim⟩
 |str b=>intro v r;cases r;exact⟨λ_=>False,.str _,λ_ z=>z.elim⟩
 | @tup xs h ih=>
  intro v r;cases r with
  | @tup a _ vs ha r=>
   obtain⟨S,r1,n1⟩:=Zf1 ih r;refine⟨λb=>b=a\/S b,.tup (U0 (.inl rfl) ha) (r1.mono (Aw λ_ z=>.inr z)),λb z t rest e=>?_⟩;rcases z with z|z
   ·subst z;rw[ha]at e;cases e
   ·exact n1 b z t rest e
 | @dK ks vs h ih=>
  intro v r;cases r with
  | @dK a _ _ kvs ep ha e r=>
   obtain⟨S,r1,n1⟩:=Zf1 ih r;refine⟨λb=>b=a\/S b,.dK (U0 (.inl rfl) ha) e (r1.mono (Aw λ_ z=>.inr z)),λb z t rest e=>?_⟩;rcases z with z|z
   ·subst z;rw[ha]at e;cases e
   ·exact n1 b z t rest e
 |txs h=>exact P6 h
 | @lsts xss h=>
  intro v r;cases xss with
  |nil=>
   cases r with
   | @lst a _ vs hq o r=>
    cases r;rcases hq with(hq|⟨o',hq⟩)|hq
    ·refine⟨λb=>b=a,.lst (.inl (.inl (U0 rfl hq))) (.inl (U0 rfl hq)) .nil,λb z t rest e=>?_⟩;subst z;rw[hq]at e;cases e
    ·refine⟨λb=>b=a,.lst (.inl (.inr ⟨o',U0 rfl hq⟩)) (.inr λ_ z=>nomatch z) .nil,λb z t rest e=>?_⟩;subst z;rw[hq]at e;cases e
    ·exact⟨λ_=>False,.lst (.inr hq) (.inr λ_ z=>nomatch z) .nil,λ_ z=>z.elim⟩
  |cons ss xss=>
   obtain⟨a,vs,rfl,ha,ru⟩:=Rm r (d:=.lst (ss.map D.str)) (by simp) (λi=>by simp);obtain⟨S,r1,n1⟩:=Zf1 (K:=K) (F:=F) (λd hd=>by
    obtain⟨ss',hs,rfl⟩:=a6.mp hd;exact P6 (h ss' hs)) ru
   refine⟨λb=>b=a\/S b,.lst (.inl (.inl (U0 (.inl rfl) ha))) (.inl (U0 (.inl rfl) ha)) (r1.mono (Aw λ_ z=>.inr z)),λb z t rest e=>?_⟩;rcases z with z|z
   ·subst z;rw[ha]at e;cases e;cases ru with
    |cons r0 _=>obtain⟨x,l,ex⟩:=List.exists_cons_of_ne_nil (h ss ah);obtain⟨a',us,e1,e2,_⟩:=Rm r0 (d:=.str x) (by rw[ex];simp) (λi=>by simp);cases e1;exact⟨us,e2⟩
   ·exact n1 b z t rest e
def FlV(G:Hp)(u:V):Prop:=∃t l,u= .ref t/\G t=aA (.tup ((Mz l).map kV))
def Mt(G:Hp)(b:ak):Prop:=∃t rest x ws,G b=aA (.lst (.ref t::rest))/\G t=aA (.tup (.str x::ws))
def Xi(B:Nat)(G G':Hp):Prop:=∀b o,G b=aA o->G' b=aA o\/(Mt G b/\∃us,G' b=aA (.lst us)/\us.length<=B/\∀u∈us,FlV G' u)
theorem FlV.mono{G G':Hp}(s:Ze G G'){u:V}(h:FlV G u):FlV G' u:=let⟨t,l,e,q⟩:=h;⟨t,l,e,s _ _ q⟩
theorem Xi.mono{B:Nat}{G G1 G2:Hp}(c:Xi B G G1)(s:Ze G1 G2):Xi B G G2:=λb o e=>by
 rcases c b o e with z|⟨m,us,z,hl,hf⟩
 ·exact .inl (s _ _ z)
 ·exact .inr ⟨m,us,s _ _ z,hl,λu hu=>(hf u hu).mono s⟩
inductive PlD:D->Prop where
 |non:PlD .non
 |bl (b:Bool):PlD (.bl b)
 |int (i:Int):PlD (.int i)
 |str (x:Str):PlD (.str x)
 |tup {xs:List D} (h:∀d∈xs,PlD d):PlD (.tup xs)
 |lst {xs:List D} (h:∀d∈xs,PlD d):PlD (.lst xs)
theorem D7{G:Hp}:∀{us:List V},(∀u∈us,FlV G u)->∃ds,Reps K G ds us
 | [],_=>⟨[],.nil⟩
 |u::us,h=>by obtain⟨t,l,rfl,e⟩:=h u ah;obtain⟨ds,r⟩:=D7 (us:=us) λw hw=>h w (ar _ hw);exact⟨Zs (.inl l)::ds,.cons (Rj (k:=.inl l) e) r⟩
def Zsh(K:af)(G G':Hp)(d:D):Prop:=∀v,Rep K G d v->∃d',Rep K G' d' v/\((∃xs,d= .lst xs)->∃xs',d'= .lst xs')
theorem Zf3{G G':Hp}:∀{ds:List D} {vs:List V},(∀d∈ds,Zsh K G G' d)->Reps K G ds vs->∃ds',Reps K G' ds' vs
 |_,_,_,.nil=>⟨[],.nil⟩
 |d::ds,_,h,.cons r t=>by obtain⟨d',r1,_⟩:=h d ah _ r;obtain⟨ds',r2⟩:=Zf3 (λe he=>h e (ar _ he)) t;exact⟨d'::ds',.cons r1 r2⟩
theorem Xj{G:Hp}{b:ak}{vs:List V}(h:G b=aA (.tup vs)):¬Mt G b:=λ⟨_,_,_,_,e,_⟩=>by rw[h]at e;cases e
theorem Xi.tup{B:Nat}{G G':Hp}(c:Xi B G G'){b:ak}{vs:List V}(h:G b=aA (.tup vs)):G' b=aA (.tup vs):=by
 rcases c b _ h with z|⟨m,_⟩
 ·exact z
 ·exact absurd m (Xj h)
theorem P7{F G:Hp}:∀{xs:List D} {vs:List V},(∀d∈xs,∃i,d=D.int i)->Reps K F xs vs->Reps K G xs vs/\∀v∈vs,∃i,v=V.int i
 |_,_,_,.nil=>⟨.nil,λ_ z=>nomatch z⟩
 |d::xs,_,h,.cons r t=>by
  obtain⟨i,rfl⟩:=h _ ah;obtain⟨a,b⟩:=P7 (G:=G) (λe he=>h e (ar _ he)) t;cases r;refine⟨.cons (.int i) a,λv hv=>?_⟩;rcases bo.mp hv with z|z
  ·exact⟨i,z⟩
  ·exact b v z
theorem D8{B:Nat}{G G':Hp}(c:Xi B G G'){a:ak}{vs:List V}(h:Wp K G a vs)(hm:¬Mt G a):Wp K G' a vs:=by
 rcases h with(h|⟨o,h⟩)|h
 ·rcases c a _ h with z|⟨m,_⟩
  ·exact .inl (.inl z)
  ·exact absurd m hm
 ·rcases c a _ h with z|⟨m,_⟩
  ·exact .inl (.inr ⟨o,z⟩)
  ·exact absurd m hm
 ·exact .inr h
theorem Zn4{B:Nat}{G G':Hp}(c:Xi B G G'){d:D}(h:PlD d):Zsh K G G' d:=by
 induction h with
 |non=>intro v r;cases r;exact⟨_,.non,λ⟨_,z⟩=>nomatch z⟩
 |bl b=>intro v r;cases r;exact⟨_,.bl _,λ⟨_,z⟩=>nomatch z⟩
 |int b=>intro v r;cases r;exact⟨_,.int _,λ⟨_,z⟩=>nomatch z⟩
 |str b=>intro v r;cases r;exact⟨_,.str _,λ⟨_,z⟩=>nomatch z⟩
 | @tup xs h ih=>
  intro v r;cases r with
  |tup ha r=>obtain⟨ds,r2⟩:=Zf3 ih r;exact⟨.tup ds,.tup (c.tup ha) r2,λ⟨_,z⟩=>nomatch z⟩
 | @lst xs h ih=>
  intro v r;cases r with
  | @lst a _ vs hq o r=>
   rcases o with o|o
   ·rcases c a _ o with z|⟨m,us,z,_,hf⟩
    ·obtain⟨ds,r2⟩:=Zf3 ih r;exact⟨.lst ds,.lst (.inl (.inl z)) (.inl z) r2,λ_=>⟨_,rfl⟩⟩
    ·obtain⟨ds,r2⟩:=D7 (K:=K) hf;exact⟨.lst ds,.lst (.inl (.inl z)) (.inl z) r2,λ_=>⟨_,rfl⟩⟩
   ·obtain⟨r2,hi⟩:=P7 (G:=G') o r;have hs:Wp K G' a vs:=by
     rcases hq with hq|hq
     ·refine D8 c (.inl hq) λ⟨t,rest,x,ws,e,_⟩=>?_;rcases hq with hq|⟨o',hq⟩
      ·rw[hq]at e;cases e;obtain⟨i,z⟩:=hi _ ah;cases z
      ·rw[hq]at e;cases e
     ·exact .inr hq
    exact⟨.lst xs,.lst hs (.inr o) r2,λ_=>⟨_,rfl⟩⟩
def FlL(m:Nat)(xs:List D):Prop:=xs≠[]/\xs.length<=m/\∀e∈xs,∃(x:Str) (l:List Str),e= .tup ((x::l).map D.str)
def HpD(m:Nat)(d:D):Prop:=∃xs ys zs,d= .tup [.lst xs,.lst ys,.lst zs]/\FlL m xs/\zs≠[]/\(∀e∈zs,∃(x:Str) (r:List D),e= .tup (.str x::r))/\PlD (.lst xs)/\PlD (.lst ys)/\PlD (.lst zs)
theorem P8{G:Hp}{xs:List D}{v:V}(hn:xs≠[])(h:∀e∈xs,∃(x:Str) (r:List D),e= .tup (.str x::r))(r:Rep K G (.lst xs) v):∃a us,v= .ref a/\G a=aA (.lst us)/\Reps K G xs us/\Mt G a:=by
 obtain⟨d,l,rfl⟩:=List.exists_cons_of_ne_nil hn;obtain⟨x,r0,rfl⟩:=h d ah;obtain⟨a,us,rfl,ha,ru⟩:=Rm r (d:=.tup (.str x::r0)) ah (λi=>by simp);refine⟨a,us,rfl,ha,ru,?_⟩;cases ru with
 |cons rt _=>cases rt with
  |tup ht rr=>cases rr with
   |cons r1 _=>cases r1;exact⟨_,_,_,_,ha,ht⟩
theorem P9{G:Hp}:∀{xs:List D} {us:List V},(∀e∈xs,∃(x:Str) (l:List Str),e= .tup ((x::l).map D.str))->Reps K G xs us->∀u∈us,FlV G u
 |_,_,_,.nil,_,h=>nomatch h
 |d::xs,_,h,.cons r t,u,hu=>by
  rcases bo.mp hu with z|z
  ·obtain⟨x,l,rfl⟩:=h d ah;rw[z];obtain⟨b,e,hb⟩:=Rk (k:=.inl (x::l)) r;exact⟨b,x::l,e,hb⟩
  ·exact P9 (λe he=>h e (ar _ he)) t u z
section
variable{Z:Ent K}{H:Hp}{σ:L2.St}{Q:VK}{E:Yq}
theorem Jg.grow{F F':Hp}{own:Nat->Zo}{W:ak->Prop}(ap:Jg Z F own W)(h:∀b,W b->F' b=aB):Jg Z F' own W:=λb hb=>⟨h b hb,(ap b hb).2⟩
theorem M9{W:ak->Prop}{H H' F F':Hp}(sH:Ze H H')(sF:Ze F F'):Ze (wH W H F) (wH W H' F'):=λb o e=>by
 by_cases hb:W b
 ·rw[Rc hb]at e⊢;exact sH _ _ e
 ·rw[Ga hb]at e⊢;exact sF _ _ e
theorem Xi.step{W:ak->Prop}{B B':Nat}{G H F:Hp}{l:ak}{us us':List V}(c:Xi B G (wH W H F))(hl:W l)(mt:Mt G l)(hH:H l=aA (.lst us))(hB:B<=B')(hz:us'.length<=B')(hf:∀u∈us',FlV (wH W H F) u):Xi B' G (wH W (Z5 H l (.lst us')) F):=by
 have up:∀b,b≠l->wH W (Z5 H l (.lst us')) F b=wH W H F b:=λb hb=>by
  by_cases hw:W b
  ·rw[Rc hw,Rc hw,Zn hb]
  ·rw[Ga hw,Ga hw]
 have fl:∀u,FlV (wH W H F) u->FlV (wH W (Z5 H l (.lst us')) F) u:=λu ⟨t,x,e,q⟩=>by refine⟨t,x,e,?_⟩;rw[up t λz=>by rw[z,Rc hl,hH]at q;cases q];exact q
 intro b o e;by_cases hb:b=l
 ·subst hb;exact .inr ⟨mt,us',by rw[Rc hl,Z3],hz,λu hu=>fl u (hf u hu)⟩
 ·rcases c b o e with z|⟨m,vs,z,h1,h2⟩
  ·exact .inl (by rw[up b hb];exact z)
  ·exact .inr ⟨m,vs,by rw[up b hb];exact z,by omega,λu hu=>fl u (h2 u hu)⟩
def Zlk(i j n:Nat)(ds:List D)(δ1:Yg)(sv:SV)(T1 T2:FT):Prop:=
 ds.length=n/\(∀d∈ds,AR d)/\i≠j/\i<δ1.length/\j<δ1.length/\∃(m:Nat) (hs:List D),sv.toD= .lst hs/\(∀h∈hs,HpD m h)/\m+hs.length<a7/\(∃δ2,T1 (δ1.set i (aA (.fz sv.toD)))=aA (aD,δ2))/\
  ∀xs ys zs,∃δ4,T2 ((δ1.set i aB).set j (aA (.fz (.tup [.lst xs,.lst ys,.lst zs]))))=aA (aD,δ4)
open Classical in
def Gh(i j n:Nat)(g:List D->Option SV)(fd:FD)(T1 T2:FT):FS:=λδ=>(fd δ).bind λp=>(g p.1).bind λsv=>
 if Zlk i j n p.1 p.2 sv T1 T2 then aA (.nx ((p.2.set i aB).set j aB))else aB
theorem Zbu{i j n:Nat}{g:List D->Option SV}{fd:FD}{T1 T2:FT}{δ δ1:Yg}{ds:List D}{sv:SV}(h1:fd δ=aA (ds,δ1))(h2:g ds=aA sv)(h:Zlk i j n ds δ1 sv T1 T2):Gh i j n g fd T1 T2 δ=aA (.nx ((δ1.set i aB).set j aB)):=by unfold Gh;rw[h1];dsimp only[b7];rw[h2];dsimp only[b7];rw[if_pos h]
abbrev tAt(j:Nat)(k:Int)(K:af):TE:=tOp (rIx K) (Ja j) (tC (.int k))
theorem Zjk {i j n : Nat} {g : List D -> Option SV} {fd : FD} {T1 T2 : FT} {tb1 tb2 : TS} {c c' : Str} {E' : XK} (h : Z1 Z (Gh i j n g fd T1 T2) E σ H) :
    Tk (Kh (Nn (Y6 K n g) [] E' (Wj Z fd)) (Ul i)) (Tk (S0 (Yh Z T1) tb1 Tj) (Zau (Zdj K (Ja i)) (Ul j) (Tk (S0 (Yh Z T2) tb2 Tj)
      (Tk (Bp (tBM K "list" Qy (tAt j 0 K) (Ju (Zco (Ju (tC (.str c)) (Ju (tC (.str c')) Rz))) Rz))) (Bp (Zcv K "list" Kt (tAt j 2 K))))))) E σ H := by
  obtain ⟨F, δ, own, fl, s, e, k⟩ := h;unfold Gh at e;obtain ⟨⟨ds, δ1⟩, e1, e⟩ := aa.mp e;obtain ⟨sv, e2, e⟩ := aa.mp e;dsimp only at e;split at e
  · rename_i hC
    cases e;obtain ⟨hn, har, hij, hi1, hj1, m, hs, hsv, hhp, hz, ⟨δ2, h1⟩, h2⟩ := hC;refine ⟨F, δ, own, ds, δ1, s, e1, λvs H1 F1 own1 sH sF s1 r1 => ?_⟩;show Y6 K n g (vs ++ []) H1 _ E';rw [List.append_nil];obtain ⟨S, rS, nS⟩ := Zf1 (λd hd => Zn3 (har d hd)) r1;refine ⟨res S F1, ds, sv, Zfz.trans s1.le, rS, hn, e2, λv H2 F2 ns sH2 _ le2 fro2 sh nd ok => ?_⟩;have hnF : ∀ p ∈ ns, F2 p.1 = aB := λp hp => (ok p hp).1;have rp := sh.rep nd hnF;have leG : Ze (Qb F2 ns) H2 := Kx nd le2 λp hp => (ok p hp).2.2;have new : ∀ b o, Qb F2 ns b = aA o -> (S b /\ F1 b = aA o) \/ H1 b = aB := λb o e => by
      by_cases hb : b ∈ Cu ns
      · obtain ⟨p, hp, ep⟩ := a6.mp hb
        subst ep;exact .inr (ok p hp).2.1
      · rw [Q3 hb] at e
        rcases fro2 b o e with z | z
        · exact .inl (Zn2 z)
        · exact .inr z
    generalize hG : Qb F2 ns = G at rp leG new;have s2 : SR Z F1 H2 σ δ1 own1 := s1.grow sH2;generalize hW : (λb => H1 b = aB /\ ∃ o, G b = aA o) = W;have inW : ∀ {b}, W b -> H1 b = aB /\ ∃ o, G b = aA o := λ{b} hb => by rw [<- hW] at hb; exact hb
    have toW : ∀ {b o}, H1 b = aB -> G b = aA o -> W b := λ{b o} h1 h2 => by rw [<- hW]; exact ⟨h1, o, h2⟩
    have live2 : ∀ b, W b -> ∃ o, H2 b = aA o := λb hb => let ⟨_, o, ho⟩ := inW hb; ⟨o, leG _ _ ho⟩
    have ap : Jg Z F1 own1 W := λb hb => by have hb0 := (inW hb).1;refine ⟨s1.le.free hb0, s1.old.free hb0, λq p hp z => ?_⟩;have := (s1.ok q p hp).2.2;rw [z, hb0] at this; cases this
    have chg0 : Xi m G (wH W H2 F1) := λb o e => .inl (by
      by_cases hb : W b
      · rw [Rc hb]; exact leG _ _ e
      · rw [Ga hb]
        rcases new b o e with z | z
        · exact z.2
        · exact absurd (toW z e) hb)
    have mtW : ∀ {b}, Mt G b -> W b := λ{b} ⟨t, rest, x, ws, eb, et⟩ => by
      rcases new b _ eb with z | z
      · obtain ⟨us, eu⟩ := nS b z.1 t rest z.2
        have h3 := s2.le _ _ eu;rw [leG _ _ et] at h3; cases h3
      · exact toW z eb
    rw [hsv] at rp h1;have rpW : Rep K (wH W H2 F1) (.lst hs) v := rp.mono λb o e => by
      rcases chg0 b o e with z | ⟨mm, us, z, _⟩
      · exact z
      · rw [Rc (mtW mm)]; exact leG _ _ e
    have s3 := s2.blank i (aA v);have ap3 : Jg Z F1 (put own1 i []) W := ap.drop;have hil : i < σ.length := by rw [s1.len]; exact hi1
    have hvi : (σ.set i (aA v))[i]? = aA (aA v) := d5 hil;have s3' := s3.look ap3 hvi rpW;rw [List.set_set] at s3';refine ⟨_, _, _, aD, δ2, s3', h1, λH3 F3 own3 sH3 sF3 _ => ?_⟩;show Zau (Zdj K (Ja i)) (Ul j) _ E (σ.set i (aA v)) H3;have s4 := s3.grow sH3
    -- the outer list
    obtain ⟨a, vs', rfl, stat, rvs⟩ : ∃ a vs', v = .ref a /\ (∀ (B : Nat) (G' : Hp), Xi B G G' -> Wp K G' a vs') /\ Reps K G hs vs' := by
      cases rp with
      | @lst a _ vs' hq o rr =>
        refine ⟨a, vs', rfl, λB G' cg => ?_, rr⟩;rcases hq with hq | hq
        · refine D8 cg (.inl hq) λ⟨t, rest, x, ws, eb, et⟩ => ?_
          have ev : vs' = .ref t :: rest := by
            rcases hq with hq | ⟨o', hq⟩
            · rw [hq] at eb; cases eb; rfl
            · rw [hq] at eb; cases eb
          subst ev;cases rr with
          | cons r0 _ =>
            obtain ⟨xs, ys, zs, rfl, _⟩ := hhp _ ah;cases r0 with
            | tup ht rr0 =>
              rw [ht] at et;cases et;cases rr0 with
              | cons q1 _ => cases q1
        · exact .inr hq
    have hlen := rvs.length;refine ⟨.ref a, hvi, .inl ⟨a, rfl, ⟨vs', Y2 (De s4.le) (stat m _ (chg0.mono (M9 sH3 (Ze.refl F1))))⟩, ?_⟩⟩;have s5 := s4.drop j;have ap5 : Jg Z F1 (put (put own1 i []) j []) W := ap3.drop;refine ⟨λn' mm σ' H' => mm = hs.length - n' /\ n' <= hs.length /\ ∃ F' own', Ze F1 F' /\ Jg Z F' own' W /\ SR Z F' H' σ' ((δ1.set i aB).set j aB) own' /\ Xi (m + n') G (wH W H' F') /\ ∀ b, W b -> ∃ o, H' b = aA o,
      ⟨hs.length, by simp, dn _, F1, _, Ze.refl F1, ap5, s5, chg0.mono (M9 sH3 (Ze.refl F1)), λb hb => let ⟨o, ho⟩ := live2 b hb; ⟨o, sH3 _ _ ho⟩⟩, ?_⟩
    rintro n' mm σ8 H8 ⟨rfl, hn', F8, own8, sF8, ap8, s8, cg8, live8⟩;have sq8 : Wp K H8 a vs' := Y2 (De s8.le) (stat _ _ cg8);by_cases hlt : n' < hs.length
    · have hlv : n' < vs'.length := by omega
      have hx8 : vs'[n']? = aA vs'[n'] := az hlv;refine .inr ⟨⟨vs', _, sq8, hx8⟩, λσ9 H9 => ∃ F' own', Ze F1 F' /\ Jg Z F' own' W /\ SR Z F' H9 σ9 ((δ1.set i aB).set j aB) own' /\ Xi (m + (n' + 1)) G (wH W H9 F') /\ ∀ b, W b -> ∃ o, H9 b = aA o, λσ9 H9 a1 => ⟨hs.length - (n' + 1), by omega, rfl, hlt, a1⟩, λx H9 hy => ?_⟩;obtain ⟨e9, hy⟩ := hy;have e9 := e9.symm; subst e9;have ex : vs'[n'] = x := by have := hy vs' sq8; rw [hx8] at this; exact dm.inj this
      obtain ⟨hd, hhd, rx⟩ := rvs.getV hx8;rw [ex] at rx;obtain ⟨xs, ys, zs, rfl, hfl, hzn, hzs, px, py, pz⟩ := hhp hd (cz hhd);have cgT := cg8;cases rx with
      | @tup t _ us3 ht r3 =>
        obtain ⟨u0, u1, u2, rfl, q0, q1, q2⟩ : ∃ u0 u1 u2, us3 = [u0, u1, u2] /\ Rep K G (.lst xs) u0 /\ Rep K G (.lst ys) u1 /\ Rep K G (.lst zs) u2 := by
          cases r3 with
          | cons a0 r3 => cases r3 with
            | cons a1 r3 => cases r3 with
              | cons a2 r3 => cases r3; exact ⟨_, _, _, rfl, a0, a1, a2⟩
        have hfx : ∀ e ∈ xs, ∃ (x : Str) (r : List D), e = .tup (.str x :: r) := λe he => let ⟨x, l, z⟩ := hfl.2.2 e he; ⟨x, l.map D.str, z⟩
        obtain ⟨l0, us0, rfl, hl0, rl0, mt0⟩ := P8 hfl.1 hfx q0;obtain ⟨l2, us2, rfl, hl2, rl2, mt2⟩ := P8 hzn hzs q2;have w0 := mtW mt0;have w2 := mtW mt2
        -- T2
        obtain ⟨d0, v0, k0⟩ := Zn4 (K := K) cg8 px _ q0;obtain ⟨d1, v1, k1⟩ := Zn4 (K := K) cg8 py _ q1;obtain ⟨d2, v2, k2⟩ := Zn4 (K := K) cg8 pz _ q2;obtain ⟨x', rfl⟩ := k0 ⟨_, rfl⟩;obtain ⟨y', rfl⟩ := k1 ⟨_, rfl⟩;obtain ⟨z', rfl⟩ := k2 ⟨_, rfl⟩;have rT : Rep K (wH W H8 F8) (.tup [.lst x', .lst y', .lst z']) (.ref t) := .tup (cg8.tup ht) (.cons v0 (.cons v1 (.cons v2 .nil)));have sB := s8.blank j (aA (.ref t));rw [List.set_set] at sB;have apB : Jg Z F8 (put own8 j []) W := ap8.drop;have hjl8 : j < σ8.length := by have h5 := s8.len;rw [List.length_set, List.length_set] at h5;omega
        have hvj : (σ8.set j (aA (.ref t)))[j]? = aA (aA (.ref t)) := d5 hjl8;have sC := sB.look apB hvj rT;rw [List.set_set] at sC;obtain ⟨δ4, h4⟩ := h2 x' y' z';refine ⟨_, _, _, aD, δ4, sC, h4, λHA FA ownA sHA sFA _ => ?_⟩
        -- the lists as they are now
        have htA : HA t = aA (.tup [.ref l0, u1, .ref l2]) := sHA _ _ (De s8.le _ _ (cg8.tup ht));have now : ∀ {l : ak} {us : List V}, G l = aA (.lst us) -> W l -> ∃ us', H8 l = aA (.lst us') /\ (us' = us \/ (us'.length <= m + n' /\ ∀ u ∈ us', FlV (wH W H8 F8) u)) := λ{l us} hl hw => by
          rcases cg8 l _ hl with z | ⟨_, us', z, z1, z2⟩
          · rw [Rc hw] at z; exact ⟨us, z, .inl rfl⟩
          · rw [Rc hw] at z; exact ⟨us', z, .inr ⟨z1, z2⟩⟩
        obtain ⟨uu, hu8, hu⟩ := now hl0 w0;have hul : uu.length <= m + n' /\ ∀ u ∈ uu, FlV (wH W H8 F8) u := by
          rcases hu with rfl | z
          · refine ⟨by have := rl0.length; have := hfl.2.1; omega, λu hu => ?_⟩
            obtain ⟨tt, ll, e1, e2⟩ := P9 hfl.2.2 rl0 u hu;exact ⟨tt, ll, e1, cg8.tup e2⟩
          · exact z
        have huA := sHA _ _ hu8;refine ⟨.ref t, hvj, .inr (.inl ⟨t, _, 0, .ref l0, rfl, rfl, Bb htA, rfl, .inl ⟨rfl, uu, .inl (.inl huA)⟩, ⟨by show 2 <= a7; decide, λp hp => ?_⟩⟩)⟩;have smp := Qe (o := HO.tup [.str c, .str c']) hp;have hl0p : l0 ≠ p := λz => by rw [z, hp] at huA; cases huA
        refine ⟨l0, uu, .ref p, rfl, rfl, smp _ _ huA, by omega, ?_⟩;have s9 := sB.grow sHA;have nfp : F8 p = aB := s9.le.free hp;have s10 := (s9.grow smp).addF (ns := [(p, .tup [.str c, .str c'])]) Er (λq hq => by obtain rfl := au.mp hq; exact nfp) (λq hq => by obtain rfl := au.mp hq; exact Z3) (λq hq => by obtain rfl := au.mp hq; exact s9.old.free hp) (λq1 q2 r hq hr z => by
          obtain rfl := au.mp hq;have z' : p = r.1 := z;have := (s9.ok q1 r hr).2.2;rw [<- z', hp] at this; cases this)
        have sF10 : Ze F8 (Qb F8 [(p, .tup [.str c, .str c'])]) := Wt λq hq => by obtain rfl := au.mp hq; exact nfp
        have hpW : ¬ W p := λz => by obtain ⟨o, ho⟩ := live8 p z;rw [sHA _ _ ho] at hp; cases hp
        have ap10 : Jg Z (Qb F8 [(p, .tup [.str c, .str c'])]) (put own8 j []) W := apB.grow λb hb => by rw [Q3 λz => hpW (by have : b = p := au.mp z; rw [<- this]; exact hb)];exact (ap8 b hb).1
        have s11 := s10.updW (o := .lst (uu ++ [.ref p])) ap10 w0;have cg10 : Xi (m + n') G (wH W (Z5 HA p (.tup [.str c, .str c'])) (Qb F8 [(p, .tup [.str c, .str c'])])) := cg8.mono (M9 (sHA.trans smp) sF10);have cg11 := cg10.step (us' := uu ++ [.ref p]) (B' := m + (n' + 1)) w0 mt0 (smp _ _ huA) (by omega) (by rw [bj, List.length_singleton]; omega) (λu hu => by
          rcases cn.mp hu with z | z
          · exact (hul.2 u z).mono (M9 (sHA.trans smp) sF10)
          · rw [au.mp z]
            exact ⟨p, [c, c'], rfl, by rw [Ga hpW]; exact Z3⟩)
        have htp : t ≠ p := λz => by rw [z, hp] at htA; cases htA
        have htl : t ≠ l0 := λz => by rw [z, huA] at htA; cases htA
        generalize hHB : Z5 (Z5 HA p (.tup [.str c, .str c'])) l0 (.lst (uu ++ [.ref p])) = HB at s11 cg11 ⊢;have htB : HB t = aA (.tup [.ref l0, u1, .ref l2]) := by rw [<- hHB, Zn htl, Zn htp]; exact htA
        have hB2 : ∃ us', HB l2 = aA (.lst us') := by
          rw [<- hHB];by_cases z : l2 = l0
          · rw [z, Z3]; exact ⟨_, rfl⟩
          · obtain ⟨us', hu', _⟩ := now hl2 w2
            rw [Zn z];exact ⟨us', smp _ _ (sHA _ _ hu')⟩
        obtain ⟨ub, hub⟩ := hB2;refine ⟨.ref t, hvj, .inr (.inl ⟨t, _, 2, .ref l2, rfl, rfl, Bb htB, rfl, .inl ⟨rfl, ub, .inl (.inl hub)⟩, l2, ub, rfl, rfl, hub, ?_⟩)⟩;have s12 := s11.updW (o := .lst []) ap10 w2;have cg12 := cg11.step (us' := []) (B' := m + (n' + 1)) w2 mt2 hub (a8 _) (dn _) (λ_ z => nomatch z);refine ⟨_, _, sF8.trans sF10, ap10, s12, cg12, λb hb => ?_⟩;by_cases z2 : b = l2
        · rw [z2]; exact ⟨_, Z3⟩
        · rw [Zn z2, <- hHB]
          by_cases z0 : b = l0
          · rw [z0]; exact ⟨_, Z3⟩
          · rw [Zn z0]
            obtain ⟨o, ho⟩ := live8 b hb;exact ⟨o, smp _ _ (sHA _ _ ho)⟩
    · have hz' : n' = hs.length := by omega
      exact .inl ⟨⟨vs', sq8, by omega⟩, k σ8 H8 F8 own8 (sF.trans sF8) s8⟩
  · cases e
end
end DL
namespace DL
open PySem PySem.Spec PyProof.Rows L2 TT
section
variable{X:Cx}{Z:Ent X.K}{a b c:ci}{fa fb fc:FE}{pos:Pos}
theorem Zn5(j:Nat){y:Str}{i:Nat}{p1:Pos}{s1 s2 s3:Stmt}{t1 t2 t3:TS}(hp:PassesOwn (bp X.prog X.w) X.A X.env X.xe)(hc:X.calm=aC)(hN:X.N.Nodup)(hi:PE X a (Ja i))(h1:PS X s1 t1)(h2:PS X s2 t2)(h3:PS X s3 t3)
  (hj:X.N[j]? =aA y:=by rfl) (hx:Loc X.env.scope y:=by first|exact Or.inl rfl|exact gp rfl) (hf:X.fn y=aC\/X.env.scope.names.lookup y=aA .local:=by first|exact .inl rfl|exact .inr rfl) (hs:∀x,foldedSetIterable a X.env x=pure x:=by intro _;rfl):
  PS X (.For (.Name y p1) a [s1,s2,s3] [] pos) (Zau (Zdj X.K (Ja i)) (Ul j) (Tk t1 (Tk t2 t3))):=
 Zck hp hc (Zmt hi) (X9 hN hj hx hf) (U5 h1 (U5 h2 (X8 h3))) hs
theorem Zn6(j:Nat){y cc cd:Str}{j1 j2 j3 jt:Nat}{q1 q2 q3 q4 q5 q6 apos cpos:Pos}(hb:PE X (.Name y q1) (Ja j))
  (hbase:attributeBase (.Subscript (.Name y q1) (.Constant (.int 0) j1 q2) q3) "append" X.env (f8 (.Subscript (.Name y q1) (.Constant (.int 0) j1 q2) q3) X.env)=f8 (.Subscript (.Name y q1) (.Constant (.int 0) j1 q2) q3) X.env:=by rfl)
  (hfew:((f6 cpos (ay [.Tuple [.Constant (.str cc) j2 q4,.Constant (.str cd) j3 q5] jt q6] X.env)).all (λx=>!x.1)&&(backToKw cpos (keywordEach [] X.env)).all (λx=>x.1.isSome)&&decide ([Expr.Tuple [.Constant (.str cc) j2 q4,.Constant (.str cd) j3 q5] jt q6].length+([]:List Keyword).length+(if([]:List Keyword).isEmpty then 0 else 1)<30))=aC:=by rfl)
  (hline:(apos.endLine==cpos.line)=aC:=by rfl) (hs:ay [.Tuple [.Constant (.str cc) j2 q4,.Constant (.str cd) j3 q5] jt q6] X.env=(aD,f8 (.Tuple [.Constant (.str cc) j2 q4,.Constant (.str cd) j3 q5] jt q6) X.env)::ay [] X.env:=by rfl)
  (hs1:ay [.Constant (.str cc) j2 q4,.Constant (.str cd) j3 q5] X.env=(aD,f8 (.Constant (.str cc) j2 q4) X.env)::ay [.Constant (.str cd) j3 q5] X.env:=by rfl) (hs2:ay [.Constant (.str cd) j3 q5] X.env=(aD,f8 (.Constant (.str cd) j3 q5) X.env)::ay [] X.env:=by rfl)
  (hpl:(f6 cpos (ay [] X.env)).any (·.1)=aD:=by rfl) (hsw:swapsWith (.Call (.Attribute (.Subscript (.Name y q1) (.Constant (.int 0) j1 q2) q3) "append" apos) [.Tuple [.Constant (.str cc) j2 q4,.Constant (.str cd) j3 q5] jt q6] [] cpos) aB pos.line X.env=pure aD:=by rfl):
  PS X (.Expr (.Call (.Attribute (.Subscript (.Name y q1) (.Constant (.int 0) j1 q2) q3) "append" apos) [.Tuple [.Constant (.str cc) j2 q4,.Constant (.str cd) j3 q5] jt q6] [] cpos) pos) (Bp (tBM X.K "list" Qy (tAt j 0 X.K) (Ju (Zco (Ju (tC (.str cc)) (Ju (tC (.str cd)) Rz))) Rz))):=
 Og (Ii PySem.F.plainAttrs_list PySem.F.slot_list_append PySem.F.type_list_append Cc (Hg Kl hb Sz (by intro _ _;rfl)) (W3 (Zcp (W3 Kg (W3 Kg Jv hs2) hs1)) Jv hs) hbase hfew hline hs hpl) hsw
theorem Zn7(j:Nat){y:Str}{j1:Nat}{q1 q2 q3 apos cpos:Pos}(hb:PE X (.Name y q1) (Ja j))
  (hbase:attributeBase (.Subscript (.Name y q1) (.Constant (.int 2) j1 q2) q3) "clear" X.env (f8 (.Subscript (.Name y q1) (.Constant (.int 2) j1 q2) q3) X.env)=f8 (.Subscript (.Name y q1) (.Constant (.int 2) j1 q2) q3) X.env:=by rfl)
  (hline:(apos.endLine==cpos.line)=aC:=by rfl) (hsw:swapsWith (.Call (.Attribute (.Subscript (.Name y q1) (.Constant (.int 2) j1 q2) q3) "clear" apos) [] [] cpos) aB pos.line X.env=pure aD:=by rfl):
  PS X (.Expr (.Call (.Attribute (.Subscript (.Name y q1) (.Constant (.int 2) j1 q2) q3) "clear" apos) [] [] cpos) pos) (Bp (Zcv X.K "list" Kt (tAt j 2 X.K))):=
 Og (Zcw PySem.F.plainAttrs_list PySem.F.slot_list_clear PySem.F.type_list_clear Zcy (Hg Kl hb Sz (by intro _ _;rfl)) hbase hline) hsw
theorem Zf4{i j n:Nat}{g:List D->Option SV}{fd:FD}{T1 T2:FT}{tb1 tb2:TS}{cc cd:Str}{s1 s2 s3:Stmt}{rest:List Stmt}{f0:FS}(h1:PS X s1 (Kh (Nn (Y6 X.K n g) [] (λ_ _ _=>False) (Wj Z fd)) (Ul i)))(h2:PS X s2 (S0 (Yh Z T1) tb1 Tj))
  (h3:PS X s3 (Zau (Zdj X.K (Ja i)) (Ul j) (Tk (S0 (Yh Z T2) tb2 Tj) (Tk (Bp (tBM X.K "list" Qy (tAt j 0 X.K) (Ju (Zco (Ju (tC (.str cc)) (Ju (tC (.str cd)) Rz))) Rz))) (Bp (Zcv X.K "list" Kt (tAt j 2 X.K)))))))
  (hr:Gs X rest (Z1 Z f0)):Gs X (s1::s2::s3::rest) (Z1 Z (Yc (Gh i j n g fd T1 T2) f0)):=
 (U5 h1 (U5 h2 (U5 h3 hr))).imp λD σ H h=>Zjk (E:={D with nx:=Z1 Z f0 D}) (Zki h)
end
end DL
namespace DL
open PySem PySem.Spec PyProof.Rows L2 TX TT
variable{K:af}
abbrev NTs(H:Hp)(bs:List ak)(ks:List Zj):Prop:=Paired (λ(b:ak) (k:Zj)=>Ji H k b) bs ks
open Classical in
def Z1f(H:Hp)(k:Zj):aj->Bool:=λw=>decide (∃b,w= .ref b/\Ji H k b)
def Z1g(K:af)(neg:Bool):R2:=λx y H Q=>∃b k a bs ks,x= .ref b/\Ji H k b/\y= .ref a/\Wp K H a (bs.map V.ref)/\NTs H bs ks/\(∀k'∈ks,Wq 48 (Zs k') (Zs k)=aA (decide (k'=k)))/\Q (.bl (if neg then !(ks.any λx=>decide (x=k))else ks.any λx=>decide (x=k))) H
open Classical in
def inN(d1 d2:D):Option SV:=match d2 with
 | .lst xs=>(nk? d1).bind λk=>(nks? xs).bind λks=>if(∀k'∈ks,Wq 48 (Zs k') (Zs k)=aA (decide (k'=k)))then aA (.fz (.bl (ks.any λx=>decide (x=k))))else aB
 |_=>aB
open Classical in
def Zwt(d1 d2:D):Option SV:=match d2 with
 | .lst xs=>(nk? d1).bind λk=>(nks? xs).bind λks=>if(∀k'∈ks,Wq 48 (Zs k') (Zs k)=aA (decide (k'=k)))then aA (.fz (.bl (!(ks.any λx=>decide (x=k)))))else aB
 |_=>aB
end DL
namespace RV
open PySem PyProof.Rows
end RV
namespace RV
open PySem PyProof.Rows
def Zyv(h:dq)(it a:ak)(j:Int):Prop:=∃o,h.get? it=aA o/\o.cls= .type "list_reverseiterator"/\o.data= .fields #[.ref a,.int j 0]
end RV
namespace L2
open PySem PySem.Spec PyProof.Rows RV
def Itv(K:af)(a:ak)(n:Nat):It:=
 ⟨λi H=>∃xs x,Wp K H a xs/\xs.length=n/\xs.reverse[i]? =aA x,λi H x H'=>H'=H/\∀xs,Wp K H a xs->xs.reverse[i]? =aA x,λi H=>n<=i⟩
def Z1i(K:af)(ta:TA):TI:=λσ H R=>ta σ H λvs H1=>∃a xs,vs=[.ref a]/\Wp K H1 a xs/\R (Itv K a xs.length) H1
end L2
namespace DL
open PySem PySem.Spec PyProof.Rows L2
variable{K:af}{Z:Ent K}{σ:L2.St}{H:Hp}
@[simp] def Z1j(fd:FD):FD:=λδ=>(fd δ).bind λp=>match p.1 with
 | [.lst xs]=>aA (xs.reverse,p.2)
 |_=>aB
end DL
namespace DL
open PySem PySem.Spec PyProof.Rows L2
variable{K:af}
section
variable{Z:Ent K}{H:Hp}{σ:L2.St}{Q:VK}{E:Yq}
@[simp] def Zyw:FE:=λδ=>some (.tmp (.oD [([],[]),([],[]),([],[])]),δ)
def Zyx(i:Nat)(fi fk fv:FE):FS:=λδ=>(fv δ).bind λq=>(frz q.1 q.2).bind λr=>match r.2[i]? with
 |some (aA (.oD dss0))=>(fi r.2).bind λq2=>(Ev q2.1 q2.2).bind λjd=>match jd with
  | .int j=>(ixN dss0.length j).bind λn=>(fk q2.2).bind λq3=>(Ev q3.1 q3.2).bind λkd=>kd.key?.bind λkk=>match q3.2[i]? with
   |some (aA (.oD dss))=>(dss[n]?).bind λp=>if p.2.length<a7 then aA (.nx (q3.2.set i (aA (.oD (dss.set n (Wh p.1 p.2 kk r.1))))))else aB
   |_=>aB
  |_=>aB
 |_=>aB
end
end DL
namespace L2
open PySem PySem.Spec PyProof.Rows SX TT TX DL
section
variable{X:Cx}
def rLS(K:af):List V->Hp->VK->Prop:=λvs H Q=>∃(l:ak) (ys:List (Zj×ak)),vs=[.ref l]/\Wp K H l (ys.map λy=>V.ref y.2)/\(∀y∈ys,Ji H y.1 y.2)/\ys.length<=75/\Q (.int ((E3 ys).length:Nat)) H
end
end L2
namespace DL
open PySem PySem.Spec PyProof.Rows L2 SX TT TX
variable{K:af}
def Zyy:List D->Option SV
 | [.lst xs]=>(nks? xs).bind λks=>if ks.length<=75 then aA (.fz (.int ((Sx ks).length:Nat)))else aB
 |_=>aB
end DL
namespace DL
open PySem PySem.Spec PyProof.Rows L2 TT TX
variable{K:af}
section
variable{Z:Ent K}{H:Hp}{σ:L2.St}{Q:VK}{E:Yq}
@[simp] def Zyz:FE:=λδ=>some (.tmp (.oM [] []),δ)
def Zwu(j i:Nat)(fk fv:FE):FS:=λδ=>match δ[i]? with
 |some (aA (.oM _ _))=>(fk δ).bind λp=>(frz p.1 p.2).bind λq=>(nk? q.1).bind λkk=>(fv q.2).bind λr=>(frz r.1 r.2).bind λw=>match w.2[i]? with
  |some (aA (.oM ks ds))=>if ds.length<a7 then match Jd ks kk with
   |some p=>(ds[p]?).bind λd=>(stow j (.tmp (.fz d)) w.2).bind λδ'=>aA (.nx δ')
   |none=>(stow j (.tmp (.fz w.1)) (w.2.set i (aA (.oM (ks++[kk]) (ds++[w.1]))))).bind λδ'=>aA (.nx δ')
   else aB
  |_=>aB
 |_=>aB
end
end DL
namespace My
open DL PySem
theorem Qz{n:Nat}(h:n<=16777216):n<=PySem.sizeLine:=h
theorem Yt{n:Nat}(h:n<16777216):n<PySem.sizeLine:=h
abbrev LET:Str:="ABCDEFGHIJKLMNOPQRSTUVWXYZabcdefghijklmnopqrstuvwxyz"
theorem Ou(a b:Str):(a++b).length=a.length+b.length:=by show(a.cps++b.cps).size=a.cps.size+b.cps.size;simp
theorem Zt6(c:Nat):(⟨#[c]⟩:Str).length=1:=rfl
theorem Zjl(ns:List Int)(lo hi:Option Int):∃ms:List Int,Ew (ns.map D.int) lo hi=ms.map D.int/\ms.length<=ns.length:=by unfold Ew;refine⟨(ns.drop _).take _,by rw[List.map_take,List.map_drop],?_⟩;rw[gm,List.length_drop];omega
def cat:List Str->Str
 | []=>""
 |x::r=>x++cat r
theorem Rn{te:FE}{f:D->D}{c:Option SV}{j:Nat}:∀(xs ys:List D),(∀x∈xs,∀zs,te [aA (.fz x),c,aA (.ol zs)]=aA (.tmp (.fz (f x)),[aA (.fz x),c,aA (.ol zs)]))->ys.length+xs.length<=16777216->
  Y7 [.own,.cap j,.acc] 2 (Zg 0) Q5 te xs [aB,c,aA (.ol ys)]=aA [aB,c,aA (.ol (ys++xs.map f))]
 | [],ys,_,_=>by simp
 |x::xs,ys,h,hl=>by rw[bn]at hl;have ih:=Rn (te:=te) (f:=f) (c:=c) (j:=j) xs (ys++[f x]) (λy hy=>h y (ar _ hy)) (by rw[bj];simp;omega);have e1:=h x ah ys;have h4:ys.length<PySem.sizeLine:=Yt (by omega);simp[e1,h4];simpa using ih
theorem Ov{f:D->D->Option Bool}:∀xs:List D,(∀x∈xs,f x x=aA aC)->Qq f xs xs=aA aC
 | [],_=>rfl
 |x::r,h=>by simp[h x ah,Ov r λy hy=>h y (ar _ hy)]
end My
namespace My
open DL PySem StrLaws Builtin.Str
def gap(n:Nat):Nat->List Nat->Prop
 |_,[]=>True
 |a,p::r=>a<=p/\gap n (p+n) r
def jl(y:List Nat):List (List Nat)->List Nat
 | []=>[]
 | [p]=>p
 |p::q::r=>p++y++jl y (q::r)
def pos(n:Nat):Nat->List (List Nat)->List Nat
 |_,[]=>[]
 |_,[_]=>[]
 |a,p::q::r=>(a+p.length)::pos n (a+p.length+n) (q::r)
structure Sep(y:Str)(c o:Nat):Prop where
 at':y.cps.toList[o]? =aA c
 one:∀j,y.cps.toList[j]? =aA c->j=o
end My
namespace My
open DL PySem
theorem Zjm{tg:FG}{body:FS}{d:D}{ds:List D}{δ δ1 δ2:Yg}(h1:tg.run d δ=aA δ1)(h2:body δ1=aA (.nx δ2)):Yi tg body (d::ds) δ=Yi tg body ds δ2:=by show(tg.run d δ).bind _=_;rw[h1,b7,h2,b7]
abbrev S(l:List Nat):Str:=⟨l.toArray⟩
theorem Zll(l:List Nat):(S l).length=l.length:=by show l.toArray.size=_;simp
theorem Zsi(a b:List Nat):S a++S b=S (a++b):=by
 show(⟨a.toArray++b.toArray⟩:Str)=⟨(a++b).toArray⟩
 simp
theorem Zsj{a b:List Nat}(h:S a=S b):a=b:=by have:a.toArray=b.toArray:=congrArg Str.cps h;simpa using this
theorem Zsk(x:Str):x=S x.cps.toList:=by cases x;simp
theorem Zn8(l:List Nat):(S l).cps.toList=l:=by simp
theorem Zf5{α:Type}(p:List α)(i:Nat)(c:α)(h:p[i]? =aA c):L2.atI p (i:Int)=aA c:=by have hl:=(ax.mp h).1;unfold L2.atI L2.ixN;rw[if_pos (by omega),if_pos (by omega)];simpa using h
section
variable{κ:Type}[DecidableEq κ]
theorem Sa(k k':κ)(v:D):∀(ks:List κ) (vs:List D),k∈ks->ks.length=vs.length->look ks ((ks.zip vs).map λp=>if p.1=k then v else p.2) k'=if k=k' then aA v else look ks vs k'
 |a::ks,u::vs,hk,hl=>by
  rw[List.zip_cons_cons,av];show(if a=k' then aA (if a=k then v else u)else look ks ((ks.zip vs).map λp=>if p.1=k then v else p.2) k')=if k=k' then aA v else(if a=k' then aA u else look ks vs k')
  by_cases ha:a=k'
  ·subst ha;rw[if_pos rfl,if_pos rfl];by_cases hk2:a=k
   ·subst hk2;rw[if_pos rfl,if_pos rfl]
   ·rw[if_neg hk2,if_neg λe=>hk2 e.symm]
  ·rw[if_neg ha,if_neg ha];by_cases hm:k∈ks
   ·exact Sa k k' v ks vs hm (by simpa using hl)
   ·have hak:k=a:=by
     rcases bo.mp hk with e|e
     ·exact e
     ·exact absurd e hm
    rw[if_neg λe=>ha (hak.symm.trans e)];have:((ks.zip vs).map λp=>if p.1=k then v else p.2)=vs:=by
     have hl':ks.length=vs.length:=by simpa using hl
     clear hk hl ha;induction ks generalizing vs with
     |nil=>cases vs with
      |nil=>rfl
      |cons _ _=>simp at hl'
     |cons b ks ih=>cases vs with
      |nil=>simp at hl'
      |cons w vs=>rw[List.zip_cons_cons,av,if_neg λe=>hm (by rw[<-e];exact ah),ih vs (λh=>hm (ar _ h)) (by simpa using hl')]
    rw[this]
 | [],_,hk,_=>nomatch hk
theorem Fq(k k':κ)(v:D):∀(ks:List κ) (vs:List D),k∉ks->ks.length=vs.length->look (ks++[k]) (vs++[v]) k'=if k=k' then aA v else look ks vs k'
 | [],[],_,_=>by show(if k=k' then aA v else aB)=_;rfl
 |a::ks,u::vs,hk,hl=>by
  show(if a=k' then aA u else look (ks++[k]) (vs++[v]) k')=if k=k' then aA v else(if a=k' then aA u else look ks vs k')
  by_cases ha:a=k'
  ·rw[if_pos ha,if_pos ha,if_neg λe=>hk (by rw[e,<-ha];exact ah)]
  ·rw[if_neg ha,if_neg ha];exact Fq k k' v ks vs (λh=>hk (ar _ h)) (by simpa using hl)
theorem Zf6(k k':κ)(v:D)(ks:List κ)(vs:List D)(hl:ks.length=vs.length):look (Wh ks vs k v).1 (Wh ks vs k v).2 k'=if k=k' then aA v else look ks vs k':=by
 unfold Wh;split
 ·rename_i h;exact Sa k k' v ks vs h hl
 ·rename_i h;exact Fq k k' v ks vs h hl
end
end My
namespace My
open DL PySem
abbrev Xk(s n:Nat):List D:=(List.range' s n).map λi:Nat=>D.int (i:Int)
theorem Mf(n:Nat):Mo 0 n=Xk 0 n:=by unfold Mo;rw[List.range_eq_range'];refine fg λi _=>?_;simp
theorem Ci{tg:FG}{body:FS}{P:Nat->Yg->Prop}:∀(n s:Nat) (δ:Yg),P s δ->(∀i,s<=i->i<s+n->∀δ,P i δ->∃δ1 δ2,tg.run (.int (i:Int)) δ=aA δ1/\body δ1=aA (.nx δ2)/\P (i+1) δ2)->
  ∃δ',Yi tg body (Xk s n) δ=aA (.nx δ')/\P (s+n) δ'
 |0,s,δ,h,_=>⟨δ,rfl,h⟩
 |n+1,s,δ,h,k=>by obtain⟨δ1,δ2,h1,h2,h3⟩:=k s (a8 _) (by omega) δ h;obtain⟨δ',e,h'⟩:=Ci (tg:=tg) (body:=body) (P:=P) n (s+1) δ2 h3 λi hi hj=>k i (by omega) (by omega);refine⟨δ',?_,by rw[show s+(n+1)=s+1+n by omega];exact h'⟩;show Yi tg body (.int (s:Int)::Xk (s+1) n) δ=_;rw[Zjm h1 h2];exact e
def Zsl(i:Nat):List D->List D
 | []=>[]
 |x::r=>.tup [.int (i:Int),x]::Zsl (i+1) r
theorem Zjn(n:Nat)(xs:List D)(h:∀x∈xs,M7 n x x=aA aC):M7 (n+1) (.tup xs) (.tup xs)=aA aC:=by simp[Ov xs h]
theorem D9(n:Nat)(x:Str):M7 (n+1) (.str x) (.str x)=aA aC:=by simp
end My
namespace My
open DL PySem StrLaws Builtin.Str
end My
namespace My
open DL PySem
abbrev Zv(xs:List Str):List L2.Key:=xs.map b8
theorem Uc(k:Str):∀(xs:List Str) (vs:List D),look (Zv xs) vs (b8 k)=look xs vs k
 | [],[]=>rfl
 | [],_::_=>rfl
 |_::_,[]=>rfl
 |x::xs,v::vs=>by
  show(if(b8 x:L2.Key)=b8 k then aA v else look (Zv xs) vs (b8 k))=if x=k then aA v else look xs vs k;rw[Uc k xs vs];by_cases h:x=k
  ·rw[if_pos h,if_pos (by rw[h])]
  ·rw[if_neg h,if_neg λe=>h (b8.inj e)]
theorem Ax(k:Str)(v:D)(xs:List Str)(vs:List D):Wh (Zv xs) vs (b8 k) v=(Zv (Wh xs vs k v).1,(Wh xs vs k v).2):=by
 have hm:((b8 k:L2.Key)∈Zv xs)↔k∈xs:=by
  constructor
  ·intro h;obtain⟨y,hy,e⟩:=a6.mp h;rw[<-b8.inj e];exact hy
  ·exact λh=>a6.mpr ⟨k,h,rfl⟩
 unfold Wh;by_cases h:k∈xs
 ·rw[if_pos h,if_pos (hm.mpr h)];congr 1;have:∀(xs:List Str) (vs:List D),((Zv xs).zip vs).map (λp=>if p.1=(b8 k:L2.Key)then v else p.2)=(xs.zip vs).map λp=>if p.1=k then v else p.2:=by
   intro xs;induction xs with
   |nil=>intro vs;rfl
   |cons x xs ih=>
    intro vs;cases vs with
    |nil=>rfl
    |cons u vs=>
     show(if(b8 x:L2.Key)=b8 k then v else u)::((Zv xs).zip vs).map (λp=>if p.1=(b8 k:L2.Key)then v else p.2)=(if x=k then v else u)::(xs.zip vs).map λp=>if p.1=k then v else p.2;rw[ih vs];by_cases hx:x=k
     ·rw[if_pos hx,if_pos (by rw[hx])]
     ·rw[if_neg hx,if_neg λe=>hx (b8.inj e)]
  exact this xs vs
 ·rw[if_neg h,if_neg λe=>h (hm.mp e)];simp[Zv]
theorem Ay{k:Str}{v:D}{xs:List Str}{vs:List D}(h:k∉xs):Wh xs vs k v=(xs++[k],vs++[v]):=by unfold Wh;rw[if_neg h]
structure Dic(xs:List Str)(vs:List D):Prop where
 nd:xs.Nodup
 len:xs.length=vs.length
theorem Sb{xs:List Str}:∀{vs:List D},xs.Nodup->xs.length=vs.length->∀(i:Nat) (x:Str) (v:D),xs[i]? =aA x->vs[i]? =aA v->look xs vs x=aA v:=by
 induction xs with
 |nil=>intro vs _ _ i x v h;simp at h
 |cons y xs ih=>
  intro vs nd hl i x v hx hv;cases vs with
  |nil=>simp at hv
  |cons u vs=>
   obtain⟨n1,n2⟩:=fq.mp nd;show(if y=x then aA u else look xs vs x)=aA v;cases i with
   |zero=>simp at hx hv;rw[if_pos hx,hv]
   |succ i=>simp at hx hv;have hm:=cz hx;rw[if_neg λe=>n1 (by rw[e];exact hm)];exact ih n2 (by simpa using hl) i x v hx hv
theorem Sc:∀xs:List Str,strK? (Zv xs)=aA xs
 | []=>rfl
 |x::xs=>by show(strK? (Zv xs)).bind (λt=>aA (x::t))=aA (x::xs);rw[Sc xs];rfl
theorem Fr{f:D->D->Option Bool}{ys:List Str}{us:List D}:∀(xs:List Str) (vs:List D),(∀(i:Nat) (x:Str) (v:D),xs[i]? =aA x->vs[i]? =aA v->look ys us x=aA v/\f v v=aA aC)->Lj f ys us xs vs=aA aC
 | [],_,_=>rfl
 |_::_,[],_=>rfl
 |x::xs,v::vs,h=>by
  obtain⟨h1,h2⟩:=h 0 x v rfl rfl;have ih:=Fr xs vs λi x v hx hv=>h (i+1) x v (by simpa using hx) (by simpa using hv);show(match look ys us x with
   |none=>aA aD
   |some u=>(f v u).bind λb=>(Lj f ys us xs vs).bind λc=>aA (b&&c))=aA aC
  rw[h1];dsimp only;rw[h2,ih];rfl
theorem Zf7(n:Nat){xs:List Str}{vs:List D}(h:Dic xs vs)(hv:∀v∈vs,M7 n v v=aA aC):M7 (n+1) (.dK (Zv xs) vs) (.dK (Zv xs) vs)=aA aC:=by show(strK? (Zv xs)).bind (λxs'=>(strK? (Zv xs)).bind λys=>if xs'.length=ys.length then Lj (M7 n) ys vs xs' vs else aA aD)=aA aC;rw[Sc];dsimp only[Option.bind];rw[if_pos rfl];exact Fr xs vs λi x v hx hv'=>⟨Sb h.nd h.len i x v hx hv',hv v (cz hv')⟩
end My
namespace My
open DL PySem TT
theorem Ta(n:Nat)(xs:List D)(h:∀x∈xs,Wq n x x=aA aC):Wq (n+1) (.lst xs) (.lst xs)=aA aC:=by simp[Ov xs h]
theorem Zaa(n:Nat)(xs:List D)(h:∀x∈xs,Wq n x x=aA aC):Wq (n+1) (.tup xs) (.tup xs)=aA aC:=by simp[Ov xs h]
theorem Zab(n:Nat)(x:Str):Wq (n+1) (.str x) (.str x)=aA aC:=by simp
abbrev NK:=L2.Zj
def tE(s:List Nat):List Nat:=s.map (· +1)++[0]
theorem Az:∀(s t u v:List Nat),(tE s++u<tE t++v)↔(s<t\/(s=t/\u<v))
 | [],[],u,v=>by show(0::u<0::v)↔_;rw[dj];simp
 | [],b::t,u,v=>by show(0::u<(b+1)::(tE t++v))↔_;rw[dj];simp
 |a::s,[],u,v=>by show((a+1)::(tE s++u)<0::v)↔_;rw[dj];simp
 |a::s,b::t,u,v=>by
  show((a+1)::(tE s++u)<(b+1)::(tE t++v))↔_;rw[dj,Az s t u v,dj];constructor
  ·rintro(h|⟨h1,h2|⟨h2,h3⟩⟩)
   ·exact .inl (.inl (by omega))
   ·exact .inl (.inr ⟨by omega,h2⟩)
   ·exact .inr ⟨by rw[h2,show a=b by omega],h3⟩
  ·rintro((h|⟨h1,h2⟩)|⟨h1,h2⟩)
   ·exact .inl (by omega)
   ·exact .inr ⟨by omega,.inl h2⟩
   ·cases h1;exact .inr ⟨rfl,.inr ⟨rfl,h2⟩⟩
theorem Zf8:∀(s t u v:List Nat),tE s++u=tE t++v->s=t/\u=v:=by
 intro s;induction s with
 |nil=>intro t u v z;cases t with
  |nil=>exact⟨rfl,by simpa[tE]using z⟩
  |cons b t=>simp[tE]at z
 |cons a s ih=>intro t u v z;cases t with
  |nil=>simp[tE]at z
  |cons b t=>have z:(a+1)::(tE s++u)=(b+1)::(tE t++v):=z;obtain⟨z1,z2⟩:=List.cons.inj z;obtain⟨i1,i2⟩:=ih t u v z2;exact⟨by rw[i1,show a=b by omega],i2⟩
theorem Gi{a b:Str}(h:a.cps.toList=b.cps.toList):a=b:=by rw[Zsk a,Zsk b,h]
def Ud:List Str->List Nat
 | []=>[0]
 |x::l=>1::(tE x.cps.toList++Ud l)
theorem A7:∀{a b:List Str},Ud a=Ud b->a=b
 | [],[],_=>rfl
 | [],_::_,h=>by simp[Ud]at h
 |_::_,[],h=>by simp[Ud]at h
 |x::a,y::b,h=>by obtain⟨_,h2⟩:=List.cons.inj h;obtain⟨e1,e2⟩:=Zf8 _ _ _ _ h2;rw[Gi e1,A7 e2]
theorem L1(n:Nat)(x y:Str):Wq (n+1) (.str x) (.str y)=aA (decide (x=y)):=by simp
theorem Xl(n:Nat)(x y:Str):TX.Jo (n+1) (.str x) (.str y)=aA (decide (x.cps.toList<y.cps.toList)):=rfl
theorem A8(n:Nat):∀a b:List Str,TX.Re (Wq (n+1)) (TX.Jo (n+1)) (a.map D.str) (b.map D.str)=aA (decide (Ud a<Ud b))
 | [],[]=>by show aA aD=_;exact congrArg aA (by decide)
 | [],y::b=>by show aA aC=_;refine congrArg aA (decide_eq_true ?_).symm;show[0]<1::_;rw[dj];exact .inl (by decide)
 |x::a,[]=>by show aA aD=_;refine congrArg aA (decide_eq_false ?_).symm;show¬(1::_< [0]);rw[dj];rintro(h|⟨h,_⟩)<;> omega
 |x::a,y::b=>by
  show(Wq (n+1) (.str x) (.str y)).bind (λc=>if c=aC then TX.Re (Wq (n+1)) (TX.Jo (n+1)) (a.map D.str) (b.map D.str)else TX.Jo (n+1) (.str x) (.str y))=_;rw[L1,A8 n a b,Xl];have e:(Ud (x::a)<Ud (y::b))↔(x.cps.toList<y.cps.toList\/(x.cps.toList=y.cps.toList/\Ud a<Ud b)):=by
   show(1::(tE x.cps.toList++Ud a)<1::(tE y.cps.toList++Ud b))↔_;rw[dj,Az];constructor
   ·rintro(h|⟨_,h⟩)
    ·omega
    ·exact h
   ·exact λh=>.inr ⟨rfl,h⟩
  by_cases h:x=y
  ·subst h;have i:=List.lt_irrefl x.cps.toList;rw[decide_eq_true rfl];show aA (decide (Ud a<Ud b))=_;refine congrArg aA (decide_eq_decide.mpr ?_);rw[e];exact⟨λz=>.inr ⟨rfl,z⟩,λz=>z.elim (λz=>absurd z i) λz=>z.2⟩
  ·rw[decide_eq_false h];show aA (decide (x.cps.toList<y.cps.toList))=_;refine congrArg aA (decide_eq_decide.mpr ?_);rw[e];exact⟨.inl,λz=>z.elim id λz=>absurd (Gi z.1) h⟩
theorem A9(n:Nat):∀a b:List Str,∃c,Qq (Wq (n+1)) (a.map D.str) (b.map D.str)=aA c/\(c&&decide ((a.map D.str).length=(b.map D.str).length))=decide (a=b)
 | [],[]=>⟨aC,rfl,by simp⟩
 | [],y::b=>⟨aC,rfl,by simp⟩
 |x::a,[]=>⟨aC,rfl,by simp⟩
 |x::a,y::b=>by
  obtain⟨c,e1,e2⟩:=A9 n a b;refine⟨decide (x=y)&&c,?_,?_⟩
  ·show(Wq (n+1) (.str x) (.str y)).bind (λb'=>(Qq (Wq (n+1)) (a.map D.str) (b.map D.str)).bind λc'=>aA (b'&&c'))=_;rw[L1,e1];rfl
  ·rw[Bool.and_assoc];have:decide (((x::a).map D.str).length=((y::b).map D.str).length)=decide ((a.map D.str).length=(b.map D.str).length):=by simp
   rw[this,e2];by_cases h:x=y
   ·by_cases h2:a=b<;> simp[h,h2]
   ·simp[h]
theorem Xm(n:Nat)(a b:List Str):Wq (n+2) (.tup (a.map D.str)) (.tup (b.map D.str))=aA (decide (a=b)):=by obtain⟨c,e1,e2⟩:=A9 n a b;show(Qq (Wq (n+1)) (a.map D.str) (b.map D.str)).bind (λb'=>aA (b'&&decide ((a.map D.str).length=(b.map D.str).length)))=_;rw[e1];show aA (c&&_)=_;rw[e2]
inductive OneK:NK->NK->Prop where
 |nm (a b:List Str):OneK (.inl a) (.inl b)
 |mk (n m:Nat) (a b:List Str):OneK (.inr ((n:Int),a)) (.inr ((m:Int),b))
def Gj:NK->List Nat
 | .inl l=>Ud l
 | .inr (n,l)=>n.toNat::Ud l
theorem Zf9{a b:NK}(h:OneK a b)(e:Gj a=Gj b):a=b:=by
 cases h with
 |nm a b=>rw[A7 e]
 |mk n m a b=>obtain⟨e1,e2⟩:=List.cons.inj e;rw[A7 e2,show n=m by simpa using e1]
theorem Zga(n:Nat){a b:NK}(h:OneK a b):Wq (n+3) (Zs a) (Zs b)=aA (decide (a=b)):=by
 cases h with
 |nm a b=>show Wq (n+3) (.tup (a.map D.str)) (.tup (b.map D.str))=_;rw[show n+3=n+1+2 from rfl,Xm];exact congrArg aA (decide_eq_decide.mpr ⟨λz=>by rw[z],λz=>Sum.inl.inj z⟩)
 |mk n1 m1 a b=>
  have e:=Xm n a b;show(Qq (Wq (n+2)) [.int (n1:Int),.tup (a.map D.str)] [.int (m1:Int),.tup (b.map D.str)]).bind (λb'=>aA (b'&&decide (2=2)))=_;show((Wq (n+2) (.int (n1:Int)) (.int (m1:Int))).bind λb'=>((Wq (n+2) (.tup (a.map D.str)) (.tup (b.map D.str))).bind λc1=>(aA aC).bind λc2=>aA (c1&&c2)).bind λc'=>aA (b'&&c')).bind (λb'=>aA (b'&&decide (2=2)))=_;rw[e,show Wq (n+2) (.int (n1:Int)) (.int (m1:Int))=aA (decide ((n1:Int)=m1)) by simp];show aA _=_;refine congrArg aA ?_;by_cases h1:n1=m1
  ·by_cases h2:a=b
   ·subst h1 h2;simp
   ·subst h1;have hf:decide ((b8 ((n1:Int),a):NK)=b8 ((n1:Int),b))=aD:=decide_eq_false λz=>h2 (Prod.mk.inj (b8.inj z)).2;rw[hf,decide_eq_false h2];simp
  ·have hf:decide ((b8 ((n1:Int),a):NK)=b8 ((m1:Int),b))=aD:=decide_eq_false λz=>h1 (by have:=(Prod.mk.inj (b8.inj z)).1;omega);rw[hf,decide_eq_false (show¬(n1:Int)=m1 by omega)];simp
theorem Zgb(n:Nat){a b:NK}(h:OneK a b):TX.Jo (n+4) (Zs a) (Zs b)=aA (decide (Gj a<Gj b)):=by
 cases h with
 |nm a b=>exact A8 (n+2) a b
 |mk n1 m1 a b=>
  have e:=Xm (n+1) a b;have e2:=A8 (n+1) a b;show(Wq (n+3) (.int (n1:Int)) (.int (m1:Int))).bind (λc=>if c=aC then(Wq (n+3) (.tup (a.map D.str)) (.tup (b.map D.str))).bind (λc=>if c=aC then aA aD else TX.Jo (n+3) (.tup (a.map D.str)) (.tup (b.map D.str)))else TX.Jo (n+3) (.int (n1:Int)) (.int (m1:Int)))=_;rw[e,show Wq (n+3) (.int (n1:Int)) (.int (m1:Int))=aA (decide ((n1:Int)=m1)) by simp];show(if decide ((n1:Int)=m1)=aC then(if decide (a=b)=aC then aA aD else TX.Re (Wq (n+2)) (TX.Jo (n+2)) (a.map D.str) (b.map D.str))else aA (decide ((n1:Int)<m1)))=_;rw[e2];have el:(Gj (.inr ((n1:Int),a))<Gj (.inr ((m1:Int),b)))↔(n1<m1\/(n1=m1/\Ud a<Ud b)):=by show((n1:Int).toNat::Ud a<(m1:Int).toNat::Ud b)↔_;rw[dj];simp
  by_cases h1:n1=m1
  ·rw[if_pos (by simp[h1])];by_cases h2:a=b
   ·rw[if_pos (by simp[h2])];refine congrArg aA (decide_eq_false ?_).symm;rw[el];subst h1 h2;rintro(z|⟨_,z⟩)
    ·omega
    ·exact List.lt_irrefl _ z
   ·rw[if_neg (by simp[h2])];refine congrArg aA (decide_eq_decide.mpr ?_);rw[el];exact⟨λz=>.inr ⟨h1,z⟩,λz=>z.elim (λz=>by omega) λz=>z.2⟩
  ·rw[if_neg (by simp;omega)];refine congrArg aA (decide_eq_decide.mpr ?_);rw[el];exact⟨λz=>.inl (by omega),λz=>z.elim (λz=>by omega) λz=>absurd z.1 h1⟩
def C1(ks:List NK):Prop:=(∀k∈ks,∃(x:Str) (l:List Str),k= .inl (x::l))\/∀k∈ks,∃(n:Nat) (l:List Str),k= .inr ((n:Int),l)
theorem C1.one{ks:List NK}(h:C1 ks){a b:NK}(ha:a∈ks)(hb:b∈ks):OneK a b:=by
 rcases h with h|h
 ·obtain⟨x,l,rfl⟩:=h a ha;obtain⟨y,m,rfl⟩:=h b hb;exact .nm _ _
 ·obtain⟨x,l,rfl⟩:=h a ha;obtain⟨y,m,rfl⟩:=h b hb;exact .mk _ _ _ _
theorem C1.sub{ks js:List NK}(h:C1 ks)(hs:∀k∈js,k∈ks):C1 js:=h.imp (λh k hk=>h k (hs k hk)) λh k hk=>h k (hs k hk)
def Zgc(d:D):List Nat:=Gj ((nk? d).getD (.inl []))
theorem Tc(k:NK):Zgc (Zs k)=Gj k:=by unfold Zgc;rw[Md];rfl
theorem Zbv{ks:List NK}(h:C1 ks)(nd:ks.Nodup):TX.KeysOk (ks.map Zs):=by
 refine⟨?_,Zgc,λa ha b hb=>?_,?_⟩
 ·rcases h with h|h
  ·refine⟨.str,λd hd=>?_⟩;obtain⟨k,hk,rfl⟩:=a6.mp hd;obtain⟨x,l,rfl⟩:=h k hk;exact .str _ _
  ·refine⟨.int,λd hd=>?_⟩;obtain⟨k,hk,rfl⟩:=a6.mp hd;obtain⟨x,l,rfl⟩:=h k hk;exact .int _ _
 ·obtain⟨k,hk,rfl⟩:=a6.mp ha;obtain⟨l,hl,rfl⟩:=a6.mp hb;rw[Tc,Tc];exact Zgb 12 (h.one hk hl)
 ·refine Ch.mpr ?_;rw[bx];refine List.Pairwise.map _ (R:=λa b=>a≠b/\a∈ks/\b∈ks) (λa b ⟨h1,h2,h3⟩ e=>h1 ?_) ?_
  ·have e:Zgc (Zs a)=Zgc (Zs b):=e;rw[Tc,Tc]at e;exact Zf9 (h.one h2 h3) e
  ·exact(List.Pairwise.and_mem.mp nd).imp fun{a b} z=>⟨z.2.2,z.1,z.2.1⟩
theorem Zgd{ks:List NK}{k x:NK}:x∈M5 ks k↔x∈ks\/x=k:=by
 unfold M5;have e:(ks.any λz=>decide (z=k))=aC↔k∈ks:=by rw[List.any_eq_true];exact⟨λ⟨z,hz,e⟩=>by have:z=k:=of_decide_eq_true e;rw[<-this];exact hz,λh=>⟨k,h,decide_eq_true rfl⟩⟩
 split
 ·rename_i h;exact⟨.inl,λz=>z.elim id λz=>by rw[z];exact e.mp h⟩
 ·rw[cn,au]
theorem Zjo{ks:List NK}{k:NK}(h:ks.Nodup):(M5 ks k).Nodup:=by
 unfold M5;split
 ·exact h
 ·rename_i hn;refine di.mpr ⟨h,by simp,λa ha b hb z=>hn ?_⟩;rw[au.mp hb]at z;rw[List.any_eq_true];exact⟨a,ha,decide_eq_true z⟩
theorem Ea:∀(ks acc:List NK),acc.Nodup->(ks.foldl M5 acc).Nodup/\∀x,x∈ks.foldl M5 acc↔x∈acc\/x∈ks
 | [],acc,h=>⟨h,λx=>by simp⟩
 |k::ks,acc,h=>by obtain⟨a,b⟩:=Ea ks (M5 acc k) (Zjo h);refine⟨a,λx=>?_⟩;rw[List.foldl_cons,b x,Zgd,bo];exact⟨λz=>by rcases z with(z|z)|z;(· exact .inl z);(· exact .inr (.inl z));exact .inr (.inr z),λz=>by rcases z with z|z|z;(· exact .inl (.inl z));(· exact .inl (.inr z));exact .inr z⟩
theorem Xn(ks:List NK):(Sx ks).Nodup:=(Ea ks [] c7).1
theorem L3(ks:List NK)(x:NK):x∈Sx ks↔x∈ks:=by rw[show Sx ks=ks.foldl M5 []from rfl,(Ea ks [] c7).2 x];simp
theorem Zjp(ks:List NK):(Sx ks).length<=ks.length:=List.Nodup.length_le_of_subset (Xn ks) λx hx=>(L3 ks x).mp hx
theorem Zge{ks out:List NK}(h:C1 ks)(hl:ks.length<64)(hm:∀x,x∈out↔x∈ks)(hs:out.Pairwise λa b=>Gj a<Gj b):Ms ks=aA (.ol (out.map Zs)):=by
 have nd:out.Nodup:=hs.imp fun{a b} z e=>by rw[e]at z;exact List.lt_irrefl _ z
 have pm:out.Perm (Sx ks):=(List.perm_ext_iff_of_nodup nd (Xn ks)).mpr λx=>by rw[hm,L3]
 have hk:=h.sub λk hk=>(L3 ks k).mp hk;refine Zfo (by omega) (by have:=Zjp ks;omega) (Zbv hk (Xn ks)) ⟨pm.map _,df.mpr ?_⟩;refine(List.Pairwise.and_mem.mp hs).imp fun{a b} ⟨ha,hb,z⟩=>?_;rw[Zgb 12 (h.one ((hm b).mp hb) ((hm a).mp ha))];exact congrArg aA (decide_eq_false λy=>List.lt_irrefl _ (List.lt_trans y z))
end My
namespace My
open DL PySem TT
theorem Zjq{ds out:List D}(hk:TX.KeysOk ds)(hl:ds.length<64)(so:Ri ds out):TX.Ao ds ds=aA (.ol out):=by obtain⟨p,hp,e⟩:=TX.Zi0 (ks:=ds) (xs:=ds) rfl hl hk;rw[e,Gf hk (Au hp) so]
open Classical in
theorem Zac{α:Type}{f:α->D}{enc:α->List Nat}{xs out:List α}{kk:TX.KK}(hk:∀a∈xs,TX.IsKey kk (f a))(hlt:∀a∈xs,∀b∈xs,TX.Jo 16 (f a) (f b)=aA (decide (enc a<enc b)))(nd:(xs.map enc).Nodup)(hl:xs.length<64)
  (hp:out.Perm xs) (hs:out.Pairwise λa b=>¬enc b<enc a):TX.Ao (xs.map f) (xs.map f)=aA (.ol (out.map f)):=by
 have same:∀a∈xs,∀b∈xs,f a=f b->enc a=enc b:=λa ha b hb e=>by
  have h1:=hlt a ha b hb;have h2:=hlt b hb a ha;rw[<-e,hlt a ha a ha]at h1;rw[<-e,hlt a ha a ha]at h2;have i:¬enc a<enc a:=List.lt_irrefl _;have h1:decide (enc a<enc b)=aD:=by rw[<-dm.inj h1];exact decide_eq_false i
  have h2:decide (enc b<enc a)=aD:=by rw[<-dm.inj h2];exact decide_eq_false i
  exact List.le_antisymm (d4.mp (of_decide_eq_false h2)) (d4.mp (of_decide_eq_false h1))
 let e:D->List Nat:=λd=>if h:∃a,a∈xs/\f a=d then enc (Classical.choose h)else[]
 have ee:∀a∈xs,e (f a)=enc a:=λa ha=>by
  have h:∃a',a'∈xs/\f a'=f a:=⟨a,ha,rfl⟩
  show(if h:∃a',a'∈xs/\f a'=f a then enc (Classical.choose h)else[])=enc a;rw[dif_pos h];exact same _ (Classical.choose_spec h).1 a ha (Classical.choose_spec h).2
 have ko:TX.KeysOk (xs.map f):=by
  refine⟨⟨kk,λd hd=>?_⟩,e,λa ha b hb=>?_,?_⟩
  ·obtain⟨a,ha,rfl⟩:=a6.mp hd;exact hk a ha
  ·obtain⟨x,hx,rfl⟩:=a6.mp ha;obtain⟨y,hy,rfl⟩:=a6.mp hb;rw[ee x hx,ee y hy];exact hlt x hx y hy
  ·refine Ch.mpr ?_;rw[bx];have:xs.map (e∘f)=xs.map enc:=fg λa ha=>ee a ha;rw[this];exact nd
 refine Zjq ko (by rw[ao];exact hl) ⟨hp.map f,df.mpr ?_⟩;refine(List.Pairwise.and_mem.mp hs).imp fun{a b} ⟨ha,hb,z⟩=>?_;rw[hlt b (hp.mem_iff.mp hb) a (hp.mem_iff.mp ha)];exact congrArg aA (decide_eq_false z)
abbrev Tri:=Str×Str×List NK
abbrev Wr(t:Tri):D:=.tup [.str t.1,.str t.2.1,.lst (t.2.2.map Zs)]
structure HP where
 ns:List NK
 ms:List NK
 fs:List Tri
abbrev Yr(h:HP):D:=.tup [.lst (h.ns.map Zs),.lst (h.ms.map Zs),.lst (h.fs.map Wr)]
def isN(k:NK):Prop:=∃(x:Str) (l:List Str),k= .inl (x::l)
def isM(k:NK):Prop:=∃(n:Nat) (l:List Str),k= .inr ((n:Int),l)
structure HPok(h:HP):Prop where
 ne:h.ns≠[]
 nm:∀k∈h.ns,isN k
 mr:∀k∈h.ms,isM k
 fl:∀t∈h.fs,∀k∈t.2.2,isN k
theorem Sd(n:Nat):∀as bs:List NK,C1 (as++bs)->as.length=bs.length->Qq (Wq (n+3)) (as.map Zs) (bs.map Zs)=aA (decide (as=bs))
 | [],[],_,_=>rfl
 | [],_::_,_,h=>by simp at h
 |_::_,[],_,h=>by simp at h
 |a::as,b::bs,ho,hl=>by
  have h1:OneK a b:=ho.one (by simp) (by simp);have ih:=Sd n as bs (ho.sub λk hk=>by
   rcases cn.mp hk with z|z
   ·simp[z]
   ·simp[z]) (by simpa using hl)
  show(Wq (n+3) (Zs a) (Zs b)).bind (λb'=>(Qq (Wq (n+3)) (as.map Zs) (bs.map Zs)).bind λc'=>aA (b'&&c'))=_;rw[Zga n h1,ih];show aA _=_;refine congrArg aA ?_;by_cases h:a=b
  ·by_cases h2:as=bs
   ·simp[h,h2]
   ·rw[decide_eq_false h2,decide_eq_false λz=>h2 (List.cons.inj z).2];simp
  ·rw[decide_eq_false h,decide_eq_false λz=>h (List.cons.inj z).1];simp
theorem Zoa(n:Nat){as bs:List NK}(ho:C1 (as++bs)):Wq (n+4) (.lst (as.map Zs)) (.lst (bs.map Zs))=aA (decide (as=bs)):=by
 show(if(as.map Zs).length=(bs.map Zs).length then Qq (Wq (n+3)) (as.map Zs) (bs.map Zs)else aA aD)=_;rw[ao,ao];by_cases h:as.length=bs.length
 ·rw[if_pos h,Sd n as bs ho h]
 ·rw[if_neg h];exact congrArg aA (decide_eq_false λz=>h (by rw[z])).symm
theorem Zob(n:Nat)(k:NK)(h:isN k\/isM k):Wq (n+3) (Zs k) (Zs k)=aA aC:=by
 have:OneK k k:=by
  rcases h with⟨x,l,rfl⟩|⟨x,l,rfl⟩
  ·exact .nm _ _
  ·exact .mk _ _ _ _
 rw[Zga n this];simp
theorem Ro(n:Nat)(ks:List NK)(h:∀k∈ks,isN k\/isM k):Wq (n+4) (.lst (ks.map Zs)) (.lst (ks.map Zs))=aA aC:=Ta (n+3) _ λx hx=>by obtain⟨k,hk,rfl⟩:=a6.mp hx;exact Zob n k (h k hk)
theorem Zad(n:Nat)(t:Tri)(h:∀k∈t.2.2,isN k):Wq (n+5) (Wr t) (Wr t)=aA aC:=Zaa (n+4) _ λx hx=>by
 simp only[bo,gk,or_false]at hx;rcases hx with rfl|rfl|rfl
 ·exact Zab (n+3) _
 ·exact Zab (n+3) _
 ·exact Ro n _ λk hk=>.inl (h k hk)
theorem Zoc(n:Nat)(h:HP)(ok:HPok h):Wq (n+7) (Yr h) (Yr h)=aA aC:=Zaa (n+6) _ λx hx=>by
 simp only[bo,gk,or_false]at hx;rcases hx with rfl|rfl|rfl
 ·exact Ro (n+2) _ λk hk=>.inl (ok.nm k hk)
 ·exact Ro (n+2) _ λk hk=>.inr (ok.mr k hk)
 ·exact Ta (n+5) _ λx hx=>by obtain⟨t,ht,rfl⟩:=a6.mp hx;exact Zad n t (ok.fl t ht)
theorem Zgf(n:Nat)(hs:List HP)(ok:∀h∈hs,HPok h):Wq (n+8) (.lst (hs.map Yr)) (.lst (hs.map Yr))=aA aC:=Ta (n+7) _ λx hx=>by obtain⟨h,hh,rfl⟩:=a6.mp hx;exact Zoc n h (ok h hh)
def Bk(t:Tri):List Nat:=tE t.1.cps.toList++(tE t.2.1.cps.toList++[])
theorem Zgg{s t:Tri}(h:Bk s=Bk t):s.1=t.1/\s.2.1=t.2.1:=by obtain⟨h1,h2⟩:=Zf8 _ _ _ _ h;exact⟨Gi h1,Gi (Zf8 _ _ _ _ h2).1⟩
theorem Zod(s t:Tri)(hs:∀k∈s.2.2,isN k)(h:Bk s=Bk t->s=t):TX.Jo 16 (Wr s) (Wr t)=aA (decide (Bk s<Bk t)):=by
 have el:(Bk s<Bk t)↔(s.1.cps.toList<t.1.cps.toList\/(s.1.cps.toList=t.1.cps.toList/\s.2.1.cps.toList<t.2.1.cps.toList)):=by
  unfold Bk;rw[Az,Az];constructor
  ·rintro(z|⟨z,w|⟨_,w⟩⟩)
   ·exact .inl z
   ·exact .inr ⟨z,w⟩
   ·exact absurd w (List.lt_irrefl _)
  ·rintro(z|⟨z,w⟩)
   ·exact .inl z
   ·exact .inr ⟨z,.inl w⟩
 show(Wq 15 (.str s.1) (.str t.1)).bind (λc=>if c=aC then(Wq 15 (.str s.2.1) (.str t.2.1)).bind (λc=>if c=aC then(Wq 15 (.lst (s.2.2.map Zs)) (.lst (t.2.2.map Zs))).bind (λc=>if c=aC then aA aD else TX.Jo 15 (.lst (s.2.2.map Zs)) (.lst (t.2.2.map Zs)))else TX.Jo 15 (.str s.2.1) (.str t.2.1))else TX.Jo 15 (.str s.1) (.str t.1))=_;rw[L1,L1,Xl,Xl];by_cases h1:s.1=t.1
 ·rw[decide_eq_true h1];by_cases h2:s.2.1=t.2.1
  ·rw[decide_eq_true h2];have e:s=t:=h (by unfold Bk;rw[h1,h2]);subst e;rw[Ro 11 _ λk hk=>.inl (hs k hk)];show aA aD=_;exact congrArg aA (decide_eq_false (List.lt_irrefl _)).symm
  ·rw[decide_eq_false h2];show aA (decide (s.2.1.cps.toList<t.2.1.cps.toList))=_;refine congrArg aA (decide_eq_decide.mpr ?_);rw[el,h1];exact⟨λz=>.inr ⟨rfl,z⟩,λz=>z.elim (λz=>absurd z (List.lt_irrefl _)) λz=>z.2⟩
 ·rw[decide_eq_false h1];show aA (decide (s.1.cps.toList<t.1.cps.toList))=_;refine congrArg aA (decide_eq_decide.mpr ?_);rw[el];exact⟨.inl,λz=>z.elim id λz=>absurd (Gi z.1) h1⟩
theorem Zgh{α β:Type}{f:α->β}{xs:List α}(h:(xs.map f).Nodup){a b:α}(ha:a∈xs)(hb:b∈xs)(e:f a=f b):a=b:=by obtain⟨i,hi,rfl⟩:=dz ha;obtain⟨j,hj,rfl⟩:=dz hb;have:i=j:=(List.getElem?_inj (by rw[ao];exact hi) h).mp (by simp[hi,hj,e]);subst this;rfl
theorem Zjr{ts out:List Tri}(hf:∀t∈ts,∀k∈t.2.2,isN k)(nd:(ts.map Bk).Nodup)(hl:ts.length<64)(hp:out.Perm ts)(hs:out.Pairwise λa b=>¬Bk b<Bk a):TX.Ao (ts.map Wr) (ts.map Wr)=aA (.ol (out.map Wr)):=
 Zac (enc:=Bk) (kk:=.str) (λa _=>.str _ _) (λa ha b hb=>Zod a b (hf a ha) λe=>Zgh nd ha hb e) nd hl hp hs
def Ob(h:HP):List Nat:=Gj (h.ns.headD (.inl []))
theorem Zsm(a b:HP)(oa:HPok a)(ob:HPok b)(h:Ob a=Ob b->a=b):TX.Jo 16 (Yr a) (Yr b)=aA (decide (Ob a<Ob b)):=by
 show(Wq 15 (.lst (a.ns.map Zs)) (.lst (b.ns.map Zs))).bind (λc=>if c=aC then(Wq 15 (.lst (a.ms.map Zs)) (.lst (b.ms.map Zs))).bind (λc=>if c=aC then(Wq 15 (.lst (a.fs.map Wr)) (.lst (b.fs.map Wr))).bind (λc=>if c=aC then aA aD else TX.Jo 15 (.lst (a.fs.map Wr)) (.lst (b.fs.map Wr)))else TX.Jo 15 (.lst (a.ms.map Zs)) (.lst (b.ms.map Zs)))else TX.Jo 15 (.lst (a.ns.map Zs)) (.lst (b.ns.map Zs)))=_;have on:C1 (a.ns++b.ns):=.inl λk hk=>by
  rcases cn.mp hk with z|z
  ·exact oa.nm k z
  ·exact ob.nm k z
 rw[Zoa 11 on];by_cases hn:Ob a=Ob b
 ·have e:=h hn;subst e;rw[decide_eq_true rfl,Ro 11 _ λk hk=>.inr (oa.mr k hk)];have e3:Wq 15 (.lst (a.fs.map Wr)) (.lst (a.fs.map Wr))=aA aC:=Ta 14 _ λx hx=>by obtain⟨t,ht,rfl⟩:=a6.mp hx;exact Zad 9 t (oa.fl t ht)
  rw[e3];show aA aD=_;exact congrArg aA (decide_eq_false (List.lt_irrefl _)).symm
 ·obtain⟨x,as,ea⟩:=List.exists_cons_of_ne_nil oa.ne;obtain⟨y,bs,eb⟩:=List.exists_cons_of_ne_nil ob.ne;have hxy:x≠y:=λz=>hn (by unfold Ob;rw[ea,eb,z];rfl);rw[decide_eq_false λz=>hxy (by rw[ea,eb]at z;exact(List.cons.inj z).1)];show TX.Jo 15 (.lst (a.ns.map Zs)) (.lst (b.ns.map Zs))=_;unfold Ob;rw[ea,eb];have ok:OneK x y:=on.one (by rw[ea];simp) (by rw[eb];simp);show(Wq 14 (Zs x) (Zs y)).bind (λc=>if c=aC then _ else TX.Jo 14 (Zs x) (Zs y))=_;rw[Zga 11 ok,decide_eq_false hxy];show TX.Jo 14 (Zs x) (Zs y)=_;exact Zgb 10 ok
theorem Zoe{hs out:List HP}(ok:∀h∈hs,HPok h)(nd:(hs.map Ob).Nodup)(hl:hs.length<64)(hp:out.Perm hs)(hsr:out.Pairwise λa b=>¬Ob b<Ob a):TX.Ao (hs.map Yr) (hs.map Yr)=aA (.ol (out.map Yr)):=
 Zac (enc:=Ob) (kk:=.lst) (λa _=>.lst _ _) (λa ha b hb=>Zsm a b (ok a ha) (ok b hb) λe=>Zgh nd ha hb e) nd hl hp hsr
end My
noncomputable section
namespace Gen
open PySem PySem.Spec PyProof.Rows L2 DL
def Xo(i:Nat):Stmt:=PySem.Challenge.pw_citeward_k36_heaps_of_single_works.main.body.getD i (.Pass ⟨0,0,0,0⟩)
abbrev Zof:Nat:=1000
abbrev Ox:Stmt:=Xo 12
abbrev Oy:Stmt:=Xo 14
abbrev Oz:Stmt:=Xo 11
abbrev O0:Stmt:=Xo 13
abbrev Gk:Stmt:=Xo 15
abbrev U1:Stmt:=Xo 6
abbrev L4:Stmt:=Xo 7
abbrev U2:Stmt:=Xo 8
abbrev Mg:Stmt:=Xo 5
abbrev O1:Stmt:=Xo 3
abbrev B3:Stmt:=Xo 4
abbrev O4:Stmt:=Xo 2
abbrev Gm:Stmt:=Xo 1
abbrev Ue:Stmt:=Xo 10
abbrev O5:Stmt:=Xo 16
def Y9:FS:=
 Yc (Wd 9 (Zt Vx (Za 6) (Yl Zib (Zd (Zt eqX (Za 8) (Za 4)) Zp)))) (Wd 7 (Zt Cn (Za 7) (Zt Cp (Za 2) (Zt Cm (Zt Cn (Zt Cv (Za 0) (Zt Cn (Za 8) (Zh (.int 2)))) (Za 9)) (Zh (.int 22))))))
def Q0:FS:=
 Yc (Wd 7 (Zh (.str ""))) (Yc (Bj (Zdk (Zd (Za 3) Zp)) (Zg 8) Y9) (Tx 5 (Za 7)))
def B4:FS:=
 Yc (Wd 2 (Zh (.str "abcdefghjlmpqrstuvwxyz"))) (Yc (Wd 3 (Zt Cn (Zh (.int 1)) (Zt Cm (Za 0) (Zh (.int 8))))) (Yc (Wd 4 (Zt Cm (Zt Cv (Za 0) (Zh (.int 8))) (Za 3))) (Yc (Wd 5 (Jk (Zl))) (Yc (Bj (Zdk (Zd (Za 1) Zp)) (Zg 6) Q0) (Bi (Za 5))))))
def Yy:List D->Option SV:=Qp B4 10
def B5:FS:=
 Yc (Wd 2 (Jk (Zf (Jk (Zf (Zt Cp (Za 0) (Zt Cm (Zt Cv (Za 1) (Zh (.int 8))) (Zh (.int 3)))) (Zl))) (Zf (Jk (Zf (Zh (.str "kind")) (Zf (Zt Cp (Za 0) (Zt Cm (Zt Cv (Za 1) (Zh (.int 32))) (Zh (.int 3)))) (Zl)))) (Zf (Jk (Zf (Zt Cp (Za 0) (Zh (.int 0))) (Zf (Zt Cp (Za 0) (Zh (.int 2))) (Zf (Zt Cp (Za 0) (Zh (.int 0))) (Zl))))) (Zf (Jk (Zf (Zh (.str "note")) (Zl))) (Zl))))))) (Bi (slF slD (Jk (Zf (Zt Cp (Za 2) (Zt Cm (Zt Cv (Za 1) (Zh (.int 128))) (Zh (.int 4)))) (Zf (Zt Cp (Za 2) (Zt Cm (Zt Cv (Za 1) (Zh (.int 512))) (Zh (.int 4)))) (Zl)))) (Vi) (N1 (Zt Cm (Za 1) (Zh (.int 3))))))
def Q6:List D->Option SV:=Qp B5 3
def B6:FS:=
 Bi (Zt Cm (Zt Vx (Zt Cm (Za 0) (Zh (.int 2147483647))) (Za 1)) (Zh (.int 2147483647)))
def Yz:List D->Option SV:=Qp B6 2
def Wm:FS:=
 ifS (Y5 (Zt gtD (Zt Cm (Zt Cv (Za 6) (Zt Cn (Zh (.int 64)) (Za 8))) (Zh (.int 3))) (Zh (.int 0)))) (Ry 7 (Za 9) (Zt Cn (Zt Cn (Zt Cn (Zt Cp (Jk (R6 ["Of ","A. ","/ ","(*) ","n: "] (Zl))) (Za 8)) (Yl Pl (Zd (Zt Cm (Za 6) (Zh (.int 100))) Zp))) (Zh (.str "."))) (Yl Pl (Zd (Za 4) Zp)))) (Bv)
def Wn:FS:=
 Yc (Wd 6 (We 2 Yz (Zd (Zt Cn (Zt Cp (Za 2) (Za 4)) (Za 4)) (Zd (Zh (.int 48271)) (Zp))))) (Yc (Wd 7 (Pe)) (Yc (Bj (C8 (Zf (Zt Cn (Za 1) (Jk (R6 ["in","note"] (Zl)))) Zl)) (Wa 2 (Zu (Zg 8) (Zu (Zg 9) (Wb)))) Wm) (Yc (Ry 7 (Zh (.str "in")) (Zt Cn (Zm3 "dict" Le (Za 7) (R6 ["in","It"] (Zl))) (Zh (.str "'s")))) (Yc (ifS (Y5 (Zt eqX (Zt Cm (Za 6) (Zh (.int 4))) (Zh (.int 0)))) (Zik 7 (Zh (.str "in"))) (Bv)) (Ry 3 (Za 5) (tupF (Zf (Zt Cp (Jk (R6 ["book","part","a"] (Zl))) (Zt Cm (Zt Cv (Za 6) (Zh (.int 5))) (Zh (.int 3)))) (Zf (Za 7) (Zl)))))))))
def B7:FS:=
 Yc (Wd 3 (Pe)) (Yc (Bj (C8 (Zf (Za 0) Zl)) (Wa 2 (Zu (Zg 4) (Zu (Zg 5) (Wb)))) Wn) (Bi (Za 3)))
def W6:List D->Option SV:=Qp B7 10
def Mv:FE:=
 Zt inZ (Za 0) (Za 1)
def Mw:FE:=
 Zt Cp (Za 1) (Za 0)
def Q7:FS:=
 ifS (Da (Y5 (Zt J3 (Zh (.bl aD)) (Be [.own,.cap 7,.acc] 2 (Co (Za 10)) (Zg 0) (Q5) Mv)))) (Tx 8 (tupF (Zf (Za 9) (Zf (Yl Tz (Zd (Be [.own,.cap 7,.acc] 2 (Co (Za 10)) (Zg 0) (Q5) Mw) Zp)) (Zl))))) (Bv)
def W7:FS:=
 ifS (Y5 (Zt neX (Za 12) (Zh (.str "note")))) (Tx 11 (tupF (Zf (Za 12) (Zf (Zt Cp (Za 7) (Za 12)) (Zf (Jk (Zf (tupF (Zf (Za 0) (Zf (Za 4) (Zl)))) (Zl))) (Zl)))))) (Bv)
def Ur:FS:=
 Yc (K5 (Wa 2 (Zu (Zg 5) (Zu (Zg 6) (Wb)))) (Zt Cp (Za 1) (Za 4))) (Yc (Wd 7 (Yl Pg (Zd (Za 6) Zp))) (Yc (Ry 7 (Zh (.str "kind")) (Za 5)) (Yc (Wd 8 (Jk (Zl))) (Yc (Bj (C8 (Zf (Za 2) Zl)) (Wa 2 (Zu (Zg 9) (Zu (Zg 10) (Wb)))) Q7) (Yc (Wd 11 (Jk (Zl))) (Yc (Bj (Co (Yl B2 (Zd (Za 7) Zp))) (Zg 12) W7) (Tx 3 (tupF (Zf (Jk (Zf (tupF (Zf (Za 0) (Zf (Za 4) (Zl)))) (Zl))) (Zf (Za 8) (Zf (Za 11) (Zl))))))))))))
def Mh:FS:=
 Yc (Wd 3 (Jk (Zl))) (Yc (Bj (Co (Yl B2 (Zd (Za 1) Zp))) (Zg 4) Ur) (Bi (Za 3)))
def Oc:List D->Option SV:=Qp Mh 13
def Uf:FS:=
 Mu 1 (Za 4) 2 aD
def Qh:FS:=
 Bj (Co (Zt Cn (Zt Cp (Za 3) (Zh (.int 0))) (Zt Cp (Za 3) (Zh (.int 1))))) (Zg 4) Uf
def O6:FS:=
 Yc (Wd 1 (Fn)) (Yc (Bj (C8 (Zf (Za 0) Zl)) (Wa 2 (Zu (Zg 2) (Zu (Zg 3) (Wb)))) Qh) (Zm7 (Za 1)))
def Qi:List D->Option SV:=Qp O6 5
def Se:FS:=
 ifS (Y5 (Zt J3 (Za 7) (Za 3))) (Yc (Ry 3 (Za 7) (Zh (.bl aC))) (Tx 4 (Za 7))) (Bv)
def Rp:FS:=
 Bj (Co (Zt Zfv (Za 1) (Za 6))) (Zg 7) Se
def Ug:FT:=
 Y5 (Zt gtD (Yl Vj (Zd (Za 4) Zp)) (Zh (.int 0)))
def B8:FS:=
 Yc (L0 5 0 4) (Bj (Co (Zt Cn (Zt Cp (Za 5) (Zh (.int 0))) (Zt Cp (Za 5) (Zh (.int 1))))) (Zg 6) Rp)
def Xp:FS:=
 Yc (Wd 3 (D4 2 (Zh (.bl aC)))) (Yc (Wd 4 (Jk (Zf (Za 2) (Zl)))) (Yc (Jz Ug B8 Zof) (Bi (Yl Ps (Zd (Za 3) Zp)))))
def Eb:List D->Option SV:=Qp Xp 8
def Uh:FS:=
 Mu 3 (tupF (Zf (Za 5) (Zf (Za 6) (Zl)))) 7 aC
def Qj:FS:=
 Yc (P5 1 (Zt Cp (Za 4) (Zh (.int 0)))) (Yc (P5 2 (Zt Cp (Za 4) (Zh (.int 1)))) (Bj (Co (Zt Cp (Za 4) (Zh (.int 2)))) (Wa 3 (Zu (Zg 5) (Zu (Zg 6) (Zu (Zg 7) (Wb))))) Uh))
def Qk:FE:=
 tupF (Zf (Zt Cp (Za 0) (Zh (.int 0))) (Zf (Zt Cp (Za 0) (Zh (.int 1))) (Zf (Yl Cz (Zd (Zt Zfv (Za 1) (Za 0)) Zp)) (Zl))))
def O7:FS:=
 Yc (Wd 1 (Jk (Zl))) (Yc (Wd 2 (Jk (Zl))) (Yc (Wd 3 (Fn)) (Yc (Bj (Co (Za 0)) (Zg 4) Qj) (Yc (Wd 8 (Be [.own,.cap 3,.acc] 2 (Zfu (Za 3)) (Zg 0) (Q5) Qk)) (Bi (tupF (Zf (Yl Cz (Zd (Za 1) Zp)) (Zf (Yl Cz (Zd (Za 2) Zp)) (Zf (Yl Aq (Zd (Za 8) Zp)) (Zl))))))))))
def Yu:List D->Option SV:=Qp O7 9
def Ec:FS:=
 Ry 3 (Za 6) (Zh (.bl aC))
def Ed:FE:=
 Zt Cp (Za 1) (Za 0)
def Qu:FS:=
 ifS (Y5 (Zt J3 (Za 4) (Za 3))) (Yc (Wd 5 (We 3 Eb (Zd (Za 0) (Zd (Za 1) (Zd (Za 4) (Zp)))))) (Yc (Bj (Co (Za 5)) (Zg 6) Ec) (Tx 2 (We 1 Yu (Zd (Be [.own,.cap 0,.acc] 2 (Co (Za 5)) (Zg 0) (Q5) Ed) (Zp)))))) (Bv)
def Ee:FS:=
 Yc (Wd 1 (We 1 Qi (Zd (Za 0) (Zp)))) (Yc (Wd 2 (Jk (Zl))) (Yc (Wd 3 (Pe)) (Yc (Bj (Zdk (Zd (Yl Vj (Zd (Za 0) Zp)) Zp)) (Zg 4) Qu) (Bi (Yl Aq (Zd (Za 2) Zp))))))
def B9:List D->Option SV:=Qp Ee 7
def Ca:FS:=
 Yc (Wd 1 (Yl Pg (Zd (Zt Cp (Za 0) (Zh (.int 1))) Zp))) (Yc (Ry 1 (Zh (.str "kind")) (Zt Cp (Za 0) (Zh (.int 0)))) (Bi (Za 1)))
def W8:List D->Option SV:=Qp Ca 2
def Jm:FE:=
 Zt inZ (Za 0) (Za 1)
def Jn:FE:=
 Zt Cp (Za 1) (Za 0)
def Ql:FS:=
 ifS (Y5 (Yl Zif (Zd (Be [.own,.cap 0,.acc] 2 (Co (Za 4)) (Zg 0) (Q5) Jm) Zp))) (Tx 2 (tupF (Zf (Za 3) (Zf (Yl Tz (Zd (Be [.own,.cap 0,.acc] 2 (Co (Za 4)) (Zg 0) (Q5) Jn) Zp)) (Zl))))) (Bv)
def Gn:FS:=
 Yc (Wd 2 (Jk (Zl))) (Yc (Bj (C8 (Zf (Za 1) Zl)) (Wa 2 (Zu (Zg 3) (Zu (Zg 4) (Wb)))) Ql) (Bi (Za 2)))
def Ui:List D->Option SV:=Qp Gn 5
def W1:FT:=
 Y5 (Zt neX (Za 0) (Zh (.str "note")))
def Q1:FE:=
 tupF (Zf (Za 0) (Zf (Zt Cp (Za 1) (Za 0)) (Zf (Jk (Zf (Za 2) (Zl))) (Zl))))
def Cb:FS:=
 Yc (Wd 3 (We 1 W8 (Zd (Za 1) (Zp)))) (Yc (Wd 4 (Be [.own,.cap 3,.cap 0,.acc] 3 (Zbh (Za 3)) (Zg 0) (W1) Q1)) (Bi (tupF (Zf (Jk (Zf (Za 0) (Zl))) (Zf (We 2 Ui (Zd (Za 3) (Zd (Za 2) (Zp)))) (Zf (Za 4) (Zl)))))))
def W9:List D->Option SV:=Qp Cb 5
def Ut:FE:=
 We 3 W9 (Zd (tupF (Zf (Za 2) (Zf (Za 0) (Zl)))) (Zd (Zt Cp (Za 3) (Za 0)) (Zd (Za 1) (Zp))))
def Mi:FS:=
 Bi (We 1 B9 (Zd (Be [.own,.cap 2,.cap 0,.cap 1,.acc] 4 (Zbh (Za 1)) (Zg 0) (Q5) Ut) (Zp)))
def Qv:List D->Option SV:=Qp Mi 3
def Q2:FS:=
 Yc (ifS (Y5 (Zt Jo (Za 1) (Yl Vj (Zd (Za 0) Zp)))) (Bi (Zt Cp (Za 0) (Za 1))) (Bv)) (Bi (Zh (.int 0)))
def Z6:List D->Option SV:=Qp Q2 2
def Zae:FE:=
 unF (Za8 "list") (Za 0)
def L5:FT:=
 orF (Zh0 (Y5 (unF (Za8 "list") (Za 8)))) (Y5 (Zt neY (Za 8) (Za 7)))
def Td:FT:=
 orF (Zh0 (Y5 (unF (Za8 "tuple") (Za 9)))) (Da (Y5 (Zt inZ (Zh (.bl aD)) (Be [.own,.acc] 1 (Co (Za 9)) (Zg 0) (Q5) Zae))))
def Zgi:FS:=
 Yc (Wd 1 (slF slD (Za 0) (N1 (Zh (.int 5))) (N1 (Zh (.int 15))))) (Yc (Wd 2 (We 2 Yy (Zd (We 2 Yz (Zd (We 2 Z6 (Zd (Za 0) (Zd (Zh (.int 0)) (Zp)))) (Zd (Zh (.int 16807)) (Zp)))) (Zd (Yl Vj (Zd (Za 1) Zp)) (Zp))))) (Yc (Wd 3 (We 2 Yy (Zd (We 2 Yz (Zd (We 2 Z6 (Zd (Za 0) (Zd (Zh (.int 1)) (Zp)))) (Zd (Zh (.int 16807)) (Zp)))) (Zd (Zh (.int 3)) (Zp))))) (Yc (Wd 4 (Zt Cp (We 2 Yy (Zd (We 2 Yz (Zd (We 2 Z6 (Zd (Za 0) (Zd (Zh (.int 2)) (Zp)))) (Zd (Zh (.int 39373)) (Zp)))) (Zd (Zh (.int 1)) (Zp)))) (Zh (.int 0)))) (Yc (Wd 5 (We 2 Q6 (Zd (Za 3) (Zd (We 2 Yz (Zd (We 2 Z6 (Zd (Za 0) (Zd (Zh (.int 3)) (Zp)))) (Zd (Zh (.int 69621)) (Zp)))) (Zp))))) (Yc (Wd 6 (We 3 W6 (Zd (Za 2) (Zd (Za 3) (Zd (Za 1) (Zp)))))) (Yc (Wd 7 (We 3 Oc (Zd (Za 4) (Zd (Za 6) (Zd (Za 5) (Zp)))))) (Yc (Gh 8 9 3 Qv (Zf (Za 4) (Zf (Za 6) (Zf (Za 5) (Zl)))) L5 Td) (Yc (ifS (Y5 (Zt neY (We 3 Qv (Zd (Za 4) (Zd (Za 6) (Zd (Za 5) (Zp))))) (Za 7))) (Bi (Zh (.bl aD))) (Bv)) (Bi (Zt eqY (Za 6) (We 3 W6 (Zd (Za 2) (Zd (Za 3) (Zd (Za 1) (Zp)))))))))))))))
def Rq:List D->Option SV:=Qp Zgi 10
end Gen
namespace Gen
open PySem PySem.Spec PyProof.Rows L2 DL
structure Txt(K:af)(mg:Str->Option aj)(fx0 fx1 fx2 fx3 fx4 fx5 fx6 fx7 fx8 fx9 fx10 fx11 fx12 fx13 fx14:ak):Prop where
 z_all:mg "all"=aB
 z_dict:mg "dict"=aB
 z_enumerate:mg "enumerate"=aB
 z_int:mg "int"=aB
 z_isinstance:mg "isinstance"=aB
 z_len:mg "len"=aB
 z_list:mg "list"=aB
 z_range:mg "range"=aB
 z_set:mg "set"=aB
 z_sorted:mg "sorted"=aB
 z_str:mg "str"=aB
 z_tuple:mg "tuple"=aB
 m_0:mg "_law_names"=aA (.ref fx0)
 k_0:bq K (.ref fx0)=aC
 m_1:mg "_law_rules"=aA (.ref fx1)
 k_1:bq K (.ref fx1)=aC
 m_2:mg "_law_mixed"=aA (.ref fx2)
 k_2:bq K (.ref fx2)=aC
 m_3:mg "_law_shelf"=aA (.ref fx3)
 k_3:bq K (.ref fx3)=aC
 m_4:mg "_law_due"=aA (.ref fx4)
 k_4:bq K (.ref fx4)=aC
 m_5:mg "holders_of"=aA (.ref fx5)
 k_5:bq K (.ref fx5)=aC
 m_6:mg "tied"=aA (.ref fx6)
 k_6:bq K (.ref fx6)=aC
 m_7:mg "join_heaps"=aA (.ref fx7)
 k_7:bq K (.ref fx7)=aC
 m_8:mg "joined"=aA (.ref fx8)
 k_8:bq K (.ref fx8)=aC
 m_9:mg "own_texts"=aA (.ref fx9)
 k_9:bq K (.ref fx9)=aC
 m_10:mg "marks_of"=aA (.ref fx10)
 k_10:bq K (.ref fx10)=aC
 m_11:mg "lone_heap"=aA (.ref fx11)
 k_11:bq K (.ref fx11)=aC
 m_12:mg "pool_of"=aA (.ref fx12)
 k_12:bq K (.ref fx12)=aC
 m_13:mg "_law_cell_at"=aA (.ref fx13)
 k_13:bq K (.ref fx13)=aC
 m_14:mg "law"=aA (.ref fx14)
 k_14:bq K (.ref fx14)=aC
section
variable{P:bu}{w:ck}{K:af}{mg:Str->Option aj}{base:dq}{fx0 fx1 fx2 fx3 fx4 fx5 fx6 fx7 fx8 fx9 fx10 fx11 fx12 fx13 fx14:ak}
theorem Yj:FnScope ["_law_number","_law_many","_law_letters","_law_size","_law_at","_law_names_here","_law_turn","_law_name","_law_k","_law_step"] ["_law_number","_law_many"] (Zx Ox):=⟨rfl,rfl,rfl,by decide+kernel,rfl,by decide+kernel,by decide+kernel⟩
theorem Rr:FnScope ["_law_fields","_law_number","_law_some"] ["_law_fields","_law_number"] (Zx Oy):=⟨rfl,rfl,rfl,by decide+kernel,rfl,by decide+kernel,by decide+kernel⟩
theorem L6:FnScope ["_law_cell","_law_by"] ["_law_cell","_law_by"] (Zx Oz):=⟨rfl,rfl,rfl,by decide+kernel,rfl,by decide+kernel,by decide+kernel⟩
theorem Y8:FnScope ["_law_keys","_law_fields","_law_cells","_law_shelf_here","_law_k","_law_key","_law_number","_law_own","_law_j","_law_field"] ["_law_keys","_law_fields","_law_cells"] (Zx O0):=⟨rfl,rfl,rfl,by decide+kernel,rfl,by decide+kernel,by decide+kernel⟩
theorem Y4:FnScope ["_law_book","_law_shelf_here","_law_rules_here","_law_due_here","_law_key","_law_kind","_law_own","_law_all_own","_law_marks","_law_n","_law_rule","_law_told","_law_field"] ["_law_book","_law_shelf_here","_law_rules_here"] (Zx Gk):=⟨rfl,rfl,rfl,by decide+kernel,rfl,by decide+kernel,by decide+kernel⟩
theorem W2:FnScope ["heaps","holders","place","heap","tie"] ["heaps"] (Zx U1):=⟨rfl,rfl,rfl,by decide+kernel,rfl,by decide+kernel,by decide+kernel⟩
theorem Cj:FnScope ["heaps","holders","place","found","left","heap","tie","other"] ["heaps","holders","place"] (Zx L4):=⟨rfl,rfl,rfl,by decide+kernel,rfl,by decide+kernel,by decide+kernel⟩
theorem Yk:FnScope ["heaps","names","marks","tellers","heap","field","value","told_by","fields"] ["heaps"] (Zx U2):=⟨rfl,rfl,rfl,by decide+kernel,rfl,by decide+kernel,by decide+kernel⟩
theorem Qw:FnScope ["heaps","holders","pool","seen","place","group","other"] ["heaps"] (Zx Mg):=⟨rfl,rfl,rfl,by decide+kernel,rfl,by decide+kernel,by decide+kernel⟩
theorem Rs:FnScope ["work","texts"] ["work"] (Zx O1):=⟨rfl,rfl,rfl,by decide+kernel,rfl,by decide+kernel,by decide+kernel⟩
theorem Uu:FnScope ["texts","rules","marks","number","rule"] ["texts","rules"] (Zx B3):=⟨rfl,rfl,rfl,by decide+kernel,rfl,by decide+kernel,by decide+kernel⟩
theorem O8:FnScope ["name","work","rules","texts","fields"] ["name","work","rules"] (Zx O4):=⟨rfl,rfl,rfl,by decide+kernel,rfl,by decide+kernel,by decide+kernel⟩
theorem Xq:FnScope ["book","shelf","rules"] ["book","shelf","rules"] (Zx Gm):=⟨rfl,rfl,rfl,by decide+kernel,rfl,by decide+kernel,by decide+kernel⟩
theorem Ef:FnScope ["_law_script","_law_k"] ["_law_script","_law_k"] (Zx Ue):=⟨rfl,rfl,rfl,by decide+kernel,rfl,by decide+kernel,by decide+kernel⟩
theorem U3:FnScope ["_law_script","_law_cells","_law_keys","_law_fields","_law_book","_law_rules_here","_law_shelf_here","_law_due_here","_law_found","_law_heap"] ["_law_script"] (Zx O5):=⟨rfl,rfl,rfl,by decide+kernel,rfl,by decide+kernel,by decide+kernel⟩
theorem Xr{x qual:Str}{st:Stmt}{f:ak}{fd:cx}{N ps:List Str}{k n:Nat}(F:Fun K x qual st f fd)(S:FnScope N ps (Zx st))(hn:n=ps.length)(f0:FS)(hb:∀(cdv:aj) (A:cj) (outer:List Env) (s:am) (H F0:Hp) (E:XK),Room k (A.deeper (envOfC qual (Zx st) s.heap.objs.size f cdv))->(A.deeper (envOfC qual (Zx st) s.heap.objs.size f cdv)).units+1<dw->(A.deeper (envOfC qual (Zx st) s.heap.objs.size f cdv)).units+64<dw->Gs (S9 Oe P w K mg base N qual (Zx st) f cdv A outer s H E).nox (Jj st) (Z1 (ent H F0:Ent K) f0)):FnOk P w K mg base Oe (k+1) f fd ps (Y6 K n (Qp f0 N.length)):=
 F.ok S (λ_ _ _ _ h=>(Zdl h).trans hn) λcdv A outer s H vs Q E hr h=>by obtain⟨F0,h⟩:=Zdz (N:=N) (f:=f0) h;exact⟨_,hb cdv A outer s H F0 E hr (Zps hr) hr.units,h⟩
variable(T:Txt K mg fx0 fx1 fx2 fx3 fx4 fx5 fx6 fx7 fx8 fx9 fx10 fx11 fx12 fx13 fx14)
include T
theorem L7{fd:cx}(F:Fun K "_law_names" "_law_names" Ox fx0 fd):
  FnOk P w K mg base Oe 1 fx0 fd ["_law_number","_law_many"] (Y6 K 2 Yy):=by
 refine Xr F Yj rfl B4 λ_ _ _ _ _ _ _ hr hu hv=>?_;exact(Zi (Yn 2 Yj.nd Bf) (Zi (Yn 3 Yj.nd (U9 Z2 (Up (Zb 0) Z2))) (Zi (Yn 4 Yj.nd (Up (Bx (Zb 0) Z2) (Zb 3))) (Zi (Yn 5 Yj.nd (Wx Ye)) (Zi (Jf dh rfl (Zdx T.z_range (Zb 1)) (Z8 6 Yj.nd) (Zi (Yn 7 Yj.nd Bf) (Zi (Jf dh rfl (Zdx T.z_range (Zb 3)) (Z8 8 Yj.nd) (Zi (Yn 9 Yj.nd (Zem (Zb 6) (Zmv T.z_int (Zqs hv (Zb 8) (Zb 4))))) (Zz (Yn 7 Yj.nd (U9 (Zb 7) (Y3 hu (Zb 2) (Up (U9 (Bx (Zb 0) (U9 (Zb 8) Z2)) (Zb 9)) Z2))))))) (Zz (T4 5 (Zb 7)))))) (Zz (Qo (Zb 5))))))))
theorem L8{fd:cx}(F:Fun K "_law_rules" "_law_rules" Oy fx1 fd):
  FnOk P w K mg base Oe 1 fx1 fd ["_law_fields","_law_number"] (Y6 K 2 Q6):=by
 refine Xr F Rr rfl B5 λ_ _ _ _ _ _ _ hr hu hv=>?_;exact(Zi (Yn 2 Rr.nd (Wx (Zr (Wx (Zr (Y3 hu (Zb 0) (Up (Bx (Zb 1) Z2) Z2)) Ye)) (Zr (Wx (Zr Bf (Zr (Y3 hu (Zb 0) (Up (Bx (Zb 1) Z2) Z2)) Ye))) (Zr (Wx (Zr (Y3 hu (Zb 0) Z2) (Zr (Y3 hu (Zb 0) Z2) (Zr (Y3 hu (Zb 0) Z2) Ye)))) (Zr (Wx (Zr Bf Ye)) Ye)))))) (Zz (Qo (Zqq (Wx (Zr (Y3 hu (Zb 2) (Up (Bx (Zb 1) Z2) Z2)) (Zr (Y3 hu (Zb 2) (Up (Bx (Zb 1) Z2) Z2)) Ye))) Zmu (Vk (Up (Zb 1) Z2))))))
theorem L9{fd:cx}(F:Fun K "_law_mixed" "_law_mixed" Oz fx2 fd):
  FnOk P w K mg base Oe 1 fx2 fd ["_law_cell","_law_by"] (Y6 K 2 Yz):=by
 refine Xr F L6 rfl B6 λ_ _ _ _ _ _ _ hr hu hv=>?_;exact(Zz (Qo (Up (Zem (Up (Zb 0) Z2) (Zb 1)) Z2)))
theorem Na{fd:cx}(F:Fun K "_law_shelf" "_law_shelf" O0 fx3 fd){dx2:cx}(Vx2:FnOk P w K mg base Oe 1 fx2 dx2 ["_law_cell","_law_by"] (Y6 K 2 Yz))(Wx2:Ww K dx2 ["_law_cell","_law_by"] []):
  FnOk P w K mg base Oe 2 fx3 fd ["_law_keys","_law_fields","_law_cells"] (Y6 K 3 W6):=by
 refine Xr F Y8 rfl B7 λ_ _ _ _ _ _ _ hr hu hv=>?_;exact(Zi (Yn 3 Y8.nd Lf) (Zi (Jf dh rfl (G3 T.z_enumerate (Zr (Zb 0) Ye)) (T3 rfl (Wg (Z8 4 Y8.nd) (Wg (Z8 5 Y8.nd) C6))) (Zi (Yn 6 Y8.nd (Ys Vx2 (hr.mono (by decide)) T.m_2 T.k_2 Wx2 (Zq (U9 (Y3 hu (Zb 2) (Zb 4)) (Zb 4)) (Zq Z2 Ym)))) (Zi (Yn 7 Y8.nd Lf) (Zi (Jf dh rfl (G3 T.z_enumerate (Zr (U9 (Zb 1) (Wx (M8 [("in",_,_),("note",_,_)] Ye))) Ye)) (T3 rfl (Wg (Z8 8 Y8.nd) (Wg (Z8 9 Y8.nd) C6))) (Zz (K8 (Zqo (Up (Bx (Zb 6) (U9 Z2 (Zb 8))) Z2) Z2) (Zz (Aa 7 hu (Zb 9) (U9 (U9 (U9 (Y3 hu (Wx (M8 [("Of ",_,_),("A. ",_,_),("/ ",_,_),("(*) ",_,_),("n: ",_,_)] Ye)) (Zb 8)) (Zen T.z_str (Up (Zb 6) Z2))) Bf) (Zen T.z_str (Zb 4))))) Om))) (Zi (Aa 7 hu Bf (U9 (Zm4 hu (Zb 7) (M8 [("in",_,_),("It",_,_)] Ye)) Bf)) (Zi (K8 (Zqt hv (Up (Zb 6) Z2) Z2) (Zz (Zq5 7 Bf)) Om) (Zz (Aa 3 hu (Zb 5) (Oa (Zr (Y3 hu (Wx (M8 [("book",_,_),("part",_,_),("a",_,_)] Ye)) (Up (Bx (Zb 6) Z2) Z2)) (Zr (Zb 7) Ye))))))))))) (Zz (Qo (Zb 3)))))
theorem Xs{fd:cx}(F:Fun K "_law_due" "_law_due" Gk fx4 fd):
  FnOk P w K mg base Oe 1 fx4 fd ["_law_book","_law_shelf_here","_law_rules_here"] (Y6 K 3 Oc):=by
 refine Xr F Y4 rfl Mh λ_ _ _ _ _ _ _ hr hu hv=>?_;exact(Zi (Yn 3 Y4.nd (Wx Ye)) (Zi (Jf dh rfl (Uq (D6 rfl T.z_sorted (Zb 1))) (Z8 4 Y4.nd) (Zi (Zdy (Y3 hu (Zb 1) (Zb 4)) (T3 rfl (Wg (Z8 5 Y4.nd) (Wg (Z8 6 Y4.nd) C6)))) (Zi (Yn 7 Y4.nd (Ph T.z_dict (Zb 6))) (Zi (Aa 7 hu Bf (Zb 5)) (Zi (Yn 8 Y4.nd (Wx Ye)) (Zi (Jf dh rfl (G3 T.z_enumerate (Zr (Zb 2) Ye)) (T3 rfl (Wg (Z8 9 Y4.nd) (Wg (Z8 10 Y4.nd) C6))) (Zz (K8 (Zeo (Ag hu N3 (C7 rfl (Wu (N':=["_law_field","_law_all_own",".acc"]) (src:=[.own,.cap 7,.acc]) (by rfl) (by rfl) (by rfl) (by rfl) (by rfl) (by rfl)) (Gz 2 (by rfl) (by rfl)) (by decide) (Uq (Zb 10)) (λ_ _ _ _=>xg λ_=>(Z8 0 (show(["_law_field","_law_all_own",".acc"]:List Str).Nodup by decide+kernel))) (λ_ _ _ _=>xt0) (λ_ _ _ _=>xe λ_=>(Zkz hu (Zb 0) (Zb 1)))))) (Zz (T4 8 (Oa (Zr (Zb 9) (Zr (Hm T.z_tuple (C7 rfl (Wu (N':=["_law_field","_law_all_own",".acc"]) (src:=[.own,.cap 7,.acc]) (by rfl) (by rfl) (by rfl) (by rfl) (by rfl) (by rfl)) (Gz 2 (by rfl) (by rfl)) (by decide) (Uq (Zb 10)) (λ_ _ _ _=>xg λ_=>(Z8 0 (show(["_law_field","_law_all_own",".acc"]:List Str).Nodup by decide+kernel))) (λ_ _ _ _=>xt0) (λ_ _ _ _=>xe λ_=>(Y3 hu (Zb 1) (Zb 0))))) Ye))))) Om))) (Zi (Yn 11 Y4.nd (Wx Ye)) (Zi (Jf dh rfl (Uq (D6 rfl T.z_sorted (Zb 7))) (Z8 12 Y4.nd) (Zz (K8 (Zku hv (Zb 12) Bf) (Zz (T4 11 (Oa (Zr (Zb 12) (Zr (Y3 hu (Zb 7) (Zb 12)) (Zr (Wx (Zr (Oa (Zr (Zb 0) (Zr (Zb 4) Ye))) Ye)) Ye)))))) Om))) (Zz (T4 3 (Oa (Zr (Wx (Zr (Oa (Zr (Zb 0) (Zr (Zb 4) Ye))) Ye)) (Zr (Zb 8) (Zr (Zb 11) Ye)))))))))))))) (Zz (Qo (Zb 3)))))
theorem E4{fd:cx}(F:Fun K "holders_of" "holders_of" U1 fx5 fd):
  FnOk P w K mg base Oe 1 fx5 fd ["heaps"] (Y6 K 1 Qi):=by
 refine Xr F W2 rfl O6 λ_ _ _ _ _ _ _ hr hu hv=>?_;exact(Zi (Yn 1 W2.nd D3) (Zi (Jf dh rfl (G3 T.z_enumerate (Zr (Zb 0) Ye)) (T3 rfl (Wg (Z8 2 W2.nd) (Wg (Z8 3 W2.nd) C6))) (Zz (Jf dh rfl (Uq (U9 (Y3 hu (Zb 3) Z2) (Y3 hu (Zb 3) Z2))) (Z8 4 W2.nd) (Zz (Zja 1 2 hv (Zb 4)))))) (Zz (Zm9 (Zb 1)))))
theorem Zjs{fd:cx}(F:Fun K "tied" "tied" L4 fx6 fd):
  FnOk P w K mg base Oe 1 fx6 fd ["heaps","holders","place"] (Y6 K 3 Eb):=by
 refine Xr F Cj rfl Xp λ_ _ _ _ _ _ _ hr hu hv=>?_;exact(Zi (Yn 3 Cj.nd (Zji 2 N3)) (Zi (Yn 4 Cj.nd (Wx (Zr (Zb 2) Ye))) (Zi (Zic Zof dh (Zqo (Hl T.z_len (Zb 4)) Z2) (Zi (Zjh 5 0 4 Cj.nd (Pp 0) (Pp 4)) (Zz (Jf dh rfl (Uq (U9 (Y3 hu (Zb 5) Z2) (Y3 hu (Zb 5) Z2))) (Z8 6 Cj.nd) (Zz (Jf dh rfl (Uq (Zlj hv (Zb 1) (Zb 6))) (Z8 7 Cj.nd) (Zz (K8 (Ag hu (Zb 7) (Zb 3)) (Zi (Aa 3 hu (Zb 7) N3) (Zz (T4 4 (Zb 7)))) Om)))))))) (Zz (Qo (Znl rfl T.z_list (Zb 3)))))))
theorem E5{fd:cx}(F:Fun K "join_heaps" "join_heaps" U2 fx7 fd):
  FnOk P w K mg base Oe 1 fx7 fd ["heaps"] (Y6 K 1 Yu):=by
 refine Xr F Yk rfl O7 λ_ _ _ _ _ _ _ hr hu hv=>?_;exact(Zi (Yn 1 Yk.nd (Wx Ye)) (Zi (Yn 2 Yk.nd (Wx Ye)) (Zi (Yn 3 Yk.nd D3) (Zi (Jf dh rfl (Uq (Zb 0)) (Z8 4 Yk.nd) (Zi (Zfw 1 (Y3 hu (Zb 4) Z2)) (Zi (Zfw 2 (Y3 hu (Zb 4) Z2)) (Zz (Jf dh rfl (Uq (Y3 hu (Zb 4) Z2)) (T3 rfl (Wg (Z8 5 Yk.nd) (Wg (Z8 6 Yk.nd) (Wg (Z8 7 Yk.nd) C6)))) (Zz (Zjb 3 7 hv (Oa (Zr (Zb 5) (Zr (Zb 6) Ye)))))))))) (Zi (Iu 8 rfl (Wu (N':=["pair","tellers",".acc"]) (src:=[.own,.cap 3,.acc]) (by rfl) (by rfl) (by rfl) (by rfl) (by rfl) (by rfl)) (Gz 2 (by rfl) (by rfl)) (by decide) (Zn1 (Zb 3)) (λ_ _ _ _=>xg λ_=>(Z8 0 (show(["pair","tellers",".acc"]:List Str).Nodup by decide+kernel))) (λ_ _ _ _=>xt0) (λ_ _ _ _=>xe λ_=>(Oa (Zr (Y3 hu (Zb 0) Z2) (Zr (Y3 hu (Zb 0) Z2) (Zr (Xg rfl hv T.z_sorted T.z_set (Zlj hv (Zb 1) (Zb 0))) Ye))))) Yk.nd) (Zz (Qo (Oa (Zr (Xg rfl hv T.z_sorted T.z_set (Zb 1)) (Zr (Xg rfl hv T.z_sorted T.z_set (Zb 2)) (Zr (Ze9 hv T.z_sorted (Zb 8)) Ye)))))))))))
theorem Zbw{fd:cx}(F:Fun K "joined" "joined" Mg fx8 fd){dx5:cx}(Vx5:FnOk P w K mg base Oe 1 fx5 dx5 ["heaps"] (Y6 K 1 Qi))(Wx5:Ww K dx5 ["heaps"] []){dx6:cx}(Vx6:FnOk P w K mg base Oe 1 fx6 dx6 ["heaps","holders","place"] (Y6 K 3 Eb))(Wx6:Ww K dx6 ["heaps","holders","place"] []){dx7:cx}(Vx7:FnOk P w K mg base Oe 1 fx7 dx7 ["heaps"] (Y6 K 1 Yu))(Wx7:Ww K dx7 ["heaps"] []):
  FnOk P w K mg base Oe 2 fx8 fd ["heaps"] (Y6 K 1 B9):=by
 refine Xr F Qw rfl Ee λ_ _ _ _ _ _ _ hr hu hv=>?_;exact(Zi (Yn 1 Qw.nd (Ys Vx5 (hr.mono (by decide)) T.m_5 T.k_5 Wx5 (Zq (Zb 0) Ym))) (Zi (Yn 2 Qw.nd (Wx Ye)) (Zi (Yn 3 Qw.nd Lf) (Zi (Jf dh rfl (Zdx T.z_range (Hl T.z_len (Zb 0))) (Z8 4 Qw.nd) (Zz (K8 (Ag hu (Zb 4) (Zb 3)) (Zi (Yn 5 Qw.nd (Ys Vx6 (hr.mono (by decide)) T.m_6 T.k_6 Wx6 (Zq (Zb 0) (Zq (Zb 1) (Zq (Zb 4) Ym))))) (Zi (Jf dh rfl (Uq (Zb 5)) (Z8 6 Qw.nd) (Zz (Aa 3 hu (Zb 6) N3))) (Zz (T4 2 (Ys Vx7 (hr.mono (by decide)) T.m_7 T.k_7 Wx7 (Zq (C7 rfl (Wu (N':=["other","heaps",".acc"]) (src:=[.own,.cap 0,.acc]) (by rfl) (by rfl) (by rfl) (by rfl) (by rfl) (by rfl)) (Gz 2 (by rfl) (by rfl)) (by decide) (Uq (Zb 5)) (λ_ _ _ _=>xg λ_=>(Z8 0 (show(["other","heaps",".acc"]:List Str).Nodup by decide+kernel))) (λ_ _ _ _=>xt0) (λ_ _ _ _=>xe λ_=>(Y3 hu (Zb 1) (Zb 0)))) Ym)))))) Om))) (Zz (Qo (Ze9 hv T.z_sorted (Zb 2))))))))
theorem Nb{fd:cx}(F:Fun K "own_texts" "own_texts" O1 fx9 fd):
  FnOk P w K mg base Oe 1 fx9 fd ["work"] (Y6 K 1 W8):=by
 refine Xr F Rs rfl Ca λ_ _ _ _ _ _ _ hr hu hv=>?_;exact(Zi (Yn 1 Rs.nd (Ph T.z_dict (Y3 hu (Zb 0) Z2))) (Zi (Aa 1 hu Bf (Y3 hu (Zb 0) Z2)) (Zz (Qo (Zb 1)))))
theorem Sf{fd:cx}(F:Fun K "marks_of" "marks_of" B3 fx10 fd):
  FnOk P w K mg base Oe 1 fx10 fd ["texts","rules"] (Y6 K 2 Ui):=by
 refine Xr F Uu rfl Gn λ_ _ _ _ _ _ _ hr hu hv=>?_;exact(Zi (Yn 2 Uu.nd (Wx Ye)) (Zi (Jf dh rfl (G3 T.z_enumerate (Zr (Zb 1) Ye)) (T3 rfl (Wg (Z8 3 Uu.nd) (Wg (Z8 4 Uu.nd) C6))) (Zz (K8 (Zdv (Zqx T.z_all (C7 rfl (Wu (N':=["field","texts",".acc"]) (src:=[.own,.cap 0,.acc]) (by rfl) (by rfl) (by rfl) (by rfl) (by rfl) (by rfl)) (Gz 2 (by rfl) (by rfl)) (by decide) (Uq (Zb 4)) (λ_ _ _ _=>xg λ_=>(Z8 0 (show(["field","texts",".acc"]:List Str).Nodup by decide+kernel))) (λ_ _ _ _=>xt0) (λ_ _ _ _=>xe λ_=>(Zkz hu (Zb 0) (Zb 1)))))) (Zz (T4 2 (Oa (Zr (Zb 3) (Zr (Hm T.z_tuple (C7 rfl (Wu (N':=["field","texts",".acc"]) (src:=[.own,.cap 0,.acc]) (by rfl) (by rfl) (by rfl) (by rfl) (by rfl) (by rfl)) (Gz 2 (by rfl) (by rfl)) (by decide) (Uq (Zb 4)) (λ_ _ _ _=>xg λ_=>(Z8 0 (show(["field","texts",".acc"]:List Str).Nodup by decide+kernel))) (λ_ _ _ _=>xt0) (λ_ _ _ _=>xe λ_=>(Y3 hu (Zb 1) (Zb 0))))) Ye))))) Om))) (Zz (Qo (Zb 2)))))
theorem Nc{fd:cx}(F:Fun K "lone_heap" "lone_heap" O4 fx11 fd){dx9:cx}(Vx9:FnOk P w K mg base Oe 1 fx9 dx9 ["work"] (Y6 K 1 W8))(Wx9:Ww K dx9 ["work"] []){dx10:cx}(Vx10:FnOk P w K mg base Oe 1 fx10 dx10 ["texts","rules"] (Y6 K 2 Ui))(Wx10:Ww K dx10 ["texts","rules"] []):
  FnOk P w K mg base Oe 2 fx11 fd ["name","work","rules"] (Y6 K 3 W9):=by
 refine Xr F O8 rfl Cb λ_ _ _ _ _ _ _ hr hu hv=>?_;exact(Zi (Yn 3 O8.nd (Ys Vx9 (hr.mono (by decide)) T.m_9 T.k_9 Wx9 (Zq (Zb 1) Ym))) (Zi (Iu 4 rfl (Wu (N':=["field","texts","name",".acc"]) (src:=[.own,.cap 3,.cap 0,.acc]) (by rfl) (by rfl) (by rfl) (by rfl) (by rfl) (by rfl)) (Gz 3 (by rfl) (by rfl)) (by decide) (Zk2 (Zb 3)) (λ_ _ _ _=>xg λ_=>(Z8 0 (show(["field","texts","name",".acc"]:List Str).Nodup by decide+kernel))) (λ_ _ _ _=>xt λ_=>(Zku hv (Zb 0) Bf)) (λ_ _ _ _=>xe λ_=>(Oa (Zr (Zb 0) (Zr (Y3 hu (Zb 1) (Zb 0)) (Zr (Wx (Zr (Zb 2) Ye)) Ye))))) O8.nd) (Zz (Qo (Oa (Zr (Wx (Zr (Zb 0) Ye)) (Zr (Ys Vx10 (hr.mono (by decide)) T.m_10 T.k_10 Wx10 (Zq (Zb 3) (Zq (Zb 2) Ym))) (Zr (Zb 4) Ye))))))))
theorem Xt{fd:cx}(F:Fun K "pool_of" "pool_of" Gm fx12 fd){dx8:cx}(Vx8:FnOk P w K mg base Oe 2 fx8 dx8 ["heaps"] (Y6 K 1 B9))(Wx8:Ww K dx8 ["heaps"] []){dx11:cx}(Vx11:FnOk P w K mg base Oe 2 fx11 dx11 ["name","work","rules"] (Y6 K 3 W9))(Wx11:Ww K dx11 ["name","work","rules"] []):
  FnOk P w K mg base Oe 3 fx12 fd ["book","shelf","rules"] (Y6 K 3 Qv):=by
 refine Xr F Xq rfl Mi λ_ _ _ _ _ _ _ hr hu hv=>?_;exact(Zz (Qo (Ys Vx8 (hr.mono (by decide)) T.m_8 T.k_8 Wx8 (Zq (C7 rfl (Wu (N':=["key","rules","book","shelf",".acc"]) (src:=[.own,.cap 2,.cap 0,.cap 1,.acc]) (by rfl) (by rfl) (by rfl) (by rfl) (by rfl) (by rfl)) (Gz 4 (by rfl) (by rfl)) (by decide) (Zk2 (Zb 1)) (λ_ _ _ _=>xg λ_=>(Z8 0 (show(["key","rules","book","shelf",".acc"]:List Str).Nodup by decide+kernel))) (λ_ _ _ _=>xt0) (λ_ _ _ _=>xe λ_=>(Ys Vx11 (hr.mono (by decide)) T.m_11 T.k_11 Wx11 (Zq (Oa (Zr (Zb 2) (Zr (Zb 0) Ye))) (Zq (Y3 hu (Zb 3) (Zb 0)) (Zq (Zb 1) Ym)))))) Ym))))
theorem Eg{fd:cx}(F:Fun K "_law_cell_at" "_law_cell_at" Ue fx13 fd):
  FnOk P w K mg base Oe 1 fx13 fd ["_law_script","_law_k"] (Y6 K 2 Z6):=by
 refine Xr F Ef rfl Q2 λ_ _ _ _ _ _ _ hr hu hv=>?_;exact(Zi (K8 (Zvb (Zb 1) (Hl T.z_len (Zb 0))) (Zz (Qo (Y3 hu (Zb 0) (Zb 1)))) Om) (Zz (Qo Z2)))
theorem Zog{fd:cx}(F:Fun K "law" "law" O5 fx14 fd){dx0:cx}(Vx0:FnOk P w K mg base Oe 1 fx0 dx0 ["_law_number","_law_many"] (Y6 K 2 Yy))(Wx0:Ww K dx0 ["_law_number","_law_many"] []){dx1:cx}(Vx1:FnOk P w K mg base Oe 1 fx1 dx1 ["_law_fields","_law_number"] (Y6 K 2 Q6))(Wx1:Ww K dx1 ["_law_fields","_law_number"] []){dx2:cx}(Vx2:FnOk P w K mg base Oe 1 fx2 dx2 ["_law_cell","_law_by"] (Y6 K 2 Yz))(Wx2:Ww K dx2 ["_law_cell","_law_by"] []){dx3:cx}(Vx3:FnOk P w K mg base Oe 2 fx3 dx3 ["_law_keys","_law_fields","_law_cells"] (Y6 K 3 W6))(Wx3:Ww K dx3 ["_law_keys","_law_fields","_law_cells"] []){dx4:cx}(Vx4:FnOk P w K mg base Oe 1 fx4 dx4 ["_law_book","_law_shelf_here","_law_rules_here"] (Y6 K 3 Oc))(Wx4:Ww K dx4 ["_law_book","_law_shelf_here","_law_rules_here"] []){dx12:cx}(Vx12:FnOk P w K mg base Oe 3 fx12 dx12 ["book","shelf","rules"] (Y6 K 3 Qv))(Wx12:Ww K dx12 ["book","shelf","rules"] []){dx13:cx}(Vx13:FnOk P w K mg base Oe 1 fx13 dx13 ["_law_script","_law_k"] (Y6 K 2 Z6))(Wx13:Ww K dx13 ["_law_script","_law_k"] []):
  FnOk P w K mg base Oe 4 fx14 fd ["_law_script"] (Y6 K 1 Rq):=by
 refine Xr F U3 rfl Zgi λ_ _ _ _ _ _ _ hr hu hv=>?_;exact(Zi (Yn 1 U3.nd (Zqq (Zb 0) (Vk Z2) (Vk Z2))) (Zi (Yn 2 U3.nd (Ys Vx0 (hr.mono (by decide)) T.m_0 T.k_0 Wx0 (Zq (Ys Vx2 (hr.mono (by decide)) T.m_2 T.k_2 Wx2 (Zq (Ys Vx13 (hr.mono (by decide)) T.m_13 T.k_13 Wx13 (Zq (Zb 0) (Zq Z2 Ym))) (Zq Z2 Ym))) (Zq (Hl T.z_len (Zb 1)) Ym)))) (Zi (Yn 3 U3.nd (Ys Vx0 (hr.mono (by decide)) T.m_0 T.k_0 Wx0 (Zq (Ys Vx2 (hr.mono (by decide)) T.m_2 T.k_2 Wx2 (Zq (Ys Vx13 (hr.mono (by decide)) T.m_13 T.k_13 Wx13 (Zq (Zb 0) (Zq Z2 Ym))) (Zq Z2 Ym))) (Zq Z2 Ym)))) (Zi (Yn 4 U3.nd (Y3 hu (Ys Vx0 (hr.mono (by decide)) T.m_0 T.k_0 Wx0 (Zq (Ys Vx2 (hr.mono (by decide)) T.m_2 T.k_2 Wx2 (Zq (Ys Vx13 (hr.mono (by decide)) T.m_13 T.k_13 Wx13 (Zq (Zb 0) (Zq Z2 Ym))) (Zq Z2 Ym))) (Zq Z2 Ym))) Z2)) (Zi (Yn 5 U3.nd (Ys Vx1 (hr.mono (by decide)) T.m_1 T.k_1 Wx1 (Zq (Zb 3) (Zq (Ys Vx2 (hr.mono (by decide)) T.m_2 T.k_2 Wx2 (Zq (Ys Vx13 (hr.mono (by decide)) T.m_13 T.k_13 Wx13 (Zq (Zb 0) (Zq Z2 Ym))) (Zq Z2 Ym))) Ym)))) (Zi (Yn 6 U3.nd (Ys Vx3 (hr.mono (by decide)) T.m_3 T.k_3 Wx3 (Zq (Zb 2) (Zq (Zb 3) (Zq (Zb 1) Ym))))) (Zi (Yn 7 U3.nd (Ys Vx4 (hr.mono (by decide)) T.m_4 T.k_4 Wx4 (Zq (Zb 4) (Zq (Zb 6) (Zq (Zb 5) Ym))))) (Zf4 (Zno 8 Vx12 (hr.mono (by decide)) T.m_12 T.k_12 Wx12 U3.nd (Zr (Zb 4) (Zr (Zb 6) (Zr (Zb 5) Ye)))) (Zrz (PW.pt (Zqp (Zkr (Zdv (Zdw T.z_isinstance T.z_list boot_list (N4 _) (Zb 8)))) (Zkq (Zkw hv (Zb 8) (Zb 7))))) (Zz (Qo N3))) (Zn5 9 dh rfl U3.nd (Pp 8) (Zrz (PW.pt (Zqp (Zkr (Zdv (Zdw T.z_isinstance T.z_tuple boot_tuple (Za9 _) (Zb 9)))) (Zkq (Zeo (Zre hu N3 (C7 rfl (Wu (N':=["_law_part",".acc"]) (src:=[.own,.acc]) (by rfl) (by rfl) (by rfl) (by rfl) (by rfl) (by rfl)) (Gz 1 (by rfl) (by rfl)) (by decide) (Uq (Zb 9)) (λ_ _ _ _=>xg λ_=>(Z8 0 (show(["_law_part",".acc"]:List Str).Nodup by decide+kernel))) (λ_ _ _ _=>xt0) (λ_ _ _ _=>xe λ_=>(Zdw T.z_isinstance T.z_list boot_list (N4 _) (Zb 0))))))))) (Zz (Qo N3))) (Zn6 9 (Pp 9)) (Zn7 9 (Pp 9))) (Zi (K8 (Zkw hv (Ys Vx12 (hr.mono (by decide)) T.m_12 T.k_12 Wx12 (Zq (Zb 4) (Zq (Zb 6) (Zq (Zb 5) Ym)))) (Zb 7)) (Zz (Qo N3)) Om) (Zz (Qo (Zra hv (Zb 6) (Ys Vx3 (hr.mono (by decide)) T.m_3 T.k_3 Wx3 (Zq (Zb 2) (Zq (Zb 3) (Zq (Zb 1) Ym))))))))))))))))
end
theorem Zoh{l:PySem.W.OpenLaw}{w:ck}{K:af}{h:dq}{mg:Str->Option aj}{fa fx0 fx1 fx2 fx3 fx4 fx5 fx6 fx7 fx8 fx9 fx10 fx11 fx12 fx13 fx14:ak}(X:K.In h)(G:h.Ns b6 mg)(hfa:mg "law"=aA (.ref fa))
  {odx14 anx14:Option ak} {slx14:Array (Option aj)} {ocx14 kVx14 dcx14 pmx14 cdx14 ctx14:aj}
  (ax0:cy K b6 "_law_names"=aA (aA (.ref fx0))) (Fx0:∃fd,Fun K "_law_names" "_law_names" Ox fx0 fd) (kx0:bq K (.ref fx0)=aC)
  (ax1:cy K b6 "_law_rules"=aA (aA (.ref fx1))) (Fx1:∃fd,Fun K "_law_rules" "_law_rules" Oy fx1 fd) (kx1:bq K (.ref fx1)=aC)
  (ax2:cy K b6 "_law_mixed"=aA (aA (.ref fx2))) (Fx2:∃fd,Fun K "_law_mixed" "_law_mixed" Oz fx2 fd) (kx2:bq K (.ref fx2)=aC)
  (ax3:cy K b6 "_law_shelf"=aA (aA (.ref fx3))) (Fx3:∃fd,Fun K "_law_shelf" "_law_shelf" O0 fx3 fd) (kx3:bq K (.ref fx3)=aC)
  (ax4:cy K b6 "_law_due"=aA (aA (.ref fx4))) (Fx4:∃fd,Fun K "_law_due" "_law_due" Gk fx4 fd) (kx4:bq K (.ref fx4)=aC)
  (ax5:cy K b6 "holders_of"=aA (aA (.ref fx5))) (Fx5:∃fd,Fun K "holders_of" "holders_of" U1 fx5 fd) (kx5:bq K (.ref fx5)=aC)
  (ax6:cy K b6 "tied"=aA (aA (.ref fx6))) (Fx6:∃fd,Fun K "tied" "tied" L4 fx6 fd) (kx6:bq K (.ref fx6)=aC)
  (ax7:cy K b6 "join_heaps"=aA (aA (.ref fx7))) (Fx7:∃fd,Fun K "join_heaps" "join_heaps" U2 fx7 fd) (kx7:bq K (.ref fx7)=aC)
  (ax8:cy K b6 "joined"=aA (aA (.ref fx8))) (Fx8:∃fd,Fun K "joined" "joined" Mg fx8 fd) (kx8:bq K (.ref fx8)=aC)
  (ax9:cy K b6 "own_texts"=aA (aA (.ref fx9))) (Fx9:∃fd,Fun K "own_texts" "own_texts" O1 fx9 fd) (kx9:bq K (.ref fx9)=aC)
  (ax10:cy K b6 "marks_of"=aA (aA (.ref fx10))) (Fx10:∃fd,Fun K "marks_of" "marks_of" B3 fx10 fd) (kx10:bq K (.ref fx10)=aC)
  (ax11:cy K b6 "lone_heap"=aA (aA (.ref fx11))) (Fx11:∃fd,Fun K "lone_heap" "lone_heap" O4 fx11 fd) (kx11:bq K (.ref fx11)=aC)
  (ax12:cy K b6 "pool_of"=aA (aA (.ref fx12))) (Fx12:∃fd,Fun K "pool_of" "pool_of" Gm fx12 fd) (kx12:bq K (.ref fx12)=aC)
  (ax13:cy K b6 "_law_cell_at"=aA (aA (.ref fx13))) (Fx13:∃fd,Fun K "_law_cell_at" "_law_cell_at" Ue fx13 fd) (kx13:bq K (.ref fx13)=aC)
  (ax14:cy K b6 "law"=aA (aA (.ref fx14))) (lx14:K.lookup fx14=aA ⟨ocx14,odx14,.func (PySem.W.fnOf "law" "law" (Oj O5) (Jj O5) (Zx O5) .none kVx14 dcx14 pmx14 anx14 cdx14 ctx14),slx14⟩) (cx14:PySem.W.codeIn K cdx14 "law"=aC) (kx14:bq K (.ref fx14)=aC)
  (zall:cy K b6 "all"=aA aB)
  (zdict:cy K b6 "dict"=aA aB)
  (zenumerate:cy K b6 "enumerate"=aA aB)
  (zint:cy K b6 "int"=aA aB)
  (zisinstance:cy K b6 "isinstance"=aA aB)
  (zlen:cy K b6 "len"=aA aB)
  (zlist:cy K b6 "list"=aA aB)
  (zrange:cy K b6 "range"=aA aB)
  (zset:cy K b6 "set"=aA aB)
  (zsorted:cy K b6 "sorted"=aA aB)
  (zstr:cy K b6 "str"=aA aB)
  (ztuple:cy K b6 "tuple"=aA aB)
  :∃fd:cx,(∀(s:am) (v:aj),BindsTo s fd ⟨[v],[]⟩ [("_law_script",v)])/\∀base:dq,K.In base->base.Ns b6 mg->FnOk l.prog w K mg base Oe 4 fa fd ["_law_script"] (Y6 K 1 Rq):=by
 have e:=hfa.symm.trans (gc X G ax14);cases e;have T:Txt K mg fx0 fx1 fx2 fx3 fx4 fx5 fx6 fx7 fx8 fx9 fx10 fx11 fx12 fx13 _:=⟨ff X G zall,ff X G zdict,ff X G zenumerate,ff X G zint,ff X G zisinstance,ff X G zlen,ff X G zlist,ff X G zrange,ff X G zset,ff X G zsorted,ff X G zstr,ff X G ztuple,gc X G ax0,kx0,gc X G ax1,kx1,gc X G ax2,kx2,gc X G ax3,kx3,gc X G ax4,kx4,gc X G ax5,kx5,gc X G ax6,kx6,gc X G ax7,kx7,gc X G ax8,kx8,gc X G ax9,kx9,gc X G ax10,kx10,gc X G ax11,kx11,gc X G ax12,kx12,gc X G ax13,kx13,gc X G ax14,kx14⟩
 obtain⟨_,Fx0⟩:=Fx0;obtain⟨_,Fx1⟩:=Fx1;obtain⟨_,Fx2⟩:=Fx2;obtain⟨_,Fx3⟩:=Fx3;obtain⟨_,Fx4⟩:=Fx4;obtain⟨_,Fx5⟩:=Fx5;obtain⟨_,Fx6⟩:=Fx6;obtain⟨_,Fx7⟩:=Fx7;obtain⟨_,Fx8⟩:=Fx8;obtain⟨_,Fx9⟩:=Fx9;obtain⟨_,Fx10⟩:=Fx10;obtain⟨_,Fx11⟩:=Fx11;obtain⟨_,Fx12⟩:=Fx12;obtain⟨_,Fx13⟩:=Fx13;have Fx14:=W4 (st:=O5) lx14 cx14 kx14;have bx0:=Fx0.binds (ps:=["_law_number","_law_many"]) λ_ _ _ _ _ _ us hl=>of2 (λ_ _=>rfl) us hl;have bx1:=Fx1.binds (ps:=["_law_fields","_law_number"]) λ_ _ _ _ _ _ us hl=>of2 (λ_ _=>rfl) us hl;have bx2:=Fx2.binds (ps:=["_law_cell","_law_by"]) λ_ _ _ _ _ _ us hl=>of2 (λ_ _=>rfl) us hl;have bx3:=Fx3.binds (ps:=["_law_keys","_law_fields","_law_cells"]) λ_ _ _ _ _ _ us hl=>of3 (λ_ _ _=>rfl) us hl;have bx4:=Fx4.binds (ps:=["_law_book","_law_shelf_here","_law_rules_here"]) λ_ _ _ _ _ _ us hl=>of3 (λ_ _ _=>rfl) us hl;have bx5:=Fx5.binds (ps:=["heaps"]) λ_ _ _ _ _ _ us hl=>of1 (λ_=>rfl) us hl;have bx6:=Fx6.binds (ps:=["heaps","holders","place"]) λ_ _ _ _ _ _ us hl=>of3 (λ_ _ _=>rfl) us hl;have bx7:=Fx7.binds (ps:=["heaps"]) λ_ _ _ _ _ _ us hl=>of1 (λ_=>rfl) us hl;have bx8:=Fx8.binds (ps:=["heaps"]) λ_ _ _ _ _ _ us hl=>of1 (λ_=>rfl) us hl;have bx9:=Fx9.binds (ps:=["work"]) λ_ _ _ _ _ _ us hl=>of1 (λ_=>rfl) us hl;have bx10:=Fx10.binds (ps:=["texts","rules"]) λ_ _ _ _ _ _ us hl=>of2 (λ_ _=>rfl) us hl;have bx11:=Fx11.binds (ps:=["name","work","rules"]) λ_ _ _ _ _ _ us hl=>of3 (λ_ _ _=>rfl) us hl;have bx12:=Fx12.binds (ps:=["book","shelf","rules"]) λ_ _ _ _ _ _ us hl=>of3 (λ_ _ _=>rfl) us hl;have bx13:=Fx13.binds (ps:=["_law_script","_law_k"]) λ_ _ _ _ _ _ us hl=>of2 (λ_ _=>rfl) us hl;refine⟨PySem.W.fnOf "law" "law" (Oj O5) (Jj O5) (Zx O5) .none kVx14 dcx14 pmx14 anx14 cdx14 ctx14,λs v=>.of_eq rfl,λbase kb nb=>?_⟩;have Gx0:=L7 (P:=l.prog) (w:=w) (base:=base) T Fx0;have Gx1:=L8 (P:=l.prog) (w:=w) (base:=base) T Fx1;have Gx2:=L9 (P:=l.prog) (w:=w) (base:=base) T Fx2;have Gx3:=Na (P:=l.prog) (w:=w) (base:=base) T Fx3 Gx2 bx2;have Gx4:=Xs (P:=l.prog) (w:=w) (base:=base) T Fx4;have Gx5:=E4 (P:=l.prog) (w:=w) (base:=base) T Fx5;have Gx6:=Zjs (P:=l.prog) (w:=w) (base:=base) T Fx6;have Gx7:=E5 (P:=l.prog) (w:=w) (base:=base) T Fx7;have Gx8:=Zbw (P:=l.prog) (w:=w) (base:=base) T Fx8 Gx5 bx5 Gx6 bx6 Gx7 bx7;have Gx9:=Nb (P:=l.prog) (w:=w) (base:=base) T Fx9;have Gx10:=Sf (P:=l.prog) (w:=w) (base:=base) T Fx10;have Gx11:=Nc (P:=l.prog) (w:=w) (base:=base) T Fx11 Gx9 bx9 Gx10 bx10;have Gx12:=Xt (P:=l.prog) (w:=w) (base:=base) T Fx12 Gx8 bx8 Gx11 bx11;have Gx13:=Eg (P:=l.prog) (w:=w) (base:=base) T Fx13;exact Zog T Fx14 Gx0 bx0 Gx1 bx1 Gx2 bx2 Gx3 bx3 Gx4 bx4 Gx12 bx12 Gx13 bx13
theorem Zoi{K:af}{H:Hp}{a:ak}{ns:List Int}(hn:Rq [.lst (ns.map D.int)]=aA (.fz (.bl aC)))(hO:Zc8 H)(hS:Wp K H a (ns.map V.int)):Y6 K 1 Rq [.ref a] H (λv _=>v= .bl aC) λ_ _ _=>False:=by refine⟨H,[.lst (ns.map D.int)],.fz (.bl aC),Ze.refl H,.cons (.lst hS (.inr λd hd=>let⟨i,_,e⟩:=a6.mp hd;⟨i,e.symm⟩) (N5 ns)) .nil,rfl,hn,λv H' F' ms _ _ _ _ sh _ _=>?_⟩;cases Q4 sh;rfl
theorem Zwv{l:PySem.W.OpenLaw}{q:bu}{loose:List Str}{XP:(Str->Option aj)->dq->Prop}{YP:ck->dq->Prop}{d:DefRec}{K:Params->af}(hn:l.most=aA 63)(hdf:d.params.defaults=[])
  (hY:∀(w:ck) (h:dq),YP w h->(K w.params).In h)
  (F:∀(w:ck) (mg:Str->Option aj) (fa:ak) (h:dq),(K w.params).In h->h.Ns b6 mg->mg d.name=aA (.ref fa)->
   ∃fd:cx,(∀(s:am) (u:aj),BindsTo s fd ⟨[u],[]⟩ [("_law_script",u)])/\∀base:dq,(K w.params).In base->base.Ns b6 mg->FnOk l.prog w (K w.params) mg base Oe 4 fa fd ["_law_script"] (Y6 (K w.params) 1 Rq))
  (hlaw:∀ns:List Int,ns.length<=63->Rq [.lst (ns.map D.int)]=aA (.fz (.bl aC))):
  PySem.W.WalkO q loose XP YP l.row.toRowW d [] (λf vs=>PySem.call f vs):=
 L2.Zda (n:=63) (k:=4) (x:="_law_script") (CX:=Oe) (sp:=λK=>Y6 K 1 Rq) hn (by decide) hdf ⟨rfl,by decide,by decide⟩ hY F (λ_ _ _ ns hl hO hS=>Zoi (hlaw ns hl) hO hS) λ_ _ _ _ z=>z
end Gen
namespace My
open DL PySem
abbrev Od:Str:="abcdefghjlmpqrstuvwxyz"
theorem Zgj:Od.cps.toList.length=22:=by decide+kernel
theorem Fs:Od.length<=PySem.sizeLine:=by decide+kernel
def LC(j:Nat):Nat:=Od.cps.toList.getD j 0
theorem Zoj:∀i<22,∀j<22,LC i=LC j->i=j:=by decide+kernel
theorem Zok:∀i<22,LC i≠105/\LC i≠110/\LC i≠111:=by decide+kernel
theorem Zsn(i:Int):L2.atI Od.cps.toList (i % 22)=aA (LC (i % 22).toNat):=by
 have h0:0<=i % 22:=fu _ (by decide);have h1:i % 22<22:=dy _ (by decide);obtain⟨j,hj⟩:=Int.eq_ofNat_of_zero_le h0;rw[hj];have hjl:j<Od.cps.toList.length:=by rw[Zgj];omega
 refine Zf5 _ _ _ ?_;unfold LC;rw[bz,show((j:Int)).toNat=j by omega,az hjl];rfl
def sgn(x:Int)(at':Int)(t:Nat)(k:Nat):Nat:=LC ((x / ((k:Int)+2)+(t:Int)*(if(k:Int)=at' then 1 else 0)) % 22).toNat
def Ng(x at':Int)(size t:Nat):List Nat:=(cr size).map (sgn x at' t)
theorem Zbx(a1 a3 a5:Option SV)(x at':Int)(t k:Nat)(hk:k<=100)(w:List Nat)(hw:w.length<=1000)(x9:Option SV):
  ∃y9,Gen.Y9 [aA (.fz (.int x)),a1,aA (.fz (.str Od)),a3,aA (.fz (.int at')),a5,aA (.fz (.int (t:Int))),aA (.fz (.str (S w))),aA (.fz (.int (k:Int))),x9]=aA (.nx [aA (.fz (.int x)),a1,aA (.fz (.str Od)),a3,aA (.fz (.int at')),a5,aA (.fz (.int (t:Int))),aA (.fz (.str (S (w++[sgn x at' t k])))),aA (.fz (.int (k:Int))),y9]):=by
 have go:∀ki ti:Int,0<=ki->ki<=100->∀b:Int,(b=0\/b=1)->(if ki=at' then(1:Int)else 0)=b->∀ch,L2.atI Od.cps.toList ((x / (ki+2)+ti*b) % 22)=aA ch->
   Gen.Y9 [aA (.fz (.int x)),a1,aA (.fz (.str Od)),a3,aA (.fz (.int at')),a5,aA (.fz (.int ti)),aA (.fz (.str (S w))),aA (.fz (.int ki)),x9]=aA (.nx [aA (.fz (.int x)),a1,aA (.fz (.str Od)),a3,aA (.fz (.int at')),a5,aA (.fz (.int ti)),aA (.fz (.str (S (w++[ch])))),aA (.fz (.int ki)),aA (.fz (.int (ti*b)))]):=by
  intro ki ti h0 h1 b hb hif ch hch;have hm:=Zna (i:=ti) (j:=b) (by omega);have d1:0<ki+2:=by omega
  have d2:ki+2<1073741824:=by omega
  have z:(S w).length+(⟨#[ch]⟩:Str).length<=PySem.sizeLine:=Qz (by rw[Zll w];show w.length+1<=_;omega);have ea:S w++(⟨#[ch]⟩:Str)=S (w++[ch]):=Zsi w [ch];by_cases hk:ki=at'
  ·rw[if_pos hk]at hif;subst hif;unfold Gen.Y9;simp[hk]at hm hch d1 d2⊢;simp[hm,hch,d1,d2,Fs,z,ea]
  ·rw[if_neg hk]at hif;subst hif;unfold Gen.Y9;simp[hk]at hm hch⊢;simp[hm,hch,d1,d2,Fs,z,ea]
 refine⟨_,go (k:Int) (t:Int) (by omega) (by omega) (if(k:Int)=at' then 1 else 0) (by split<;> simp) rfl (sgn x at' t k) (Zsn _)⟩
theorem Zby(a1 a3 a5:Option SV)(x at':Int)(t size:Nat)(hs:size<=100)(x8 x9:Option SV):
  ∃y8 y9,Yi (Zg 8) Gen.Y9 (Xk 0 size) [aA (.fz (.int x)),a1,aA (.fz (.str Od)),a3,aA (.fz (.int at')),a5,aA (.fz (.int (t:Int))),aA (.fz (.str (S []))),x8,x9]=aA (.nx [aA (.fz (.int x)),a1,aA (.fz (.str Od)),a3,aA (.fz (.int at')),a5,aA (.fz (.int (t:Int))),aA (.fz (.str (S (Ng x at' size t)))),y8,y9]):=by
 obtain⟨δ',e,y8,y9,hy⟩:=Ci (tg:=Zg 8) (body:=Gen.Y9) (P:=λi δ=>∃y8 y9,δ=[aA (.fz (.int x)),a1,aA (.fz (.str Od)),a3,aA (.fz (.int at')),a5,aA (.fz (.int (t:Int))),aA (.fz (.str (S (Ng x at' i t)))),y8,y9]) size 0 [aA (.fz (.int x)),a1,aA (.fz (.str Od)),a3,aA (.fz (.int at')),a5,aA (.fz (.int (t:Int))),aA (.fz (.str (S []))),x8,x9] ⟨x8,x9,rfl⟩ (λi _ hi δ ⟨y8,y9,hy⟩=>by
  subst hy;obtain⟨z9,e⟩:=Zbx a1 a3 a5 x at' t i (by omega) (Ng x at' i t) (by unfold Ng;simp;omega) y9;refine⟨[aA (.fz (.int x)),a1,aA (.fz (.str Od)),a3,aA (.fz (.int at')),a5,aA (.fz (.int (t:Int))),aA (.fz (.str (S (Ng x at' i t)))),aA (.fz (.int (i:Int))),y9],_,by simp,e,aA (.fz (.int (i:Int))),z9,?_⟩;have:Ng x at' (i+1) t=Ng x at' i t++[sgn x at' t i]:=by unfold Ng;rw[List.range_succ,cq];rfl
  rw[this])
 subst hy;rw[Nat.zero_add]at e;exact⟨y8,y9,e⟩
def Wz(x at':Int)(size m:Nat):List Str:=(cr m).map λt=>S (Ng x at' size t)
theorem Xu(a1:Option SV)(x at':Int)(size:Nat)(hs:size<=8)(m:Nat)(hm:m<=100):
  ∃δ,Yi (Zg 6) Gen.Q0 (Xk 0 m) [aA (.fz (.int x)),a1,aA (.fz (.str Od)),aA (.fz (.int (size:Int))),aA (.fz (.int at')),aA (.ol []),aB,aB,aB,aB]=aA (.nx δ)/\δ[5]? =aA (aA (.ol ((Wz x at' size m).map D.str))):=by
 obtain⟨δ',e,y6,y7,y8,y9,hy⟩:=Ci (tg:=Zg 6) (body:=Gen.Q0) (P:=λi δ=>∃y6 y7 y8 y9,δ=[aA (.fz (.int x)),a1,aA (.fz (.str Od)),aA (.fz (.int (size:Int))),aA (.fz (.int at')),aA (.ol ((Wz x at' size i).map D.str)),y6,y7,y8,y9]) m 0 [aA (.fz (.int x)),a1,aA (.fz (.str Od)),aA (.fz (.int (size:Int))),aA (.fz (.int at')),aA (.ol []),aB,aB,aB,aB] ⟨aB,aB,aB,aB,rfl⟩ (λi _ hi δ ⟨y6,y7,y8,y9,hy⟩=>by
  subst hy;obtain⟨z8,z9,e⟩:=Zby a1 (aA (.fz (.int (size:Int)))) (aA (.ol ((Wz x at' size i).map D.str))) x at' i size (by omega) y8 y9;have g1:K7 (size:Int):=Tw (by omega);have et:((size:Int)).toNat=size:=by omega
  have z:(Wz x at' size i).length<PySem.sizeLine:=Yt (by unfold Wz;simp;omega);have he:b9 ""=S []:=rfl;have hr:Wz x at' size (i+1)=Wz x at' size i++[S (Ng x at' size i)]:=by unfold Wz;rw[List.range_succ,cq];rfl
  refine⟨[aA (.fz (.int x)),a1,aA (.fz (.str Od)),aA (.fz (.int (size:Int))),aA (.fz (.int at')),aA (.ol ((Wz x at' size i).map D.str)),aA (.fz (.int (i:Int))),y7,y8,y9],[aA (.fz (.int x)),a1,aA (.fz (.str Od)),aA (.fz (.int (size:Int))),aA (.fz (.int at')),aA (.ol ((Wz x at' size (i+1)).map D.str)),aA (.fz (.int (i:Int))),aA (.fz (.str (S (Ng x at' size i)))),z8,z9],by simp,?_,_,_,_,_,rfl⟩;rw[hr];generalize Wz x at' size i=NL at*;unfold Gen.Q0;simp[-Yi,he,g1,et,Mf,e,z])
 subst hy;rw[Nat.zero_add]at e;exact⟨_,e,rfl⟩
structure Nam(w:Str):Prop where
 one:1<=w.length
 most:w.length<=8
 no:∀c∈w.cps.toList,c≠105/\c≠110/\c≠111
theorem Eh(x:Int)(h0:0<=x)(m:Nat)(hm:m<=20):∃ws:List Str,Gen.Yy [.int x,.int (m:Int)]=aA (.ol (ws.map D.str))/\ws.length=m/\ws.Nodup/\∀w∈ws,Nam w:=by
 have s0:0<=x % 8:=fu _ (by decide);have s1:x % 8<8:=dy _ (by decide);obtain⟨size,hs⟩:∃n:Nat,(n:Int)=1+x % 8:=⟨(1+x % 8).toNat,by omega⟩
 have hs1:1<=size:=by omega
 have hs8:size<=8:=by omega
 have p0:(0:Int)<(size:Int):=by omega
 have a0:0<=x / 8 % (size:Int):=fu _ (by omega);have a1:x / 8 % (size:Int)<(size:Int):=dy _ p0;generalize hat:x / 8 % (size:Int)=at' at a0 a1;obtain⟨δ,e,hδ⟩:=Xu (aA (.fz (.int (m:Int)))) x at' size hs8 m (by omega);have g1:K7 (m:Int):=Tw (by omega);have et:((m:Int)).toNat=m:=by omega
 refine⟨Wz x at' size m,?_,by unfold Wz;simp,?_,λw hw=>?_⟩
 ·generalize Wz x at' size m=NL at hδ;unfold Gen.Yy Gen.B4;have hs0:0<size:=by omega
  simp[-Yi,<-hs,p0,hs0,hat,g1,et,Mf,e,hδ]
 ·unfold Wz;refine List.Pairwise.map _ (R:=λa b=>a≠b/\a<m/\b<m) (λa b h=>?_) ?_
  ·intro z;obtain⟨hne,ha,hb⟩:=h;have hl:=Zsj z;obtain⟨k,hk⟩:=Int.eq_ofNat_of_zero_le a0;have hks:k<size:=by omega
   have e1:(Ng x at' size a)[k]? =aA (sgn x at' a k):=by unfold Ng;rw[bf,List.getElem?_range hks];rfl
   have e2:(Ng x at' size b)[k]? =aA (sgn x at' b k):=by unfold Ng;rw[bf,List.getElem?_range hks];rfl
   rw[hl,e2]at e1;have e3:=dm.inj e1;unfold sgn at e3;rw[if_pos hk.symm]at e3;have q:=λy:Int=>(fu y (show(22:Int)≠0 by decide))
   have q':=λy:Int=>(dy y (show(0:Int)<22 by decide))
   have r1:=q (x / ((k:Int)+2)+(a:Int)*1);have r2:=q' (x / ((k:Int)+2)+(a:Int)*1);have r3:=q (x / ((k:Int)+2)+(b:Int)*1);have r4:=q' (x / ((k:Int)+2)+(b:Int)*1);have e4:=Zoj _ (by omega) _ (by omega) e3;generalize x / ((k:Int)+2)=y at*;omega
  ·have nd:(cr m).Pairwise (λa b=>a<b):=List.pairwise_lt_range;refine(List.Pairwise.and_mem.mp nd).imp fun{a b} h=>?_;exact⟨b4 h.2.2,cw.mp h.1,cw.mp h.2.1⟩
 ·unfold Wz at hw;obtain⟨t,_,rfl⟩:=a6.mp hw;have hl:(S (Ng x at' size t)).length=size:=by rw[Zll];unfold Ng;simp
  refine⟨by rw[hl];exact hs1,by rw[hl];exact hs8,λc hc=>?_⟩;rw[Zn8]at hc;unfold Ng at hc;obtain⟨k,_,rfl⟩:=a6.mp hc;have r1:=fu (x / ((k:Int)+2)+(t:Int)*(if(k:Int)=at' then 1 else 0)) (show(22:Int)≠0 by decide);have r2:=dy (x / ((k:Int)+2)+(t:Int)*(if(k:Int)=at' then 1 else 0)) (show(0:Int)<22 by decide);exact Zok _ (by omega)
theorem Sg(c b:Int):Gen.Yz [.int c,.int b]=aA (.fz (.int (c % 2147483647*b % 2147483647))):=by have h1:0<=c % 2147483647:=fu _ (by decide);have h2:c % 2147483647<2147483647:=dy _ (by decide);have hm:=Znb (i:=c % 2147483647) (j:=b) (by omega);unfold Gen.Yz Gen.B6;simp[hm]
theorem Te(ns:List Int)(k:Nat):∃c:Int,Gen.Z6 [.lst (ns.map D.int),.int (k:Int)]=aA (.fz (.int c)):=by
 by_cases h:k<ns.length
 ·have a:L2.atI (ns.map D.int) (k:Int)=aA (.int ns[k]):=Zf5 _ _ _ (by rw[bf,az h];rfl);refine⟨ns[k],?_⟩;have h':(k:Int)<(ns.length:Int):=by omega
  unfold Gen.Z6 Gen.Q2;simp[h',h,a]
 ·refine⟨0,?_⟩;have h':¬(k:Int)<(ns.length:Int):=by omega
  unfold Gen.Z6 Gen.Q2;simp[h',h]
theorem Nd(c b:Int):0<=c % 2147483647*b % 2147483647:=fu _ (by decide)
end My
namespace My
open DL PySem TT
theorem s1:1<=PySem.sizeLine:=by decide
theorem s2:2<=PySem.sizeLine:=by decide
theorem s3:3<=PySem.sizeLine:=by decide
theorem s4:4<=PySem.sizeLine:=by decide
abbrev Qx:Str:=b9 "kind"
abbrev Qc:Str:=b9 "note"
def Yo(fs ts:List Str)(f:Str):Option Str:=(fs.zip ts).lookup f
theorem Jr:∀(fs ts:List Str) (f:Str),look fs (ts.map D.str) f=(Yo fs ts f).map D.str
 | [],ts,f=>by cases ts<;> rfl
 |_::_,[],f=>rfl
 |x::fs,t::ts,f=>by
  show(if x=f then aA (D.str t)else look fs (ts.map D.str) f)=_;rw[Jr fs ts f];unfold Yo;rw[List.zip_cons_cons,gz];by_cases h:x=f
  ·subst h;simp
  ·have:(f==x)=aD:=beq_eq_false_iff_ne.mpr λz=>h z.symm;rw[if_neg h,this]
abbrev Zaf(kind:Str)(fs ts:List Str):D:=.tup [.str kind,.dK (Zv fs) (ts.map D.str)]
theorem own_texts(kind:Str)(fs ts:List Str)(hl:fs.length=ts.length)(hz:ts.length<=1000)(hk:Qx∉fs):Gen.W8 [Zaf kind fs ts]=aA (.oK (Zv (fs++[Qx])) ((ts++[kind]).map D.str)):=by
 have hp:Wh (Zv fs) (ts.map D.str) (b8 Qx) (.str kind)=(Zv (fs++[Qx]),(ts++[kind]).map D.str):=by rw[Ax,Ay hk];simp
 have z:(ts.map D.str).length<PySem.sizeLine:=Yt (by simp;omega);have at1:∀a b:D,L2.atI [a,b] 1=aA b:=λ_ _=>rfl;have at0:∀a b:D,L2.atI [a,b] 0=aA a:=λ_ _=>rfl;unfold Zaf Gen.W8 Gen.Ca;generalize ts.map D.str=TS at*;generalize Zv fs=FS at*;simp[at1,at0,hp,z,-Wh]
def Wc(fs ts:List Str):Nat->List (List Str)->List NK
 |_,[]=>[]
 |i,r::rs=>(match r.mapM (Yo fs ts)with|some l=>[(.inr ((i:Int),l):NK)]|none=>[])++Wc fs ts (i+1) rs
abbrev Zy(r:List Str):D:=.lst (r.map D.str)
def Zso(fs ts:List Str):D->D
 | .str f=>.bl (Yo fs ts f).isSome
 |_=>.non
def Zlm(fs ts:List Str):D->D
 | .str f=>.str ((Yo fs ts f).getD "")
 |_=>.non
theorem Sh(fs ts:List Str)(j:Nat)(r:List Str)(hr:r.length<=100):
  Y7 [.own,.cap j,.acc] 2 (Zg 0) Q5 Gen.Jm (r.map D.str) [aB,aA (.fz (.dK (Zv fs) (ts.map D.str))),aA (.ol [])]=aA [aB,aA (.fz (.dK (Zv fs) (ts.map D.str))),aA (.ol (r.map λf=>.bl (Yo fs ts f).isSome))]:=by
 have c:=Rn (te:=Gen.Jm) (f:=Zso fs ts) (c:=aA (.fz (.dK (Zv fs) (ts.map D.str)))) (j:=j) (r.map D.str) [] (λx hx zs=>by
  obtain⟨f,hf,rfl⟩:=a6.mp hx;have l:=(Uc f fs (ts.map D.str)).trans (Jr fs ts f);unfold Gen.Jm Zso;generalize ts.map D.str=TS at*;generalize Zv fs=FS at*;simp[l,-look]) (by rw[ao];simp;omega)
 rw[c,List.nil_append,bx];rfl
theorem Si(fs ts:List Str)(j:Nat)(r:List Str)(hr:r.length<=100)(hh:∀f∈r,(Yo fs ts f).isSome):
  Y7 [.own,.cap j,.acc] 2 (Zg 0) Q5 Gen.Jn (r.map D.str) [aB,aA (.fz (.dK (Zv fs) (ts.map D.str))),aA (.ol [])]=aA [aB,aA (.fz (.dK (Zv fs) (ts.map D.str))),aA (.ol (r.map λf=>.str ((Yo fs ts f).getD "")))]:=by
 have c:=Rn (te:=Gen.Jn) (f:=Zlm fs ts) (c:=aA (.fz (.dK (Zv fs) (ts.map D.str)))) (j:=j) (r.map D.str) [] (λx hx zs=>by
  obtain⟨f,hf,rfl⟩:=a6.mp hx;have l:=(Uc f fs (ts.map D.str)).trans (Jr fs ts f);obtain⟨v,hv⟩:=Option.isSome_iff_exists.mp (hh f hf);rw[hv]at l;have g:Zlm fs ts (.str f)= .str v:=by show D.str ((Yo fs ts f).getD "")=_;rw[hv];rfl
  rw[g];unfold Gen.Jn;generalize ts.map D.str=TS at*;generalize Zv fs=FS at*;simp[l,-look]) (by rw[ao];simp;omega)
 rw[c,List.nil_append,bx];rfl
theorem Rt(fs ts:List Str):∀r:List Str,r.mapM (Yo fs ts)=if(∀f∈r,(Yo fs ts f).isSome)then aA (r.map λf=>(Yo fs ts f).getD "")else aB
 | []=>by simp
 |f::r=>by
  rw[List.mapM_cons,Rt fs ts r];cases h:Yo fs ts f with
  |none=>simp[h]
  |some v=>
   by_cases h2:∀f∈r,(Yo fs ts f).isSome
   ·rw[if_pos h2,if_pos λg hg=>(bo.mp hg).elim (λz=>by rw[z,h];rfl) λz=>h2 g z];simp[h]
   ·rw[if_neg h2,if_neg λz=>h2 λg hg=>z g (ar _ hg)];rfl
theorem Ft:∀(r:List Str) (p:Str->Bool),bools? (r.map λf=>D.bl (p f))=aA (r.map p)
 | [],p=>rfl
 |f::r,p=>by have:=Ft r p;rw[av,av];simp[this]
theorem Xv(fs ts:List Str)(R:Option SV)(M:List NK)(n:Nat)(r:List Str)(hr:r.length<=100)(hM:M.length<=100):
  Gen.Ql [aA (.fz (.dK (Zv fs) (ts.map D.str))),R,aA (.ol (M.map Zs)),aA (.fz (.int (n:Int))),aA (.fz (Zy r))]=
  aA (.nx [aA (.fz (.dK (Zv fs) (ts.map D.str))),R,aA (.ol ((M++(match r.mapM (Yo fs ts)with|some l=>[(.inr ((n:Int),l):NK)]|none=>[])).map Zs)),aA (.fz (.int (n:Int))),aA (.fz (Zy r))]):=by
 have h1:=Sh fs ts 0 r hr;have b:=Ft r λf=>(Yo fs ts f).isSome;have z1:M.length<PySem.sizeLine:=Yt (by omega);unfold Gen.Ql;rw[Rt];by_cases h:∀f∈r,(Yo fs ts f).isSome
 ·have h2:=Si fs ts 0 r hr h;rw[if_pos h];have al:(r.map λf=>(Yo fs ts f).isSome).all id=aC:=by rw[List.all_map];exact g6.mpr λf hf=>h f hf
  generalize ts.map D.str=TS at*;generalize Zv fs=FS at*;simp[h1,h2,b,al,z1,s2,-Y7];unfold Zs;simp
 ·rw[if_neg h];have al:(r.map λf=>(Yo fs ts f).isSome).all id=aD:=by rw[List.all_map,Bool.eq_false_iff];exact λz=>h λf hf=>g6.mp z f hf
  generalize ts.map D.str=TS at*;generalize Zv fs=FS at*;simp[h1,b,al,z1,-Y7]
theorem Ei(fs ts:List Str)(R:Option SV):∀(rs:List (List Str)) (n:Nat) (M:List NK) (x3 x4:Option SV),(∀r∈rs,r.length<=100)->M.length+rs.length<=100->∃y3 y4,
  Yi (Wa 2 (Zu (Zg 3) (Zu (Zg 4) Wb))) Gen.Ql (((rs.map Zy).zipIdx n).map λp=>D.tup [.int (p.2:Nat),p.1]) [aA (.fz (.dK (Zv fs) (ts.map D.str))),R,aA (.ol (M.map Zs)),x3,x4]=
  aA (.nx [aA (.fz (.dK (Zv fs) (ts.map D.str))),R,aA (.ol ((M++Wc fs ts n rs).map Zs)),y3,y4])
 | [],n,M,x3,x4,_,_=>⟨x3,x4,by simp[Wc]⟩
 |r::rs,n,M,x3,x4,hr,hM=>by
  rw[bn]at hM;have t:=Xv fs ts R M n r (hr r ah) (by omega);obtain⟨y3,y4,ih⟩:=Ei fs ts R rs (n+1) (M++(match r.mapM (Yo fs ts)with|some l=>[(.inr ((n:Int),l):NK)]|none=>[])) (aA (.fz (.int (n:Int)))) (aA (.fz (Zy r))) (λq hq=>hr q (ar _ hq)) (by
   rw[bj];cases r.mapM (Yo fs ts)<;> simp<;> omega)
  refine⟨y3,y4,?_⟩;rw[av,List.zipIdx_cons,av,Wc];rw[gd]at ih;have e:∀δ,(Wa 2 (Zu (Zg 3) (Zu (Zg 4) Wb))).run (.tup [.int (n:Nat),Zy r]) [aA (.fz (.dK (Zv fs) (ts.map D.str))),R,aA (.ol (M.map Zs)),x3,x4]=aA δ->δ=[aA (.fz (.dK (Zv fs) (ts.map D.str))),R,aA (.ol (M.map Zs)),aA (.fz (.int (n:Int))),aA (.fz (Zy r))]:=λδ h=>by simpa using h.symm
  unfold Yi;generalize ts.map D.str=TS at*;generalize Zv fs=FS at*;rw[show(Wa 2 (Zu (Zg 3) (Zu (Zg 4) Wb))).run (.tup [.int (n:Nat),Zy r]) [aA (.fz (.dK FS TS)),R,aA (.ol (M.map Zs)),x3,x4]=aA [aA (.fz (.dK FS TS)),R,aA (.ol (M.map Zs)),aA (.fz (.int (n:Int))),aA (.fz (Zy r))]from by simp];dsimp only[b7];rw[t];exact ih
theorem marks_of(fs ts:List Str)(rs:List (List Str))(hr:∀r∈rs,r.length<=100)(hn:rs.length<=100):Gen.Ui [.dK (Zv fs) (ts.map D.str),.lst (rs.map Zy)]=aA (.ol ((Wc fs ts 0 rs).map Zs)):=by obtain⟨y3,y4,e⟩:=Ei fs ts (aA (.fz (.lst (rs.map Zy)))) rs 0 [] aB aB hr (by simpa using hn);rw[List.nil_append]at e;have e2:Qf (rs.map Zy)=(((rs.map Zy).zipIdx 0).map λp=>D.tup [.int (p.2:Nat),p.1]):=rfl;unfold Gen.Ui Gen.Gn;rw[<-e2]at e;generalize ts.map D.str=TS at*;generalize Zv fs=FS at*;generalize rs.map Zy=RS at*;generalize (Wc fs ts 0 rs).map Zs=MS at*;have e:Yi (Wa 2 (Zu (Zg 3) (Zu (Zg 4) Wb))) Gen.Ql (Qf RS) [aA (.fz (.dK FS TS)),aA (.fz (.lst RS)),aA (.ol []),aB,aB]=_:=e;simp[e,-Yi]
end My
namespace My
open DL PySem TT
structure Wk where
 key:Str
 kind:Str
 fs:List Str
 ts:List Str
structure WkOk(w:Wk):Prop where
 len:w.fs.length=w.ts.length
 nd:w.fs.Nodup
 few:w.fs.length<=10
 nk:Qx∉w.fs
abbrev Wk.at'(w:Wk):List Str:=w.fs++[Qx]
abbrev Wk.vt(w:Wk):List Str:=w.ts++[w.kind]
abbrev Wk.val(w:Wk)(f:Str):Str:=(Yo w.at' w.vt f).getD ""
abbrev Wk.d(w:Wk):D:=Zaf w.kind w.fs w.ts
abbrev Bl(b k:Str):NK:=.inl [b,k]
def Wk.tri(b:Str)(w:Wk):List Tri:=(w.at'.filter λf=>decide (f≠Qc)).map λf=>(f,w.val f,[Bl b w.key])
abbrev Wk.marks(rs:List (List Str))(w:Wk):List NK:=Wc w.at' w.vt 0 rs
def U4(b:Str)(rs:List (List Str))(w:Wk):HP:=⟨[Bl b w.key],w.marks rs,w.tri b⟩
theorem Ej:∀(fs ts:List Str) (f:Str),fs.length=ts.length->(f∈fs↔(Yo fs ts f).isSome=aC)
 | [],[],f,_=>by simp[Yo]
 | [],_::_,f,h=>by simp at h
 |_::_,[],f,h=>by simp at h
 |x::fs,t::ts,f,h=>by
  have ih:=Ej fs ts f (by simpa using h);unfold Yo at*;rw[List.zip_cons_cons,gz,bo,ih];by_cases e:f=x
  ·subst e;simp
  ·have:(f==x)=aD:=beq_eq_false_iff_ne.mpr e;rw[this];simp[e]
theorem Mj(fs ts:List Str)(nm:D)(hl:fs.length=ts.length):∀(xs:List Str) (zs:List D),(∀x∈xs,x∈fs)->zs.length+xs.length<=1000->
  Y7 [.own,.cap 3,.cap 0,.acc] 3 (Zg 0) Gen.W1 Gen.Q1 (xs.map D.str) [aB,aA (.fz (.dK (Zv fs) (ts.map D.str))),aA (.fz nm),aA (.ol zs)]=
  aA [aB,aA (.fz (.dK (Zv fs) (ts.map D.str))),aA (.fz nm),aA (.ol (zs++(xs.filter λf=>decide (f≠Qc)).map λf=>D.tup [.str f,.str ((Yo fs ts f).getD ""),.lst [nm]]))]
 | [],zs,_,_=>by simp
 |x::xs,zs,h,hz=>by
  rw[bn]at hz;obtain⟨v,hv⟩:=Option.isSome_iff_exists.mp ((Ej fs ts x hl).mp (h x ah));have l:=(Uc x fs (ts.map D.str)).trans (Jr fs ts x);rw[hv]at l;have z1:zs.length<PySem.sizeLine:=Yt (by omega);rw[av,List.filter_cons];unfold Y7;by_cases hx:x=Qc
  ·have ih:=Mj fs ts nm hl xs zs (λy hy=>h y (ar _ hy)) (by omega);rw[if_neg (by simp[hx])];generalize ts.map D.str=TS at*;generalize Zv fs=FS at*;rw[show Gen.W1=Y5 (Zt neX (Za 0) (Zh (.str "note")))from rfl]at*;simp[hx,-Y7,-look];simpa[-Y7,-look]using ih
  ·have ih:=Mj fs ts nm hl xs (zs++[D.tup [.str x,.str ((Yo fs ts x).getD ""),.lst [nm]]]) (λy hy=>h y (ar _ hy)) (by rw[bj];simp;omega);rw[if_pos (by simp[hx]),av];rw[gd]at ih;generalize ts.map D.str=TS at*;generalize Zv fs=FS at*;have e0:∀q,Gen.W1 [aA (SV.fz (D.str x)),aA (.fz (.dK FS TS)),aA (.fz nm),aA (.ol q)]=aA (aC,[aA (SV.fz (D.str x)),aA (.fz (.dK FS TS)),aA (.fz nm),aA (.ol q)]):=λq=>by unfold Gen.W1;simp[hx]
   have e1:∀q,Gen.Q1 [aA (SV.fz (D.str x)),aA (.fz (.dK FS TS)),aA (.fz nm),aA (.ol q)]=aA (.tmp (.fz (D.tup [.str x,.str v,.lst [nm]])),[aA (SV.fz (D.str x)),aA (.fz (.dK FS TS)),aA (.fz nm),aA (.ol q)]):=λq=>by unfold Gen.Q1;simp[l,s1,s3,-look]
   rw[hv]at ih⊢;simp[e0,e1,z1,-Y7,-look];simpa[-Y7,-look]using ih
theorem Fu(xs:List Str):(Zv xs).map R7=xs.map D.str:=by rw[bx];rfl
theorem lone_heap(b:Str)(rs:List (List Str))(w:Wk)(ok:WkOk w)(hr:∀r∈rs,r.length<=100)(hn:rs.length<=100):
  Gen.W9 [Zs (Bl b w.key),w.d,.lst (rs.map Zy)]=aA (.fz (Yr (U4 b rs w))):=by
 have o:Gen.W8 [w.d]=aA (.oK (Zv w.at') (w.vt.map D.str)):=own_texts w.kind w.fs w.ts ok.len (by have:=ok.len;have:=ok.few;omega) ok.nk;have hl:w.at'.length=w.vt.length:=by simp[ok.len]
 have m:=marks_of w.at' w.vt rs hr hn;have c:=Mj w.at' w.vt (Zs (Bl b w.key)) hl w.at' [] (λx hx=>hx) (by have:=ok.few;simp;omega);have ek:=Fu w.at';have el:(U4 b rs w).fs.map Wr=(w.at'.filter λf=>decide (f≠Qc)).map λf=>D.tup [.str f,.str (w.val f),.lst [Zs (Bl b w.key)]]:=by show(w.tri b).map Wr=_;unfold Wk.tri;rw[bx];rfl
 have en:(U4 b rs w).ns.map Zs=[Zs (Bl b w.key)]:=rfl;have em:(U4 b rs w).ms=w.marks rs:=rfl;unfold Gen.W9 Gen.Cb Yr;rw[el,en,em];rw[List.nil_append]at c;have ev:∀f,w.val f=(Yo w.at' w.vt f).getD "":=λ_=>rfl;generalize Zs (Bl b w.key)=NM at*;generalize hM:(w.marks rs).map Zs=MS at*;generalize w.d=W at*;generalize w.at'=AT at*;generalize w.vt=VT at*;generalize VT.map D.str=TS at*;generalize Zv AT=FS at*;simp[o,m,c,ek,s1,s3,hM,ev,-Y7,-look]
end My
namespace My
open DL PySem TT
abbrev Je(h:HP):List NK:=h.ns++h.ms
theorem Go:∀{ks:List NK} {k:NK},k∉ks->Jd ks k=aB
 | [],_,_=>rfl
 |a::ks,k,h=>by show(if a=k then aA 0 else(Jd ks k).map (· +1))=aB;rw[if_neg λz=>h (by rw[z];exact ah),Go λz=>h (ar _ z)];rfl
theorem Zag{δ:Yg}{i j:Nat}{fk:FE}{ext:Bool}{ks:List NK}{xss:List (List D)}{k:NK}{p:RV×Yg}{q:D×Yg}{d:D}{ys:List D}(h1:δ[i]? =aA (aA (.oX ks xss)))(h2:fk δ=aA p)(h3:frz p.1 p.2=aA q)(h4:nk? q.1=aA k)(h5:q.2[i]? =aA (aA (.oX ks xss)))(h6:q.2[j]? =aA (aA (.fz d)))
  (h7:(ext=aD/\ys=[d])\/(ext=aC/\d= .lst ys)) (h8:okX xss ys.length) (h9:k∉ks):Mu i fk j ext δ=aA (.nx (q.2.set i (aA (.oX (ks++[k]) (xss++[ys]))))):=by
 unfold Mu;rw[h1];dsimp only;rw[h2];dsimp only[b7];rw[h3];dsimp only[b7];rw[h4];dsimp only[b7];rw[h5,h6];dsimp only;rcases h7 with⟨rfl,rfl⟩|⟨rfl,rfl⟩
 ·rw[if_neg (by decide)];dsimp only[b7];rw[if_pos h8];unfold P4;rw[Go h9]
 ·rw[if_pos rfl];dsimp only[b7];rw[if_pos h8];unfold P4;rw[Go h9]
theorem Zgk{xss:List (List D)}{n B:Nat}(h1:xss.length<=10000)(h2:n<=10000)(h3:∀xs∈xss,xs.length<=10000):okX xss n:=
 ⟨Yt (by omega),Yt (by omega),λxs hx=>Yt (by have:=h3 xs hx;omega)⟩
theorem Sj(A:Option SV)(hd:Option SV)(n:Nat):∀(ts:List NK) (ks:List NK) (xss:List (List D)) (x4:Option SV),(ks++ts).Nodup->xss.length+ts.length<=10000->(∀xs∈xss,xs.length=1)->∃y4,
  Yi (Zg 4) Gen.Uf (ts.map Zs) [A,aA (.oX ks xss),aA (.fz (.int (n:Int))),hd,x4]=aA (.nx [A,aA (.oX (ks++ts) (xss++ts.map λ_=>[D.int (n:Int)])),aA (.fz (.int (n:Int))),hd,y4])
 | [],ks,xss,x4,_,_,_=>⟨x4,by simp⟩
 |t::ts,ks,xss,x4,nd,hz,h1=>by
  rw[bn]at hz;have e0:(ks++[t])++ts=ks++(t::ts):=by simp
  obtain⟨y4,ih⟩:=Sj A hd n ts (ks++[t]) (xss++[[.int (n:Int)]]) (aA (.fz (Zs t))) (by rw[e0];exact nd) (by rw[bj];simp;omega) (λxs hx=>by
   rcases cn.mp hx with z|z
   ·exact h1 xs z
   ·rw[au.mp z];rfl)
  refine⟨y4,?_⟩;have hn:t∉ks:=λz=>(di.mp nd).2.2 t z t ah rfl;have a:Gen.Uf [A,aA (.oX ks xss),aA (.fz (.int (n:Int))),hd,aA (.fz (Zs t))]=aA (.nx [A,aA (.oX (ks++[t]) (xss++[[.int (n:Int)]])),aA (.fz (.int (n:Int))),hd,aA (.fz (Zs t))]):=
   Zag (p:=(.tmp (.fz (Zs t)),[A,aA (.oX ks xss),aA (.fz (.int (n:Int))),hd,aA (.fz (Zs t))])) (q:=(Zs t,[A,aA (.oX ks xss),aA (.fz (.int (n:Int))),hd,aA (.fz (Zs t))])) (d:=.int (n:Int)) (ext:=aD) rfl rfl rfl (Md t) rfl rfl (.inl ⟨rfl,rfl⟩) (Zgk (B:=0) (by omega) (by simp) λxs hx=>by rw[h1 xs hx];decide) hn
  rw[av];unfold Yi;rw[show(Zg 4).run (Zs t) [A,aA (.oX ks xss),aA (.fz (.int (n:Int))),hd,x4]=aA [A,aA (.oX ks xss),aA (.fz (.int (n:Int))),hd,aA (.fz (Zs t))]from by simp];dsimp only[b7];rw[a];dsimp only[b7];rw[ih,e0];simp
def C2:Nat->List HP->List (List D)
 |_,[]=>[]
 |n,h::hs=>((Je h).map λ_=>[D.int (n:Int)])++C2 (n+1) hs
abbrev Ws(hs:List HP):List NK:=hs.flatMap Je
theorem Zbz(A:Option SV)(n:Nat)(h:HP)(ks:List NK)(xss:List (List D))(x4:Option SV)(nd:(ks++Je h).Nodup)(hz:xss.length+(Je h).length<=10000)(h1:∀xs∈xss,xs.length=1):∃y4,
  Gen.Qh [A,aA (.oX ks xss),aA (.fz (.int (n:Int))),aA (.fz (Yr h)),x4]=aA (.nx [A,aA (.oX (ks++Je h) (xss++(Je h).map λ_=>[D.int (n:Int)])),aA (.fz (.int (n:Int))),aA (.fz (Yr h)),y4]):=by
 obtain⟨y4,e⟩:=Sj A (aA (.fz (Yr h))) n (Je h) ks xss x4 nd hz h1;refine⟨y4,?_⟩;have zl:(h.ns.map Zs).length+(h.ms.map Zs).length<=PySem.sizeLine:=Qz (by rw[ao,ao];rw[bj]at hz;omega);have at1:∀a b c:D,L2.atI [a,b,c] 1=aA b:=λ_ _ _=>rfl;have at0:∀a b c:D,L2.atI [a,b,c] 0=aA a:=λ_ _ _=>rfl;rw[show(Je h).map Zs=h.ns.map Zs++h.ms.map Zs from cq]at e;unfold Gen.Qh;unfold Yr at e⊢;generalize h.ns.map Zs=NS at*;generalize h.ms.map Zs=MS at*;generalize h.fs.map Wr=TS at*;simp[at0,at1,zl,e,-Yi]
theorem Fv(A:Option SV):∀(hs:List HP) (n:Nat) (ks:List NK) (xss:List (List D)) (x2 x3 x4:Option SV),(ks++Ws hs).Nodup->xss.length+(Ws hs).length<=10000->(∀xs∈xss,xs.length=1)->∃y2 y3 y4,
  Yi (Wa 2 (Zu (Zg 2) (Zu (Zg 3) Wb))) Gen.Qh (((hs.map Yr).zipIdx n).map λp=>D.tup [.int (p.2:Nat),p.1]) [A,aA (.oX ks xss),x2,x3,x4]=aA (.nx [A,aA (.oX (ks++Ws hs) (xss++C2 n hs)),y2,y3,y4])
 | [],n,ks,xss,x2,x3,x4,_,_,_=>⟨x2,x3,x4,by simp[C2]⟩
 |h::hs,n,ks,xss,x2,x3,x4,nd,hz,h1=>by
  have nd:(ks++(Je h++Ws hs)).Nodup:=nd;have hz:xss.length+(Je h++Ws hs).length<=10000:=hz;rw[bj]at hz;rw[<-gd]at nd;obtain⟨z4,t⟩:=Zbz A n h ks xss x4 (di.mp nd).1 (by omega) h1;obtain⟨y2,y3,y4,ih⟩:=Fv A hs (n+1) (ks++Je h) (xss++(Je h).map λ_=>[D.int (n:Int)]) (aA (.fz (.int (n:Int)))) (aA (.fz (Yr h))) z4 nd (by rw[bj,ao];omega) (λxs hx=>by
   rcases cn.mp hx with z|z
   ·exact h1 xs z
   ·obtain⟨_,_,rfl⟩:=a6.mp z;rfl)
  refine⟨y2,y3,y4,?_⟩;rw[av,List.zipIdx_cons,av,C2];rw[show ks++Ws (h::hs)=ks++Je h++Ws hs from(gd ..).symm,<-gd xss];unfold Yi;rw[show(Wa 2 (Zu (Zg 2) (Zu (Zg 3) Wb))).run (.tup [.int (n:Nat),Yr h]) [A,aA (.oX ks xss),x2,x3,x4]=aA [A,aA (.oX ks xss),aA (.fz (.int (n:Int))),aA (.fz (Yr h)),x4]from by simp];dsimp only[b7];rw[t];exact ih
abbrev Bg(hs:List HP):D:=.dX (Ws hs) ((C2 0 hs).map D.lst)
theorem holders_of(hs:List HP)(nd:(Ws hs).Nodup)(hz:(Ws hs).length<=10000):Gen.Qi [.lst (hs.map Yr)]=aA (.fz (Bg hs)):=by obtain⟨y2,y3,y4,e⟩:=Fv (aA (.fz (.lst (hs.map Yr)))) hs 0 [] [] aB aB aB (by simpa using nd) (by simpa using hz) (λ_ z=>nomatch z);rw[show(((hs.map Yr).zipIdx 0).map λp=>D.tup [.int (p.2:Nat),p.1])=Qf (hs.map Yr)from rfl,List.nil_append,List.nil_append]at e;unfold Gen.Qi Gen.O6 Bg;generalize hs.map Yr=HS at*;generalize Ws hs=AT at*;generalize C2 0 hs=HX at*;simp[e,Fn,-Yi]
theorem Zjt{ks ls:List NK}{us vs:List D}(t:NK):ks.length=us.length->t∈ks->look (ks++ls) (us++vs) t=look ks us t:=by
 induction ks generalizing us with
 |nil=>intro _ h;cases h
 |cons k ks ih=>intro h ht;cases us with
  |nil=>simp at h
  |cons u us=>
   show(if k=t then aA u else look (ks++ls) (us++vs) t)=(if k=t then aA u else look ks us t)
   by_cases e:k=t
   ·rw[if_pos e,if_pos e]
   ·rw[if_neg e,if_neg e];rcases bo.mp ht with z|z
    ·exact absurd z.symm e
    ·exact ih (by simpa using h) z
theorem Zgl{ks ls:List NK}{us vs:List D}(t:NK):ks.length=us.length->t∉ks->look (ks++ls) (us++vs) t=look ls vs t:=by
 induction ks generalizing us with
 |nil=>intro h _;cases us with
  |nil=>rfl
  |cons=>simp at h
 |cons k ks ih=>intro h ht;cases us with
  |nil=>simp at h
  |cons u us=>show(if k=t then aA u else look (ks++ls) (us++vs) t)=_;rw[if_neg λz=>ht (by rw[z];exact ah)];exact ih (by simpa using h) λz=>ht (ar _ z)
theorem Gp(x:D):∀(ks:List NK) (t:NK),t∈ks->look ks (ks.map λ_=>x) t=aA x
 |k::ks,t,h=>by
  show(if k=t then aA x else look ks (ks.map λ_=>x) t)=_;by_cases e:k=t
  ·rw[if_pos e]
  ·rw[if_neg e];rcases bo.mp h with z|z
   ·exact absurd z.symm e
   ·exact Gp x ks t z
theorem Fw:∀(hs:List HP) (n i:Nat) (h:HP) (t:NK),(Ws hs).Nodup->hs[i]? =aA h->t∈Je h->look (Ws hs) ((C2 n hs).map D.lst) t=aA (.lst [.int ((n+i:Nat):Int)])
 | [],n,i,h,t,_,e,_=>by simp at e
 |g::hs,n,i,h,t,nd,e,ht=>by
  have hl:(Je g).length=(((Je g).map λ_=>[D.int (n:Int)]).map D.lst).length:=by simp
  rw[C2,cq,show Ws (g::hs)=Je g++Ws hs from rfl];have nd:(Je g++Ws hs).Nodup:=nd;cases i with
  |zero=>cases(show aA g=aA h from e);rw[Zjt t hl ht,bx];exact Gp _ _ _ ht
  |succ i=>have e:hs[i]? =aA h:=e;have hm:t∈Ws hs:=List.mem_flatMap.mpr ⟨h,cz e,ht⟩;rw[Zgl t hl λz=>(di.mp nd).2.2 t z t hm rfl,Fw hs (n+1) i h t (di.mp nd).2.1 e ht];rw[show n+1+i=n+(i+1) by omega]
end My
namespace My
open DL PySem TT
abbrev Fx(hs:List HP)(i:Nat)(l:List D)(x5 x6 x7:Option SV):Yg:=[aA (.fz (.lst (hs.map Yr))),aA (.fz (Bg hs)),aA (.fz (.int (i:Int))),aA (.oK [.inl (i:Int)] [.bl aC]),aA (.ol l),x5,x6,x7]
theorem Zb0(hs:List HP)(i:Nat)(h:HP)(t:NK)(x5 x7:Option SV)(nd:(Ws hs).Nodup)(e:hs[i]? =aA h)(ht:t∈Je h):
  Gen.Rp (Fx hs i [] x5 (aA (.fz (Zs t))) x7)=aA (.nx (Fx hs i [] x5 (aA (.fz (Zs t))) (aA (.fz (.int (i:Int)))))):=by
 have l:=Fw hs 0 i h t nd e ht;rw[Nat.zero_add]at l;have nk:=Md t;unfold Gen.Rp Gen.Se Fx Bg;generalize hs.map Yr=HS at*;generalize (C2 0 hs).map D.lst=HX at*;generalize Ws hs=AT at*;generalize Zs t=T at*;have l2:look [(Sum.inl (i:Int):L2.Key)] [D.bl aC] (Sum.inl (i:Int))=aA (.bl aC):=by simp
 simp[nk,l,l2,-look]
theorem Fy(hs:List HP)(i:Nat)(h:HP)(x5:Option SV)(nd:(Ws hs).Nodup)(e:hs[i]? =aA h):∀(ts:List NK) (x6 x7:Option SV),(∀t∈ts,t∈Je h)->∃y6 y7,
  Yi (Zg 6) Gen.Rp (ts.map Zs) (Fx hs i [] x5 x6 x7)=aA (.nx (Fx hs i [] x5 y6 y7))
 | [],x6,x7,_=>⟨x6,x7,by simp⟩
 |t::ts,x6,x7,ht=>by obtain⟨y6,y7,ih⟩:=Fy hs i h x5 nd e ts (aA (.fz (Zs t))) (aA (.fz (.int (i:Int)))) λu hu=>ht u (ar _ hu);refine⟨y6,y7,?_⟩;have a:=Zb0 hs i h t x5 x7 nd e (ht t ah);rw[av];unfold Yi;rw[show(Zg 6).run (Zs t) (Fx hs i [] x5 x6 x7)=aA (Fx hs i [] x5 (aA (.fz (Zs t))) x7)from by simp[Fx]];dsimp only[b7];rw[a];exact ih
theorem Zln{hs:List HP}{i:Nat}{h:HP}(e:hs[i]? =aA h):L2.atI (hs.map Yr) (i:Int)=aA (Yr h):=by
 have hl:i<hs.length:=by rcases gx i hs.length with z|z;exact z;rw[List.getElem?_eq_none z]at e;cases e
 have:L2.ixN hs.length (i:Int)=aA i:=by unfold L2.ixN;simp;omega
 unfold L2.atI;rw[ao,this];show(hs.map Yr)[i]? =_;rw[bf,e];rfl
theorem Zb1(hs:List HP)(i:Nat)(h:HP)(x5 x6 x7:Option SV)(nd:(Ws hs).Nodup)(hz:(Ws hs).length<=10000)(e:hs[i]? =aA h):∃y5 y6 y7,Gen.B8 (Fx hs i [.int (i:Int)] x5 x6 x7)=aA (.nx (Fx hs i [] y5 y6 y7)):=by
 obtain⟨y6,y7,l⟩:=Fy hs i h (aA (.fz (Yr h))) nd e (Je h) x6 x7 λ_ z=>z;refine⟨aA (.fz (Yr h)),y6,y7,?_⟩;have hm:=cz e;have hz2:(Je h).length<=10000:=d3 (by
  obtain⟨a,b,rfl⟩:=List.append_of_mem hm;simp[Ws];omega) hz
 have zl:(h.ns.map Zs).length+(h.ms.map Zs).length<=PySem.sizeLine:=Qz (by rw[ao,ao];rw[bj]at hz2;omega);have at1:∀a b c:D,L2.atI [a,b,c] 1=aA b:=λ_ _ _=>rfl;have at0:∀a b c:D,L2.atI [a,b,c] 0=aA a:=λ_ _ _=>rfl;have ai:=Zln e;rw[show(Je h).map Zs=h.ns.map Zs++h.ms.map Zs from cq]at l;unfold Gen.B8;unfold Fx at l⊢;unfold Yr at l ai⊢;have ai2:L2.atI (hs.map λh=>D.tup [.lst (h.ns.map Zs),.lst (h.ms.map Zs),.lst (h.fs.map Wr)]) (i:Int)=aA (D.tup [.lst (h.ns.map Zs),.lst (h.ms.map Zs),.lst (h.fs.map Wr)]):=ai;clear ai;generalize (hs.map λh=>D.tup [.lst (h.ns.map Zs),.lst (h.ms.map Zs),.lst (h.fs.map Wr)])=HS at*;generalize h.ns.map Zs=NS at*;generalize h.ms.map Zs=MS at*;generalize h.fs.map Wr=TS at*;generalize Bg hs=HD at*;simp[at0,at1,ai2,zl,l,-Yi]
theorem tied(hs:List HP)(i:Nat)(h:HP)(nd:(Ws hs).Nodup)(hz:(Ws hs).length<=10000)(e:hs[i]? =aA h):Gen.Eb [.lst (hs.map Yr),Bg hs,.int (i:Int)]=aA (.ol [.int (i:Int)]):=by
 obtain⟨y5,y6,y7,b⟩:=Zb1 hs i h aB aB aB nd hz e;have t1:Gen.Ug (Fx hs i [.int (i:Int)] aB aB aB)=aA (aC,Fx hs i [.int (i:Int)] aB aB aB):=by unfold Gen.Ug Fx;simp
 have t2:Gen.Ug (Fx hs i [] y5 y6 y7)=aA (aD,Fx hs i [] y5 y6 y7):=by unfold Gen.Ug Fx;simp
 have w:Jz Gen.Ug Gen.B8 Gen.Zof (Fx hs i [.int (i:Int)] aB aB aB)=aA (.nx (Fx hs i [] y5 y6 y7)):=by show Jz Gen.Ug Gen.B8 (998+1+1) _=_;unfold Jz;rw[t1];dsimp only[b7];rw[if_pos rfl,b];dsimp only[b7];unfold Jz;rw[t2];rfl
 unfold Gen.Eb Gen.Xp;unfold Fx at w;generalize hs.map Yr=HS at*;generalize Bg hs=HD at*;simp[w,s1]
end My
namespace My
open DL PySem TT TX
abbrev Yp(t:Tri):NK:=.inl [t.1,t.2.1]
abbrev jSt(A:Option SV)(ns ms:List D)(ks:List NK)(xss:List (List D))(h x5 x6 x7 x8:Option SV):Yg:=[A,aA (.ol ns),aA (.ol ms),aA (.oX ks xss),h,x5,x6,x7,x8]
theorem Fz(A h x8:Option SV)(ns ms:List D)(nm:NK):∀(fs:List Tri) (ks:List NK) (xss:List (List D)) (x5 x6 x7:Option SV),(ks++fs.map Yp).Nodup->xss.length+fs.length<=10000->(∀xs∈xss,xs.length=1)->(∀t∈fs,t.2.2=[nm])->∃y5 y6 y7,
  Yi (Wa 3 (Zu (Zg 5) (Zu (Zg 6) (Zu (Zg 7) Wb)))) Gen.Uh (fs.map Wr) (jSt A ns ms ks xss h x5 x6 x7 x8)=aA (.nx (jSt A ns ms (ks++fs.map Yp) (xss++fs.map λ_=>[Zs nm]) h y5 y6 y7 x8))
 | [],ks,xss,x5,x6,x7,_,_,_,_=>⟨x5,x6,x7,by simp⟩
 |t::fs,ks,xss,x5,x6,x7,nd,hz,h1,ht=>by
  rw[bn]at hz;have e0:(ks++[Yp t])++fs.map Yp=ks++(t::fs).map Yp:=by simp
  have et:=ht t ah;obtain⟨y5,y6,y7,ih⟩:=Fz A h x8 ns ms nm fs (ks++[Yp t]) (xss++[[Zs nm]]) (aA (.fz (.str t.1))) (aA (.fz (.str t.2.1))) (aA (.fz (.lst [Zs nm]))) (by rw[e0];exact nd) (by rw[bj];simp;omega) (λxs hx=>by
   rcases cn.mp hx with z|z
   ·exact h1 xs z
   ·rw[au.mp z];rfl) λu hu=>ht u (ar _ hu)
  refine⟨y5,y6,y7,?_⟩;have hn:Yp t∉ks:=λz=>(di.mp nd).2.2 _ z (Yp t) (by simp) rfl;have a:Gen.Uh (jSt A ns ms ks xss h (aA (.fz (.str t.1))) (aA (.fz (.str t.2.1))) (aA (.fz (.lst [Zs nm]))) x8)=aA (.nx (jSt A ns ms (ks++[Yp t]) (xss++[[Zs nm]]) h (aA (.fz (.str t.1))) (aA (.fz (.str t.2.1))) (aA (.fz (.lst [Zs nm]))) x8)):=
   Zag (p:=(.tmp (.fz (.tup [.str t.1,.str t.2.1])),jSt A ns ms ks xss h (aA (.fz (.str t.1))) (aA (.fz (.str t.2.1))) (aA (.fz (.lst [Zs nm]))) x8)) (q:=(.tup [.str t.1,.str t.2.1],jSt A ns ms ks xss h (aA (.fz (.str t.1))) (aA (.fz (.str t.2.1))) (aA (.fz (.lst [Zs nm]))) x8)) (d:=.lst [Zs nm]) (ys:=[Zs nm]) (ext:=aC) (k:=Yp t) rfl (by simp[s2]) rfl (Md (Yp t)) rfl rfl (.inr ⟨rfl,rfl⟩) (Zgk (B:=0) (by omega) (by simp) λxs hx=>by rw[h1 xs hx];decide) hn
  rw[av];unfold Yi;rw[show(Wa 3 (Zu (Zg 5) (Zu (Zg 6) (Zu (Zg 7) Wb)))).run (Wr t) (jSt A ns ms ks xss h x5 x6 x7 x8)=aA (jSt A ns ms ks xss h (aA (.fz (.str t.1))) (aA (.fz (.str t.2.1))) (aA (.fz (.lst [Zs nm]))) x8)from by simp[et]];dsimp only[b7];rw[a];dsimp only[b7];rw[ih,e0];simp
theorem Zb2(A x8:Option SV)(nm:NK)(hp:HP)(nd:(hp.fs.map Yp).Nodup)(hz:hp.fs.length<=10000)(hz1:hp.ns.length<=10000)(hz2:hp.ms.length<=10000)(ht:∀t∈hp.fs,t.2.2=[nm])(x5 x6 x7:Option SV):∃y5 y6 y7,
  Gen.Qj (jSt A [] [] [] [] (aA (.fz (Yr hp))) x5 x6 x7 x8)=aA (.nx (jSt A (hp.ns.map Zs) (hp.ms.map Zs) (hp.fs.map Yp) (hp.fs.map λ_=>[Zs nm]) (aA (.fz (Yr hp))) y5 y6 y7 x8)):=by
 obtain⟨y5,y6,y7,l⟩:=Fz A (aA (.fz (Yr hp))) x8 (hp.ns.map Zs) (hp.ms.map Zs) nm hp.fs [] [] x5 x6 x7 (by simpa using nd) (by simpa using hz) (λ_ z=>nomatch z) ht;refine⟨y5,y6,y7,?_⟩;rw[List.nil_append,List.nil_append]at l;have z1:(hp.ns.map Zs).length<=PySem.sizeLine:=Qz (by rw[ao];omega);have z2:(hp.ms.map Zs).length<=PySem.sizeLine:=Qz (by rw[ao];omega);have at2:∀a b c:D,L2.atI [a,b,c] 2=aA c:=λ_ _ _=>rfl;have at1:∀a b c:D,L2.atI [a,b,c] 1=aA b:=λ_ _ _=>rfl;have at0:∀a b c:D,L2.atI [a,b,c] 0=aA a:=λ_ _ _=>rfl;unfold Gen.Qj;unfold jSt at l⊢;unfold Yr at l⊢;generalize (hp.fs.map λ_=>[Zs nm])=XS at*;generalize hp.fs.map Yp=KS at*;generalize hp.ns.map Zs=NS at*;generalize hp.ms.map Zs=MS at*;generalize hp.fs.map Wr=TS at*;simp[at0,at1,at2,z1,z2,l,-Yi]
def Zgm(nm:D):D->D
 | .tup [.str a,.str b]=>.tup [.str a,.str b,.lst [nm]]
 |_=>.non
theorem Zai(x:Str)(l:List Str):Ms [.inl (x::l)]=aA (.ol [Zs (.inl (x::l))]):=
 Zge (ks:=[.inl (x::l)]) (out:=[.inl (x::l)]) (.inl λk hk=>⟨x,l,au.mp hk⟩) (by simp) (λ_=>Iff.rfl) (List.pairwise_singleton _ _)
theorem Zb3(b k:Str)(fs:List Tri)(hz:fs.length<=10000)(nd:(fs.map Yp).Nodup)(ht:∀t∈fs,t.2.2=[Bl b k]):
  Y7 [.own,.cap 3,.acc] 2 (Zg 0) Q5 Gen.Qk ((fs.map Yp).map Zs) [aB,aA (.fz (.dX (fs.map Yp) ((fs.map λ_=>[Zs (Bl b k)]).map D.lst))),aA (.ol [])]=
  aA [aB,aA (.fz (.dX (fs.map Yp) ((fs.map λ_=>[Zs (Bl b k)]).map D.lst))),aA (.ol (fs.map Wr))]:=by
 have c:=Rn (te:=Gen.Qk) (f:=Zgm (Zs (Bl b k))) (c:=aA (.fz (.dX (fs.map Yp) ((fs.map λ_=>[Zs (Bl b k)]).map D.lst)))) (j:=3) ((fs.map Yp).map Zs) [] (λx hx zs=>by
  rw[bx]at hx;obtain⟨t,h,rfl⟩:=a6.mp hx;have l:=Gp (.lst [Zs (Bl b k)]) (fs.map Yp) (Yp t) (List.mem_map_of_mem h);rw[bx]at l;rw[show((fs.map λ_=>[Zs (Bl b k)]).map D.lst)=fs.map ((λ_=>D.lst [Zs (Bl b k)])∘Yp)from by rw[bx];rfl];have nk:=Md (Yp t);have s:=Zai b [k];have sd:Cz [.lst [Zs (Bl b k)]]=aA (.ol [Zs (Bl b k)]):=(Me [Bl b k]).trans s;have at1:∀a b:D,L2.atI [a,b] 1=aA b:=λ_ _=>rfl;have at0:∀a b:D,L2.atI [a,b] 0=aA a:=λ_ _=>rfl;have ek:(Zs∘Yp) t= .tup [.str t.1,.str t.2.1]:=rfl;have ef:Zgm (Zs (Bl b k)) (.tup [.str t.1,.str t.2.1])= .tup [.str t.1,.str t.2.1,.lst [Zs (Bl b k)]]:=rfl;rw[ek,ef];have nk:nk? (.tup [.str t.1,.str t.2.1])=aA (Yp t):=nk;unfold Gen.Qk;generalize fs.map ((λ_=>D.lst [Zs (Bl b k)])∘Yp)=XS at*;generalize fs.map Yp=KS at*;generalize Zs (Bl b k)=NM at*;generalize Yp t=P at*;simp[at0,at1,nk,l,sd,s3,-look]) (by simp;omega)
 have e:((fs.map Yp).map Zs).map (Zgm (Zs (Bl b k)))=fs.map Wr:=by rw[bx,bx];refine fg λt h=>?_;show D.tup [.str t.1,.str t.2.1,.lst [Zs (Bl b k)]]=Wr t;unfold Wr;rw[ht t h];rfl
 rw[c,List.nil_append,e]
theorem Zgn(b k:Str)(hp:HP)(out:List Tri)(nd:(hp.fs.map Yp).Nodup)(hz:hp.fs.length<64)(hz2:hp.ms.length<64)(ht:∀t∈hp.fs,t.2.2=[Bl b k])(hn:hp.ns=[Bl b k])
  (hm:∀m∈hp.ms,isM m) (hs:hp.ms.Pairwise λa b=>Gj a<Gj b) (ho:out.Perm hp.fs) (hos:out.Pairwise λa b=>¬Bk b<Bk a):
  Gen.Yu [.lst [Yr hp]]=aA (.fz (Yr ⟨hp.ns,hp.ms,out⟩)):=by
 obtain⟨y5,y6,y7,t⟩:=Zb2 (aA (.fz (.lst [Yr hp]))) aB (Bl b k) hp nd (by omega) (by rw[hn];simp) (by omega) ht aB aB aB;have c:=Zb3 b k hp.fs (by omega) nd ht;have m1:Cz [.lst (hp.ns.map Zs)]=aA (.ol (hp.ns.map Zs)):=by rw[hn];exact(Me [Bl b k]).trans (Zai b [k])
 have m2:Cz [.lst (hp.ms.map Zs)]=aA (.ol (hp.ms.map Zs)):=(Me hp.ms).trans (Zge (.inr hm) hz2 (λ_=>Iff.rfl) hs);have nde:(hp.fs.map Bk).Nodup:=by refine df.mpr ((df.mp nd).imp fun{x y} h e=>h ?_);obtain⟨e1,e2⟩:=Zgg e;show(Sum.inl [x.1,x.2.1]:NK)=Sum.inl [y.1,y.2.1];rw[e1,e2]
 have m3:Aq [.lst (hp.fs.map Wr)]=aA (.ol (out.map Wr)):=Zjr (λt h k' hk=>by rw[ht t h]at hk;exact⟨b,[k],au.mp hk⟩) nde hz ho hos;have f:Yi (Zg 4) Gen.Qj [Yr hp] [aA (.fz (.lst [Yr hp])),aA (.ol []),aA (.ol []),aA (.oX [] []),aB,aB,aB,aB,aB]=aA (.nx (jSt (aA (.fz (.lst [Yr hp]))) (hp.ns.map Zs) (hp.ms.map Zs) (hp.fs.map Yp) (hp.fs.map λ_=>[Zs (Bl b k)]) (aA (.fz (Yr hp))) y5 y6 y7 aB)):=by unfold Yi;rw[show(Zg 4).run (Yr hp) [aA (.fz (.lst [Yr hp])),aA (.ol []),aA (.ol []),aA (.oX [] []),aB,aB,aB,aB,aB]=aA (jSt (aA (.fz (.lst [Yr hp]))) [] [] [] [] (aA (.fz (Yr hp))) aB aB aB aB)from by simp];dsimp only[b7];rw[t];rfl
 unfold Gen.Yu Gen.O7;rw[show Yr ⟨hp.ns,hp.ms,out⟩=D.tup [.lst (hp.ns.map Zs),.lst (hp.ms.map Zs),.lst (out.map Wr)]from rfl];unfold jSt at f;generalize Yr hp=HPD at*;generalize (hp.fs.map λ_=>[Zs (Bl b k)])=XS at*;generalize hp.fs.map Yp=KS at*;generalize hp.ns.map Zs=NS at*;generalize hp.ms.map Zs=MS at*;generalize hp.fs.map Wr=TS at*;generalize out.map Wr=OS at*;simp[f,c,m1,m2,m3,s3,Fn,-Yi,-Y7]
end My
namespace My
open DL PySem TT TX
theorem s0:0<PySem.sizeLine:=by decide
abbrev Ru(i:Nat):List L2.Key:=(cr i).map λk:Nat=>.inl (k:Int)
abbrev Rv(i:Nat):List D:=(cr i).map λ_=>.bl aC
theorem Ek:∀{ks:List L2.Key} {vs:List D} {k:L2.Key},k∉ks->look ks vs k=aB
 | [],vs,k,_=>by cases vs<;> rfl
 |a::ks,[],k,_=>rfl
 |a::ks,v::vs,k,h=>by show(if a=k then aA v else look ks vs k)=aB;rw[if_neg λz=>h (by rw[z];exact ah),Ek λz=>h (ar _ z)]
theorem Sk(i:Nat):(Sum.inl (i:Int):L2.Key)∉Ru i:=λz=>by obtain⟨k,hk,e⟩:=a6.mp z;have:=cw.mp hk;have e:=Sum.inl.inj e;omega
abbrev gSt(hs:List HP)(P:List D)(i:Nat)(x4 x5 x6:Option SV):Yg:=[aA (.fz (.lst (hs.map Yr))),aA (.fz (Bg hs)),aA (.ol P),aA (.oK (Ru i) (Rv i)),x4,x5,x6]
theorem Sl(hs:List HP)(P:List D)(i:Nat)(h j:HP)(x5 x6:Option SV)(nd:(Ws hs).Nodup)(hz:(Ws hs).length<=10000)(e:hs[i]? =aA h)(hj:Gen.Yu [.lst [Yr h]]=aA (.fz (Yr j)))(hP:P.length<=1000)(hi:i<=1000):∃y5 y6,
  Gen.Qu (gSt hs P i (aA (.fz (.int (i:Int)))) x5 x6)=aA (.nx (gSt hs (P++[Yr j]) (i+1) (aA (.fz (.int (i:Int)))) y5 y6)):=by
 refine⟨aA (.fz (.lst [.int (i:Int)])),aA (.fz (.int (i:Int))),?_⟩;have t:=tied hs i h nd hz e;have ai:=Zln e;have l:look (Ru i) (Rv i) (Sum.inl (i:Int))=aB:=Ek (Sk i);have p:Wh (Ru i) (Rv i) (Sum.inl (i:Int)) (.bl aC)=(Ru (i+1),Rv (i+1)):=by unfold Wh;rw[if_neg (Sk i)];unfold Ru Rv;rw[List.range_succ,cq,cq];rfl
 have z1:(Rv i).length<PySem.sizeLine:=Yt (by simp;omega);have z2:P.length<PySem.sizeLine:=Yt (by omega);unfold Gen.Qu Gen.Ec Gen.Ed gSt;generalize hs.map Yr=HS at*;generalize Bg hs=HD at*;generalize Yr h=HH at*;rw[show Yr j= .tup [.lst (j.ns.map Zs),.lst (j.ms.map Zs),.lst (j.fs.map Wr)]from rfl]at*;generalize [D.lst (j.ns.map Zs),.lst (j.ms.map Zs),.lst (j.fs.map Wr)]=HJ at*;generalize Ru (i+1)=SK' at*;generalize Rv (i+1)=SV' at*;generalize Ru i=SK at*;generalize Rv i=SV0 at*;simp[t,ai,l,p,hj,z1,z2,s0,s1,-look,-Wh]
section
variable{α:Type}
theorem Sm(ws:List α)(f jn:α->HP)(nd:(Ws (ws.map f)).Nodup)(hz:(Ws (ws.map f)).length<=10000)(hl:ws.length<=1000)(hj:∀w∈ws,Gen.Yu [.lst [Yr (f w)]]=aA (.fz (Yr (jn w)))):
  ∃y4 y5 y6,Yi (Zg 4) Gen.Qu (Xk 0 ws.length) (gSt (ws.map f) [] 0 aB aB aB)=aA (.nx (gSt (ws.map f) (ws.map λw=>Yr (jn w)) ws.length y4 y5 y6)):=by
 obtain⟨δ',e,y4,y5,y6,hy⟩:=Ci (tg:=Zg 4) (body:=Gen.Qu) (P:=λi δ=>∃y4 y5 y6,δ=gSt (ws.map f) ((ws.take i).map λh=>Yr (jn h)) i y4 y5 y6) ws.length 0 (gSt (ws.map f) [] 0 aB aB aB) ⟨aB,aB,aB,rfl⟩ (λi _ hi δ ⟨y4,y5,y6,hy⟩=>by
  subst hy;rw[Nat.zero_add]at hi;have e0:ws[i]? =aA ws[i]:=az hi;have e:(ws.map f)[i]? =aA (f ws[i]):=by rw[bf,e0];rfl
  obtain⟨z5,z6,t⟩:=Sl (ws.map f) ((ws.take i).map λh=>Yr (jn h)) i (f ws[i]) (jn ws[i]) y5 y6 nd hz e (hj _ (List.getElem_mem hi)) (by rw[ao,gm];omega) (by omega);refine⟨gSt (ws.map f) ((ws.take i).map λh=>Yr (jn h)) i (aA (.fz (.int (i:Int)))) y5 y6,_,by simp[gSt],t,aA (.fz (.int (i:Int))),z5,z6,?_⟩;rw[List.take_succ,e0,cq];rfl)
 subst hy;rw[Nat.zero_add,List.take_length]at e;exact⟨y4,y5,y6,e⟩
theorem joined(ws:List α)(f jn:α->HP)(out:List HP)(nd:(Ws (ws.map f)).Nodup)(hz:(Ws (ws.map f)).length<=10000)(hl:ws.length<64)(hj:∀w∈ws,Gen.Yu [.lst [Yr (f w)]]=aA (.fz (Yr (jn w))))
  (ok:∀h∈ws,HPok (jn h)) (nde:((ws.map jn).map Ob).Nodup) (ho:out.Perm (ws.map jn)) (hos:out.Pairwise λa b=>¬Ob b<Ob a):Gen.B9 [.lst ((ws.map f).map Yr)]=aA (.ol (out.map Yr)):=by
 obtain⟨y4,y5,y6,l⟩:=Sm ws f jn nd hz (by omega) hj;have hd:=holders_of (ws.map f) nd hz;have g1:K7 (ws.length:Int):=Tw (by omega);have et:((ws.length:Int)).toNat=ws.length:=by omega
 have s:=Zoe (hs:=ws.map jn) (out:=out) (λh hh=>by obtain⟨a,ha,rfl⟩:=a6.mp hh;exact ok a ha) nde (by rw[ao];exact hl) ho hos;rw[bx]at s;have s:Aq [.lst (ws.map λh=>Yr (jn h))]=aA (.ol (out.map Yr)):=s;have l:Yi (Zg 4) Gen.Qu (Xk 0 ws.length) [aA (.fz (.lst ((ws.map f).map Yr))),aA (.fz (Bg (ws.map f))),aA (.ol []),aA (.oK [] []),aB,aB,aB]=_:=l;have el:((ws.map f).map Yr).length=ws.length:=by rw[ao,ao]
 unfold Gen.B9 Gen.Ee;unfold gSt Bg at l;unfold Bg at hd;generalize (ws.map λh=>Yr (jn h))=PS at*;generalize Ru ws.length=SK at*;generalize Rv ws.length=SV0 at*;generalize (ws.map f).map Yr=HS at*;generalize Ws (ws.map f)=AT at*;generalize (C2 0 (ws.map f)).map D.lst=HX at*;generalize out.map Yr=OS at*;generalize ws.length=N at*;simp[hd,l,s,g1,el,et,Mf,-Yi]
end
end My
namespace My
open DL PySem TT TX
abbrev Yv(ws:List Wk):D:=.dK (Zv (ws.map Wk.key)) (ws.map Wk.d)
theorem El{ws:List Wk}(nd:(ws.map Wk.key).Nodup){w:Wk}(h:w∈ws):look (Zv (ws.map Wk.key)) (ws.map Wk.d) (b8 w.key)=aA w.d:=by rw[Uc];obtain⟨i,hi,rfl⟩:=dz h;exact Sb nd (by simp) i _ _ (by simp[hi]) (by simp[hi])
theorem Ka(b:Str)(rs:List (List Str))(ws:List Wk)(nd:(ws.map Wk.key).Nodup)(ok:∀w∈ws,WkOk w)(hr:∀r∈rs,r.length<=100)(hn:rs.length<=100):∀(xs:List Wk) (zs:List D),(∀x∈xs,x∈ws)->zs.length+xs.length<=1000->
  Y7 [.own,.cap 2,.cap 0,.cap 1,.acc] 4 (Zg 0) Q5 Gen.Ut ((xs.map Wk.key).map D.str) [aB,aA (.fz (.lst (rs.map Zy))),aA (.fz (.str b)),aA (.fz (Yv ws)),aA (.ol zs)]=
  aA [aB,aA (.fz (.lst (rs.map Zy))),aA (.fz (.str b)),aA (.fz (Yv ws)),aA (.ol (zs++(xs.map (U4 b rs)).map Yr))]
 | [],zs,_,_=>by simp
 |x::xs,zs,h,hz=>by
  rw[bn]at hz;have ih:=Ka b rs ws nd ok hr hn xs (zs++[Yr (U4 b rs x)]) (λy hy=>h y (ar _ hy)) (by rw[bj];simp;omega);have hx:=h x ah;have l:=El nd hx;have lo:Gen.W9 [.tup [.str b,.str x.key],x.d,.lst (rs.map Zy)]=aA (.fz (Yr (U4 b rs x))):=lone_heap b rs x (ok x hx) hr hn;have z1:zs.length<PySem.sizeLine:=Yt (by omega);rw[gd]at ih;rw[av,av,av,av];have e1:∀q,Gen.Ut [aA (.fz (.str x.key)),aA (.fz (.lst (rs.map Zy))),aA (.fz (.str b)),aA (.fz (Yv ws)),aA (.ol q)]=aA (.tmp (.fz (Yr (U4 b rs x))),[aA (.fz (.str x.key)),aA (.fz (.lst (rs.map Zy))),aA (.fz (.str b)),aA (.fz (Yv ws)),aA (.ol q)]):=λq=>by unfold Gen.Ut;unfold Yv;unfold Yr at lo⊢;generalize [D.lst ((U4 b rs x).ns.map Zs),.lst ((U4 b rs x).ms.map Zs),.lst ((U4 b rs x).fs.map Wr)]=HH at*;generalize x.d=XD at*;generalize ws.map Wk.d=WD at*;generalize Zv (ws.map Wk.key)=WK at*;generalize rs.map Zy=RD at*;simp[l,lo,s2,-look]
  unfold Yv at e1 ih⊢;generalize Yr (U4 b rs x)=HH at*;generalize ws.map Wk.d=WD at*;generalize Zv (ws.map Wk.key)=WK at*;generalize rs.map Zy=RD at*;unfold Y7;simp[e1,z1,-Y7];simpa[-Y7]using ih
abbrev Wk.srt(w:Wk):List Str:=(Ub w.at').filter λf=>decide (f≠Qc)
def Wf(b:Str)(rs:List (List Str))(w:Wk):HP:=⟨[Bl b w.key],w.marks rs,w.srt.map λf=>(f,w.val f,[Bl b w.key])⟩
theorem Zlo{w:Wk}(ok:WkOk w):w.at'.Nodup:=di.mpr ⟨ok.nd,by simp,λa ha c hc e=>ok.nk (by rw[<-au.mp hc,<-e];exact ha)⟩
theorem Qm:∀(fs ts:List Str) (rs:List (List Str)) (n:Nat),∀m∈Wc fs ts n rs,∃(j:Nat) (l:List Str),m= .inr ((j:Int),l)/\n<=j/\∃r,rs[j- n]? =aA r/\r.mapM (Yo fs ts)=aA l
 |fs,ts,[],n,m,h=>nomatch h
 |fs,ts,r::rs,n,m,h=>by
  rw[Wc]at h;rcases cn.mp h with z|z
  ·cases e:r.mapM (Yo fs ts)with
   |none=>rw[e]at z;cases z
   |some l=>rw[e]at z;exact⟨n,l,au.mp z,a8 _,r,by simp,e⟩
  ·obtain⟨j,l,e,hj,r',h1,h2⟩:=Qm fs ts rs (n+1) m z;refine⟨j,l,e,by omega,r',?_,h2⟩;rw[show j- n=(j- (n+1))+1 by omega];exact h1
theorem Gq:∀(fs ts:List Str) (rs:List (List Str)) (n:Nat),(Wc fs ts n rs).Pairwise λa b=>Gj a<Gj b
 |fs,ts,[],n=>.nil
 |fs,ts,r::rs,n=>by
  rw[Wc];refine List.pairwise_append.mpr ⟨?_,Gq fs ts rs (n+1),λa ha c hc=>?_⟩
  ·cases r.mapM (Yo fs ts)with
   |none=>exact .nil
   |some l=>exact List.pairwise_singleton _ _
  ·obtain⟨j,l,rfl,hj,_⟩:=Qm fs ts rs (n+1) c hc;cases e:r.mapM (Yo fs ts)with
   |none=>rw[e]at ha;cases ha
   |some l'=>rw[e]at ha;rw[au.mp ha];show(((n:Int)).toNat::Ud l')<(((j:Int)).toNat::Ud l);rw[dj];exact .inl (by omega)
theorem Ml:∀(fs ts:List Str) (rs:List (List Str)) (n:Nat),(Wc fs ts n rs).length<=rs.length
 |fs,ts,[],n=>a8 _
 |fs,ts,r::rs,n=>by rw[Wc,bj,bn];have:=Ml fs ts rs (n+1);cases r.mapM (Yo fs ts)<;> simp<;> omega
theorem Zb4(b:Str)(rs:List (List Str))(w:Wk)(ok:WkOk w)(hn:rs.length<64):Gen.Yu [.lst [Yr (U4 b rs w)]]=aA (.fz (Yr (Wf b rs w))):=by
 have nf:(w.at'.filter λf=>decide (f≠Qc)).Nodup:=(Zlo ok).filter _;have ns:w.srt.Nodup:=((Y0 w.at').nodup_iff.mpr (Zlo ok)).filter _;refine Zgn b w.key (U4 b rs w) (Wf b rs w).fs ?_ ?_ ?_ ?_ rfl ?_ ?_ ?_ ?_
 ·show((w.tri b).map Yp).Nodup;unfold Wk.tri;rw[bx];refine df.mpr (nf.imp fun{x y} h e=>h ?_);have e:=Sum.inl.inj e;exact(List.cons.inj e).1
 ·show(w.tri b).length<64;unfold Wk.tri;rw[ao];have:=List.length_filter_le (λf=>decide (f≠Qc)) w.at';have h2:w.at'.length=w.fs.length+1:=by simp
  have:=ok.few;omega
 ·exact Nat.lt_of_le_of_lt (Ml _ _ _ _) hn
 ·intro t ht;obtain⟨f,_,rfl⟩:=a6.mp (show t∈w.tri b from ht);rfl
 ·intro m hm;obtain⟨j,l,e,_⟩:=Qm _ _ _ _ m (show m∈w.marks rs from hm);exact⟨j,l,e⟩
 ·exact Gq _ _ _ _
 ·exact(((Y0 w.at').filter _).map _)
 ·refine df.mpr ?_;have p:=(List.Pairwise.filter (λf=>decide (f≠Qc)) (Ls w.at')).and ns;refine p.imp fun{x y} ⟨h1,h2⟩ e=>?_;have h1:=of_decide_eq_true h1;unfold Bk at e;rw[Az]at e;rcases e with z|⟨z,_⟩
  ·exact h1 z
  ·exact h2 (Gi z).symm
theorem Sn(b:Str)(rs:List (List Str))(w:Wk):HPok (Wf b rs w):=by
 refine⟨(λz=>nomatch z),λk hk=>⟨b,[w.key],au.mp hk⟩,λm hm=>?_,λt ht k hk=>?_⟩
 ·obtain⟨j,l,e,_⟩:=Qm _ _ _ _ m (show m∈w.marks rs from hm);exact⟨j,l,e⟩
 ·obtain⟨f,_,rfl⟩:=a6.mp ht;exact⟨b,[w.key],au.mp hk⟩
end My
namespace My
open DL PySem TT TX
def Mm(ws:List Wk)(k:Str):Wk:=(ws.find? λw=>decide (w.key=k)).getD ⟨"","",[],[]⟩
theorem Em:∀{ws:List Wk} {w:Wk},(ws.map Wk.key).Nodup->w∈ws->Mm ws w.key=w
 |v::ws,w,nd,h=>by
  unfold Mm;rw[List.find?_cons];obtain⟨n1,n2⟩:=fq.mp nd;rcases bo.mp h with z|z
  ·subst z;simp
  ·have hn:¬v.key=w.key:=λe=>n1 (by rw[e];exact List.mem_map_of_mem z);rw[decide_eq_false hn];exact Em n2 z
structure Shf(rs:List (List Str))(ws:List Wk):Prop where
 nd:(ws.map Wk.key).Nodup
 ok:∀w∈ws,WkOk w
 few:ws.length<=20
 apart:ws.Pairwise λa b=>∀m∈a.marks rs,m∉b.marks rs
structure Rls(rs:List (List Str)):Prop where
 few:rs.length<=60
 len:∀r∈rs,r.length<=100
def Rw(b:Str)(rs:List (List Str))(ws:List Wk):List HP:=(Ub (ws.map Wk.key)).map λk=>Wf b rs (Mm ws k)
theorem Zaj(b:Str)(rs:List (List Str))(hr:rs.length<=60):∀ws:List Wk,(Ws (ws.map (U4 b rs))).length<=61*ws.length
 | []=>by simp
 |w::ws=>by
  have ih:=Zaj b rs hr ws;have m:(w.marks rs).length<=_:=Ml w.at' w.vt rs 0;show(Je (U4 b rs w)++Ws (ws.map (U4 b rs))).length<=_;have e:(Je (U4 b rs w)).length=1+(w.marks rs).length:=by show([_]++w.marks rs).length=_;simp;omega
  rw[bj,bn,e];omega
theorem Zgo(rs:List (List Str))(w:Wk):(w.marks rs).Nodup:=(Gq w.at' w.vt rs 0).imp fun{a b} h e=>by subst e;exact List.lt_irrefl _ h
theorem Zom(b:Str)(rs:List (List Str))(ws:List Wk)(h:Shf rs ws):(Ws (ws.map (U4 b rs))).Nodup:=by
 refine List.pairwise_flatMap.mpr ⟨λx hx=>?_,df.mpr ?_⟩
 ·obtain⟨w,hw,rfl⟩:=a6.mp hx;show([Bl b w.key]++w.marks rs).Nodup;refine di.mpr ⟨by simp,Zgo rs w,λa ha c hc e=>?_⟩;obtain⟨j,l,z,_⟩:=Qm _ _ _ _ c hc;rw[au.mp ha,z]at e;cases e
 ·have p:=h.apart.and (df.mp h.nd);refine p.imp fun{v w} ⟨h1,h2⟩ x hx y hy e=>?_;have hx:x∈[Bl b v.key]++v.marks rs:=hx;have hy:y∈[Bl b w.key]++w.marks rs:=hy;subst e;rcases cn.mp hx with z|z
  ·rw[au.mp z]at hy;rcases cn.mp hy with z2|z2
   ·have:=au.mp z2;have:=Sum.inl.inj this;exact h2 (List.cons.inj (List.cons.inj this).2).1
   ·obtain⟨j,l,z,_⟩:=Qm _ _ _ _ _ z2;cases z
  ·rcases cn.mp hy with z2|z2
   ·obtain⟨j,l,z3,_⟩:=Qm _ _ _ _ _ z;rw[au.mp z2]at z3;cases z3
   ·exact h1 x z z2
theorem Zgp(b:Str)(rs:List (List Str))(ws:List Wk)(nd:(ws.map Wk.key).Nodup):(Rw b rs ws).Perm (ws.map (Wf b rs)):=by
 have p:=(Y0 (ws.map Wk.key)).map λk=>Wf b rs (Mm ws k);rw[bx]at p;have e:ws.map ((λk=>Wf b rs (Mm ws k))∘Wk.key)=ws.map (Wf b rs):=fg λw hw=>by show Wf b rs (Mm ws w.key)=_;rw[Em nd hw]
 rw[e]at p;exact p
theorem O9(b:Str)(rs:List (List Str))(w:Wk):Ob (Wf b rs w)=1::(tE b.cps.toList++(1::(tE w.key.cps.toList++[0]))):=rfl
theorem Zju(b:Str)(rs:List (List Str))(v w:Wk):Ob (Wf b rs v)<Ob (Wf b rs w)↔v.key.cps.toList<w.key.cps.toList:=by
 rw[O9,O9,dj,Az,dj,Az];have i:¬b.cps.toList<b.cps.toList:=List.lt_irrefl _;have j:¬([0]:List Nat)< [0]:=List.lt_irrefl _;constructor
 ·rintro(z|⟨_,z|⟨_,z|⟨_,z|⟨_,z⟩⟩⟩⟩)
  ·omega
  ·exact absurd z i
  ·omega
  ·exact z
  ·exact absurd z j
 ·exact λz=>.inr ⟨rfl,.inr ⟨rfl,.inr ⟨rfl,.inl z⟩⟩⟩
theorem Gr{ws:List Wk}(nd:(ws.map Wk.key).Nodup){k:Str}(h:k∈ws.map Wk.key):Mm ws k∈ws/\(Mm ws k).key=k:=by obtain⟨w,hw,rfl⟩:=a6.mp h;rw[Em nd hw];exact⟨hw,rfl⟩
theorem Zon(b:Str)(rs:List (List Str))(ws:List Wk):∀h∈Rw b rs ws,HPok h:=λh hh=>by obtain⟨k,_,rfl⟩:=a6.mp hh;exact Sn b rs _
theorem pool_of(b:Str)(rs:List (List Str))(ws:List Wk)(hs:Shf rs ws)(hr:Rls rs):Gen.Qv [.str b,Yv ws,.lst (rs.map Zy)]=aA (.ol ((Rw b rs ws).map Yr)):=by
 have c:=Ka b rs ws hs.nd hs.ok hr.len (by have:=hr.few;omega) ws [] (λ_ h=>h) (by have:=hs.few;simp;omega);rw[List.nil_append]at c;have few:=hs.few;have j:=joined ws (U4 b rs) (Wf b rs) (Rw b rs ws) (Zom b rs ws hs) (by have:=Zaj b rs hr.few ws;omega) (by omega) (λw hw=>Zb4 b rs w (hs.ok w hw) (by have:=hr.few;omega)) (λw _=>Sn b rs w) (by
   rw[bx];refine df.mpr ((df.mp hs.nd).imp fun{v w} h e=>h ?_);have e:Ob (Wf b rs v)=Ob (Wf b rs w):=e;rw[O9,O9]at e;exact Gi (Zf8 _ _ _ _ (List.cons.inj (Zf8 _ _ _ _ (List.cons.inj e).2).2).2).1) (Zgp b rs ws hs.nd) (by
   refine df.mpr ?_;refine(List.Pairwise.and_mem.mp (Ls (ws.map Wk.key))).imp fun{x y} ⟨hx,hy,h⟩ e=>?_;rw[Zju,(Gr hs.nd ((Y0 _).mem_iff.mp hx)).2,(Gr hs.nd ((Y0 _).mem_iff.mp hy)).2]at e;exact of_decide_eq_true h e)
 have ek:=Fu (ws.map Wk.key);unfold Gen.Qv Gen.Mi;unfold Yv at c⊢;generalize (Rw b rs ws).map Yr=OUT at*;generalize (ws.map (U4 b rs)).map Yr=LH at*;generalize ws.map Wk.d=WD at*;generalize Zv (ws.map Wk.key)=WK at*;generalize rs.map Zy=RD at*;generalize (ws.map Wk.key).map D.str=KS at*;simp[c,j,ek,-Y7]
end My
namespace My
open DL PySem TT TX
theorem Zjv(r:List Str)(p:Str->Bool):(r.map λf=>D.bl (p f)).all D.isFlat=aC:=by rw[List.all_map];exact g6.mpr λf hf=>rfl
theorem Zsp(r:List Str)(p:Str->Bool):Lm (.bl aD) (r.map λf=>D.bl (p f))= !(r.all p):=by
 unfold Lm;induction r with
 |nil=>rfl
 |cons x r ih=>rw[av,List.any_cons,ih,List.all_cons,Zin];cases p x<;> simp
theorem Zsq(r:List Str)(p:Str->Bool):J3 (.bl aD) (.lst (r.map λf=>D.bl (p f)))=aA (.fz (.bl (r.all p))):=by show(if D.isFlat (.bl aD)=aC/\(r.map λf=>D.bl (p f)).all D.isFlat=aC then aA (SV.fz (.bl (!Lm (.bl aD) (r.map λf=>D.bl (p f)))))else aB)=_;rw[if_pos ⟨rfl,Zjv r p⟩,Zsp,Bool.not_not]
def Zgq(FS:List L2.Key)(TS:List D)(o:Option SV):Prop:=o=aA (.oK FS TS)\/o=aA (.fz (.dK FS TS))
abbrev Nh(A0 A1 A2 A3 A4 A5 A6 o7:Option SV)(M:List D)(x9 x10:Option SV)(o11 x12:Option SV):Yg:=[A0,A1,A2,A3,A4,A5,A6,o7,aA (.ol M),x9,x10,o11,x12]
section
variable(A0 A1 A2 A3 A4 A5 A6:Option SV)
theorem Zgr(fs ts:List Str)(o7 o11 x12:Option SV)(ho:Zgq (Zv fs) (ts.map D.str) o7)(M:List NK)(n:Nat)(r:List Str)(hr:r.length<=100)(hM:M.length<=100):∃p7,Zgq (Zv fs) (ts.map D.str) p7/\
  Gen.Q7 (Nh A0 A1 A2 A3 A4 A5 A6 o7 (M.map Zs) (aA (.fz (.int (n:Int)))) (aA (.fz (Zy r))) o11 x12)=
  aA (.nx (Nh A0 A1 A2 A3 A4 A5 A6 p7 ((M++(match r.mapM (Yo fs ts)with|some l=>[(.inr ((n:Int),l):NK)]|none=>[])).map Zs) (aA (.fz (.int (n:Int)))) (aA (.fz (Zy r))) o11 x12)):=by
 have h1:Y7 [.own,.cap 7,.acc] 2 (Zg 0) Q5 Gen.Mv (r.map D.str) _=_:=Sh fs ts 7 r hr;have nz:=Zsq r λf=>(Yo fs ts f).isSome;have z1:M.length<PySem.sizeLine:=Yt (by omega);unfold Gen.Q7 Nh;rw[Rt];by_cases h:∀f∈r,(Yo fs ts f).isSome
 ·have h2:Y7 [.own,.cap 7,.acc] 2 (Zg 0) Q5 Gen.Mw (r.map D.str) _=_:=Si fs ts 7 r hr h;rw[if_pos h];have al:(r.all λf=>(Yo fs ts f).isSome)=aC:=g6.mpr λf hf=>h f hf;rw[al]at nz;refine⟨_,.inr rfl,?_⟩;generalize (r.map λf=>D.bl (Yo fs ts f).isSome)=BL at*;generalize ts.map D.str=TS at*;generalize Zv fs=FS at*;rcases ho with rfl|rfl
  ·simp[h1,h2,nz,z1,s2,-Y7,-J3];unfold Zs;simp
  ·simp[h1,h2,nz,z1,s2,-Y7,-J3];unfold Zs;simp
 ·rw[if_neg h];have al:(r.all λf=>(Yo fs ts f).isSome)=aD:=by rw[Bool.eq_false_iff];exact λz=>h λf hf=>g6.mp z f hf
  rw[al]at nz;refine⟨o7,ho,?_⟩;generalize (r.map λf=>D.bl (Yo fs ts f).isSome)=BL at*;generalize ts.map D.str=TS at*;generalize Zv fs=FS at*;rcases ho with rfl|rfl
  ·simp[h1,nz,z1,-Y7,-J3]
  ·simp[h1,nz,z1,-Y7,-J3]
theorem Kb(fs ts:List Str)(o11 x12:Option SV):∀(rs:List (List Str)) (n:Nat) (M:List NK) (o7 x9 x10:Option SV),Zgq (Zv fs) (ts.map D.str) o7->(∀r∈rs,r.length<=100)->M.length+rs.length<=100->∃p7 y9 y10,Zgq (Zv fs) (ts.map D.str) p7/\
  Yi (Wa 2 (Zu (Zg 9) (Zu (Zg 10) Wb))) Gen.Q7 (((rs.map Zy).zipIdx n).map λp=>D.tup [.int (p.2:Nat),p.1]) (Nh A0 A1 A2 A3 A4 A5 A6 o7 (M.map Zs) x9 x10 o11 x12)=
  aA (.nx (Nh A0 A1 A2 A3 A4 A5 A6 p7 ((M++Wc fs ts n rs).map Zs) y9 y10 o11 x12))
 | [],n,M,o7,x9,x10,ho,_,_=>⟨o7,x9,x10,ho,by simp[Wc]⟩
 |r::rs,n,M,o7,x9,x10,ho,hr,hM=>by
  rw[bn]at hM;obtain⟨q7,hq,t⟩:=Zgr A0 A1 A2 A3 A4 A5 A6 fs ts o7 o11 x12 ho M n r (hr r ah) (by omega);obtain⟨p7,y9,y10,hp,ih⟩:=Kb fs ts o11 x12 rs (n+1) (M++(match r.mapM (Yo fs ts)with|some l=>[(.inr ((n:Int),l):NK)]|none=>[])) q7 (aA (.fz (.int (n:Int)))) (aA (.fz (Zy r))) hq (λq hq=>hr q (ar _ hq)) (by
   rw[bj];cases r.mapM (Yo fs ts)<;> simp<;> omega)
  refine⟨p7,y9,y10,hp,?_⟩;rw[av,List.zipIdx_cons,av,Wc];rw[gd]at ih;unfold Yi;rw[show(Wa 2 (Zu (Zg 9) (Zu (Zg 10) Wb))).run (.tup [.int (n:Nat),Zy r]) (Nh A0 A1 A2 A3 A4 A5 A6 o7 (M.map Zs) x9 x10 o11 x12)=aA (Nh A0 A1 A2 A3 A4 A5 A6 o7 (M.map Zs) (aA (.fz (.int (n:Int)))) (aA (.fz (Zy r))) o11 x12)from by simp];dsimp only[b7];rw[t];exact ih
end
section
variable(A1 A2 A3 A5 A6:Option SV)
theorem En(b k:Str)(fs ts:List Str)(hl:fs.length=ts.length)(o7:Option SV)(ho:Zgq (Zv fs) (ts.map D.str) o7)(M:List D)(x9 x10:Option SV):∀(xs:List Str) (T:List D) (x12:Option SV),(∀x∈xs,x∈fs)->T.length+xs.length<=1000->∃y12,
  Yi (Zg 12) Gen.W7 (xs.map D.str) (Nh (aA (.fz (.str b))) A1 A2 A3 (aA (.fz (.str k))) A5 A6 o7 M x9 x10 (aA (.ol T)) x12)=
  aA (.nx (Nh (aA (.fz (.str b))) A1 A2 A3 (aA (.fz (.str k))) A5 A6 o7 M x9 x10 (aA (.ol (T++(xs.filter λf=>decide (f≠Qc)).map λf=>D.tup [.str f,.str ((Yo fs ts f).getD ""),.lst [.tup [.str b,.str k]]]))) y12))
 | [],T,x12,_,_=>⟨x12,by simp⟩
 |x::xs,T,x12,h,hz=>by
  rw[bn]at hz;obtain⟨v,hv⟩:=Option.isSome_iff_exists.mp ((Ej fs ts x hl).mp (h x ah));have l:=(Uc x fs (ts.map D.str)).trans (Jr fs ts x);rw[hv]at l;have z1:T.length<PySem.sizeLine:=Yt (by omega);have r0:(Zg 12).run (.str x) (Nh (aA (.fz (.str b))) A1 A2 A3 (aA (.fz (.str k))) A5 A6 o7 M x9 x10 (aA (.ol T)) x12)=aA (Nh (aA (.fz (.str b))) A1 A2 A3 (aA (.fz (.str k))) A5 A6 o7 M x9 x10 (aA (.ol T)) (aA (.fz (.str x)))):=by simp
  by_cases hx:x=Qc
  ·obtain⟨y12,ih⟩:=En b k fs ts hl o7 ho M x9 x10 xs T (aA (.fz (.str x))) (λy hy=>h y (ar _ hy)) (by omega);refine⟨y12,?_⟩;rw[av,List.filter_cons,if_neg (by simp[hx])];have e1:Gen.W7 (Nh (aA (.fz (.str b))) A1 A2 A3 (aA (.fz (.str k))) A5 A6 o7 M x9 x10 (aA (.ol T)) (aA (.fz (.str x))))=aA (.nx (Nh (aA (.fz (.str b))) A1 A2 A3 (aA (.fz (.str k))) A5 A6 o7 M x9 x10 (aA (.ol T)) (aA (.fz (.str x))))):=by unfold Gen.W7 Nh;simp[hx]
   unfold Yi;rw[r0];dsimp only[b7];rw[e1];exact ih
  ·obtain⟨y12,ih⟩:=En b k fs ts hl o7 ho M x9 x10 xs (T++[D.tup [.str x,.str ((Yo fs ts x).getD ""),.lst [.tup [.str b,.str k]]]]) (aA (.fz (.str x))) (λy hy=>h y (ar _ hy)) (by rw[bj];simp;omega);refine⟨y12,?_⟩;rw[av,List.filter_cons,if_pos (by simp[hx]),av];rw[gd]at ih;rw[hv]at ih⊢;have e1:Gen.W7 (Nh (aA (.fz (.str b))) A1 A2 A3 (aA (.fz (.str k))) A5 A6 o7 M x9 x10 (aA (.ol T)) (aA (.fz (.str x))))=aA (.nx (Nh (aA (.fz (.str b))) A1 A2 A3 (aA (.fz (.str k))) A5 A6 o7 M x9 x10 (aA (.ol (T++[D.tup [.str x,.str v,.lst [.tup [.str b,.str k]]]]))) (aA (.fz (.str x))))):=by
    unfold Gen.W7 Nh;generalize ts.map D.str=TS at*;generalize Zv fs=FS at*;rcases ho with rfl|rfl
    ·simp[hx,l,s1,s2,s3,z1,-look]
    ·simp[hx,l,s1,s2,s3,z1,-look]
   unfold Yi;rw[r0];dsimp only[b7];rw[e1];exact ih
end
theorem Zgs(b:Str)(rs:List (List Str))(ws:List Wk)(hs:Shf rs ws)(hr:Rls rs)(w:Wk)(hw:w∈ws)(P:List D)(hP:P.length<=1000)(x5 x6 x7 x8 x9 x10 x11 x12:Option SV):∃y5 y6 y7 y8 y9 y10 y11 y12,
  Gen.Ur [aA (.fz (.str b)),aA (.fz (Yv ws)),aA (.fz (.lst (rs.map Zy))),aA (.ol P),aA (.fz (.str w.key)),x5,x6,x7,x8,x9,x10,x11,x12]=
  aA (.nx [aA (.fz (.str b)),aA (.fz (Yv ws)),aA (.fz (.lst (rs.map Zy))),aA (.ol (P++[Yr (Wf b rs w)])),aA (.fz (.str w.key)),y5,y6,y7,y8,y9,y10,y11,y12]):=by
 have ok:=hs.ok w hw;have l:=El hs.nd hw;have hl:w.at'.length=w.vt.length:=by simp[ok.len]
 have hp:Wh (Zv w.fs) (w.ts.map D.str) (b8 Qx) (.str w.kind)=(Zv w.at',w.vt.map D.str):=by rw[Ax,Ay ok.nk];simp
 have z:(w.ts.map D.str).length<PySem.sizeLine:=Yt (by have:=ok.few;have:=ok.len;simp;omega);obtain⟨p7,y9,y10,hk,m⟩:=Kb (aA (.fz (.str b))) (aA (.fz (Yv ws))) (aA (.fz (.lst (rs.map Zy)))) (aA (.ol P)) (aA (.fz (.str w.key))) (aA (.fz (.str w.kind))) (aA (.fz (.dK (Zv w.fs) (w.ts.map D.str)))) w.at' w.vt x11 x12 rs 0 [] (aA (.oK (Zv w.at') (w.vt.map D.str))) x9 x10 (.inl rfl) hr.len (by have:=hr.few;simp;omega);rw[show(((rs.map Zy).zipIdx 0).map λp=>D.tup [.int (p.2:Nat),p.1])=Qf (rs.map Zy)from rfl,List.nil_append]at m;have at_len:w.at'.length=w.fs.length+1:=by simp
 obtain⟨y12,t⟩:=En (aA (.fz (Yv ws))) (aA (.fz (.lst (rs.map Zy)))) (aA (.ol P)) (aA (.fz (.str w.kind))) (aA (.fz (.dK (Zv w.fs) (w.ts.map D.str)))) b w.key w.at' w.vt hl p7 hk ((Wc w.at' w.vt 0 rs).map Zs) y9 y10 (Ub w.at') [] x12 (λx hx=>(Y0 _).mem_iff.mp hx) (by rw[(Y0 _).length_eq];have:=ok.few;simp;omega);rw[List.nil_append]at t;have sd:B2 [.dK (Zv w.at') (w.vt.map D.str)]=aA (.ol ((Ub w.at').map D.str)):=Fp (by have:=ok.few;omega);have eh:Yr (Wf b rs w)= .tup [.lst [.tup [.str b,.str w.key]],.lst ((Wc w.at' w.vt 0 rs).map Zs),.lst (((Ub w.at').filter λf=>decide (f≠Qc)).map λf=>D.tup [.str f,.str ((Yo w.at' w.vt f).getD ""),.lst [.tup [.str b,.str w.key]]])]:=by unfold Yr Wf;dsimp only;rw[bx];rfl
 have zP:P.length<PySem.sizeLine:=Yt (by omega);refine⟨aA (.fz (.str w.kind)),aA (.fz (.dK (Zv w.fs) (w.ts.map D.str))),p7,aA (.fz (.lst ((Wc w.at' w.vt 0 rs).map Zs))),y9,y10,aA (.fz (.lst (((Ub w.at').filter λf=>decide (f≠Qc)).map λf=>D.tup [.str f,.str ((Yo w.at' w.vt f).getD ""),.lst [.tup [.str b,.str w.key]]]))),y12,?_⟩;rw[eh];unfold Gen.Ur;unfold Nh at m t;unfold Yv at m t⊢;have wd:w.d= .tup [.str w.kind,.dK (Zv w.fs) (w.ts.map D.str)]:=rfl;rw[wd]at l;generalize (((Ub w.at').filter λf=>decide (f≠Qc)).map λf=>D.tup [.str f,.str ((Yo w.at' w.vt f).getD ""),.lst [.tup [.str b,.str w.key]]])=FL at*;generalize (Wc w.at' w.vt 0 rs).map Zs=MS at*;generalize ws.map Wk.d=WD at*;generalize Zv (ws.map Wk.key)=WK at*;generalize rs.map Zy=RD at*;generalize (Ub w.at').map D.str=SR at*;generalize w.vt.map D.str=VT at*;generalize Zv w.at'=AT at*;generalize w.ts.map D.str=TS at*;generalize Zv w.fs=FS at*;have m:Yi (Wa 2 (Zu (Zg 9) (Zu (Zg 10) Wb))) Gen.Q7 (Qf RD) [aA (.fz (.str b)),aA (.fz (.dK WK WD)),aA (.fz (.lst RD)),aA (.ol P),aA (.fz (.str w.key)),aA (.fz (.str w.kind)),aA (.fz (.dK FS TS)),aA (.oK AT VT),aA (.ol []),x9,x10,x11,x12]=_:=m;rcases hk with rfl|rfl
 ·simp[l,hp,z,m,sd,t,zP,s1,s2,s3,-Yi,-look,-Wh]
 ·simp[l,hp,z,m,sd,t,zP,s1,s2,s3,-Yi,-look,-Wh]
theorem Sq(b:Str)(rs:List (List Str))(ws:List Wk)(hs:Shf rs ws)(hr:Rls rs):∀(ks:List Str) (P:List D) (x4 x5 x6 x7 x8 x9 x10 x11 x12:Option SV),(∀k∈ks,k∈ws.map Wk.key)->P.length+ks.length<=1000->∃y4 y5 y6 y7 y8 y9 y10 y11 y12,
  Yi (Zg 4) Gen.Ur (ks.map D.str) [aA (.fz (.str b)),aA (.fz (Yv ws)),aA (.fz (.lst (rs.map Zy))),aA (.ol P),x4,x5,x6,x7,x8,x9,x10,x11,x12]=
  aA (.nx [aA (.fz (.str b)),aA (.fz (Yv ws)),aA (.fz (.lst (rs.map Zy))),aA (.ol (P++(ks.map λk=>Yr (Wf b rs (Mm ws k))))),y4,y5,y6,y7,y8,y9,y10,y11,y12])
 | [],P,x4,x5,x6,x7,x8,x9,x10,x11,x12,_,_=>⟨x4,x5,x6,x7,x8,x9,x10,x11,x12,by simp⟩
 |k::ks,P,x4,x5,x6,x7,x8,x9,x10,x11,x12,h,hz=>by rw[bn]at hz;obtain⟨hw,ek⟩:=Gr hs.nd (h k ah);obtain⟨z5,z6,z7,z8,z9,z10,z11,z12,t⟩:=Zgs b rs ws hs hr (Mm ws k) hw P (by omega) x5 x6 x7 x8 x9 x10 x11 x12;rw[ek]at t;obtain⟨y4,y5,y6,y7,y8,y9,y10,y11,y12,ih⟩:=Sq b rs ws hs hr ks (P++[Yr (Wf b rs (Mm ws k))]) (aA (.fz (.str k))) z5 z6 z7 z8 z9 z10 z11 z12 (λj hj=>h j (ar _ hj)) (by rw[bj];simp;omega);refine⟨y4,y5,y6,y7,y8,y9,y10,y11,y12,?_⟩;rw[gd]at ih;rw[av,av];unfold Yi;rw[show(Zg 4).run (.str k) [aA (.fz (.str b)),aA (.fz (Yv ws)),aA (.fz (.lst (rs.map Zy))),aA (.ol P),x4,x5,x6,x7,x8,x9,x10,x11,x12]=aA [aA (.fz (.str b)),aA (.fz (Yv ws)),aA (.fz (.lst (rs.map Zy))),aA (.ol P),aA (.fz (.str k)),x5,x6,x7,x8,x9,x10,x11,x12]from by simp];dsimp only[b7];rw[t];exact ih
theorem Zjw(b:Str)(rs:List (List Str))(ws:List Wk)(hs:Shf rs ws)(hr:Rls rs):Gen.Oc [.str b,Yv ws,.lst (rs.map Zy)]=aA (.ol ((Rw b rs ws).map Yr)):=by
 have few:=hs.few;obtain⟨y4,y5,y6,y7,y8,y9,y10,y11,y12,l⟩:=Sq b rs ws hs hr (Ub (ws.map Wk.key)) [] aB aB aB aB aB aB aB aB aB (λk hk=>(Y0 _).mem_iff.mp hk) (by rw[(Y0 _).length_eq];simp;omega);have sd:B2 [Yv ws]=aA (.ol ((Ub (ws.map Wk.key)).map D.str)):=Fp (by simp;omega);rw[List.nil_append]at l;have eo:(Rw b rs ws).map Yr=(Ub (ws.map Wk.key)).map λk=>Yr (Wf b rs (Mm ws k)):=by unfold Rw;rw[bx];rfl
 rw[eo];unfold Gen.Oc Gen.Mh;unfold Yv at l sd⊢;generalize ((Ub (ws.map Wk.key)).map λk=>Yr (Wf b rs (Mm ws k)))=OUT at*;generalize (Ub (ws.map Wk.key)).map D.str=SR at*;generalize ws.map Wk.d=WD at*;generalize Zv (ws.map Wk.key)=WK at*;generalize rs.map Zy=RD at*;simp[l,sd,-Yi]
end My
namespace My
open DL PySem TT TX
abbrev PS:=List (Str×Str)
abbrev Q8(ps:PS):List L2.Key:=Zv (ps.map (·.1))
abbrev Q9(ps:PS):List D:=(ps.map (·.2)).map D.str
abbrev IN:Str:=b9 "in"
def Qn(ps:PS)(k v:Str):PS:=if k∈ps.map (·.1)then ps.map λp=>if p.1=k then(p.1,v)else p else ps++[(k,v)]
def Uj(ps:PS)(k:Str):PS:=ps.filter λp=>decide (p.1≠k)
theorem Xw(ps:PS):(ps.map (·.1)).zip (ps.map (·.2))=ps:=by rw[List.zip_map'];simp
theorem Zgt(ps:PS):(Q8 ps).zip (Q9 ps)=ps.map λp=>((b8 p.1:L2.Key),D.str p.2):=by unfold Q8 Q9 Zv;rw[List.zip_map,Xw];rfl
theorem Zak(ps:PS)(k:Str):(b8 k:L2.Key)∈Q8 ps↔k∈ps.map (·.1):=by
 constructor
 ·intro h;obtain⟨x,hx,e⟩:=a6.mp h;cases e;exact hx
 ·exact λh=>List.mem_map_of_mem h
theorem Kc(ps:PS)(k v:Str):Wh (Q8 ps) (Q9 ps) (b8 k) (.str v)=(Q8 (Qn ps k v),Q9 (Qn ps k v)):=by
 unfold Wh Qn;by_cases h:k∈ps.map (·.1)
 ·rw[if_pos ((Zak ps k).mpr h),if_pos h,Zgt];refine Prod.ext ?_ ?_
  ·show Q8 ps=Zv ((ps.map λp=>if p.1=k then(p.1,v)else p).map (·.1));rw[bx];refine congrArg Zv (fg λp _=>?_);show p.1=(if p.1=k then(p.1,v)else p).1;split<;> rfl
  ·show(ps.map λp=>((b8 p.1:L2.Key),D.str p.2)).map (λp=>if p.1=b8 k then D.str v else p.2)=((ps.map λp=>if p.1=k then(p.1,v)else p).map (·.2)).map D.str;rw[bx,bx,bx];refine fg λp _=>?_;show(if(b8 p.1:L2.Key)=b8 k then D.str v else D.str p.2)=D.str (if p.1=k then(p.1,v)else p).2;by_cases e:p.1=k
   ·rw[if_pos (by rw[e]),if_pos e]
   ·rw[if_neg (λz=>e (b8.inj z)),if_neg e]
 ·rw[if_neg λz=>h ((Zak ps k).mp z),if_neg h];simp[Q8,Q9,Zv]
theorem Xx(ps:PS)(k:Str):J2 (Q8 ps) (Q9 ps) (b8 k)=(Q8 (Uj ps k),Q9 (Uj ps k)):=by
 unfold J2;rw[Zgt,List.filter_map];have e:((λp:L2.Key×D=>decide (p.1≠b8 k))∘λp:Str×Str=>((b8 p.1:L2.Key),D.str p.2))=λp=>decide (p.1≠k):=by funext p;show decide ((b8 p.1:L2.Key)≠b8 k)=decide (p.1≠k);exact decide_eq_decide.mpr ⟨λh z=>h (by rw[z]),λh z=>h (b8.inj z)⟩
 rw[e];refine Prod.ext ?_ ?_
 ·show _=Zv ((Uj ps k).map (·.1));unfold Zv Uj;simp only[bx];rfl
 ·show _=((Uj ps k).map (·.2)).map D.str;unfold Uj;simp only[bx];rfl
theorem Zb5(ps:PS)(k:Str):Yo (ps.map (·.1)) (ps.map (·.2)) k=ps.lookup k:=by unfold Yo;rw[Xw]
theorem Xy(ps:PS)(k:Str):look (Q8 ps) (Q9 ps) (b8 k)=(ps.lookup k).map D.str:=by rw[Uc,Jr,Zb5]
theorem Eo{ps:PS}{k v:Str}(h:ps.lookup k=aA v):(k,v)∈ps:=by obtain⟨l1,l2,e,_⟩:=List.lookup_eq_some_iff.mp h;rw[e];simp
def Yq(k:Nat)(t:Str):Prop:=t.cps.toList.getLast? =aA (48+k)
structure Ln(F:List Str)(k B:Nat)(ps:PS):Prop where
 nd:(ps.map (·.1)).Nodup
 sub:∀p∈ps,p.1∈F++[IN,Qc]
 ends:∀p∈ps,p.1≠IN->Yq k p.2
 len:∀p∈ps,p.2.length<=B
theorem Ln.put{F:List Str}{k B:Nat}{ps:PS}(h:Ln F k B ps){f v:Str}(hf:f∈F++[IN,Qc])(he:f≠IN->Yq k v)(hl:v.length<=B):Ln F k B (Qn ps f v):=by
 unfold Qn;by_cases hm:f∈ps.map (·.1)
 ·rw[if_pos hm];have q:∀p∈ps.map (λp=>if p.1=f then(p.1,v)else p),p∈ps\/p=(f,v):=λp hp=>by
   obtain⟨r,hr,rfl⟩:=a6.mp hp;by_cases e:r.1=f
   ·rw[if_pos e,e];exact .inr rfl
   ·rw[if_neg e];exact .inl hr
  refine⟨?_,λp hp=>?_,λp hp=>?_,λp hp=>?_⟩
  ·rw[bx];have:ps.map ((·.1)∘λp=>if p.1=f then(p.1,v)else p)=ps.map (·.1):=fg λp _=>by show(if p.1=f then(p.1,v)else p).1=p.1;split<;> rfl
   rw[this];exact h.nd
  ·rcases q p hp with z|z
   ·exact h.sub p z
   ·rw[z];exact hf
  ·rcases q p hp with z|z
   ·exact h.ends p z
   ·rw[z];exact he
  ·rcases q p hp with z|z
   ·exact h.len p z
   ·rw[z];exact hl
 ·rw[if_neg hm];have q:∀p∈ps++[(f,v)],p∈ps\/p=(f,v):=λp hp=>by simpa using hp
  refine⟨?_,λp hp=>?_,λp hp=>?_,λp hp=>?_⟩
  ·rw[cq];exact di.mpr ⟨h.nd,by simp,λa ha c hc e=>hm (by rw[<-(show c=f by simpa using hc),<-e];exact ha)⟩
  ·rcases q p hp with z|z
   ·exact h.sub p z
   ·rw[z];exact hf
  ·rcases q p hp with z|z
   ·exact h.ends p z
   ·rw[z];exact he
  ·rcases q p hp with z|z
   ·exact h.len p z
   ·rw[z];exact hl
theorem Ln.drop{F:List Str}{k B:Nat}{ps:PS}(h:Ln F k B ps)(f:Str):Ln F k B (Uj ps f):=by have q:∀p∈Uj ps f,p∈ps:=λp hp=>(List.mem_filter.mp hp).1;exact⟨h.nd.sublist ((List.filter_sublist).map _),λp hp=>h.sub p (q p hp),λp hp=>h.ends p (q p hp),λp hp=>h.len p (q p hp)⟩
theorem Ln.mono{F:List Str}{k B C:Nat}{ps:PS}(h:Ln F k B ps)(hb:B<=C):Ln F k C ps:=⟨h.nd,h.sub,h.ends,λp hp=>d3 (h.len p hp) hb⟩
theorem Ln.few{F:List Str}{k B:Nat}{ps:PS}(h:Ln F k B ps):ps.length<=F.length+2:=by
 have:=List.Nodup.length_le_of_subset h.nd (l₂:=F++[IN,Qc]) λx hx=>by obtain⟨p,hp,rfl⟩:=a6.mp hx;exact h.sub p hp
 simpa using this
theorem Zjx:∀m<100,(b9 (toString ((m:Nat):Int))).length<=2:=by decide+kernel
theorem Zal:∀k<10,(b9 (toString ((k:Nat):Int))).cps.toList=[48+k]:=by decide+kernel
def pre:Nat->Str
 |0=>"Of " |1=>"A. " |2=>"/ " |3=>"(*) " |_=>"n: "
theorem Zoo:∀j<5,L2.atI ([("Of ":Str),"A. ","/ ","(*) ","n: "].map D.str) ((j:Nat):Int)=aA (.str (pre j))
 |0,_=>rfl
 |1,_=>rfl
 |2,_=>rfl
 |3,_=>rfl
 |4,_=>rfl
theorem Tf(j:Nat):(pre j).length<=4:=by unfold pre;split<;> decide
abbrev E6(n:Int):Str:=b9 (toString (n % 100))
def Mx(n:Int)(k j:Nat):Str:=((pre j++E6 n)++b9 ".")++b9 (toString ((k:Nat):Int))
theorem Rx(n:Int):(E6 n).length<=2:=by
 have h0:0<=n % 100:=fu _ (by decide);have h1:n % 100<100:=dy _ (by decide);obtain⟨m,hm⟩:∃m:Nat,(m:Int)=n % 100:=⟨(n % 100).toNat,by omega⟩
 unfold E6;rw[<-hm];exact Zjx m (by omega)
theorem Zgu{k:Nat}(h:k<10):(b9 (toString ((k:Nat):Int))).length=1:=by have:=Zal k h;rw[show(b9 (toString ((k:Nat):Int))).length=(b9 (toString ((k:Nat):Int))).cps.toList.length from aw.symm,this];rfl
theorem Zb6(n:Int){k:Nat}(j:Nat)(h:k<10):Yq k (Mx n k j):=by unfold Yq Mx;rw[Str.cps_append];simp only[Array.toList_append];rw[Zal k h];simp
theorem Nf:(b9 ".").length=1:=by decide+kernel
theorem Zgv(n:Int){k:Nat}(j:Nat)(h:k<10):(Mx n k j).length<=8:=by unfold Mx;rw[Ou,Ou,Ou,Zgu h,Nf];have:=Rx n;have:=Tf j;omega
abbrev oSt(A0 A1 A2 A3 A5:Option SV)(k:Nat)(n:Int)(ps:PS)(x8 x9:Option SV):Yg:=[A0,A1,A2,A3,aA (.fz (.int (k:Int))),A5,aA (.fz (.int n)),aA (.oK (Q8 ps) (Q9 ps)),x8,x9]
theorem Zgw(A0 A1 A2 A3 A5:Option SV)(F:List Str)(k:Nat)(hk:k<10)(n:Int)(ps:PS)(ow:Ln F k 100 ps)(hF:F.length<=3)(j:Nat)(hj:j<5)(f:Str)(hf:f∈F++[IN,Qc]):∃ps',Ln F k 100 ps'/\
  Gen.Wm (oSt A0 A1 A2 A3 A5 k n ps (aA (.fz (.int (j:Int)))) (aA (.fz (.str f))))=aA (.nx (oSt A0 A1 A2 A3 A5 k n ps' (aA (.fz (.int (j:Int)))) (aA (.fz (.str f))))):=by
 by_cases h:0<n / (64+(j:Int)) % 3
 ·refine⟨Qn ps f (Mx n k j),ow.put hf (λ_=>Zb6 n j hk) (d3 (Zgv n j hk) (by decide)),?_⟩;have pa:=Zoo j hj;have pp:=Kc ps f (Mx n k j);have z:(Q9 ps).length<PySem.sizeLine:=Yt (by have:=ow.few;simp;omega);have l1:(pre j).length+(E6 n).length<=PySem.sizeLine:=Qz (by have:=Tf j;have:=Rx n;omega);have l2:(pre j++E6 n).length+(b9 ".").length<=PySem.sizeLine:=Qz (by rw[Ou,Nf];have:=Tf j;have:=Rx n;omega);have l3:(pre j++E6 n++b9 ".").length+(b9 (toString ((k:Nat):Int))).length<=PySem.sizeLine:=Qz (by rw[Ou,Ou,Nf,Zgu hk];have:=Tf j;have:=Rx n;omega);have h0:0<=n % 100:=fu _ (by decide);have h1:n % 100<100:=dy _ (by decide);have g1:(n % 100).natAbs.log2<1920:=by refine Nat.lt_of_le_of_lt (Nat.log2_le_self _) ?_;omega
  have g2:((k:Int)).natAbs.log2<1920:=by refine Nat.lt_of_le_of_lt (Nat.log2_le_self _) ?_;omega
  have nz:0<64+(j:Int)/\64+(j:Int)<1073741824:=by omega
  have sd1:Pl [.int (n % 100)]=aA (.fz (.str (E6 n))):=by show(if(n % 100).natAbs.log2<1920 then _ else _)=_;rw[if_pos g1]
  have sd2:Pl [.int (k:Int)]=aA (.fz (.str (b9 (toString ((k:Nat):Int))))):=by show(if((k:Int)).natAbs.log2<1920 then _ else _)=_;rw[if_pos g2]
  unfold Mx at pp;unfold Gen.Wm oSt;simp only[av,List.map_nil]at pa;have five:5<=PySem.sizeLine:=by decide
  unfold Mx;generalize Q8 (Qn ps f (pre j++E6 n++b9 "."++b9 (toString ((k:Nat):Int))))=KK at*;generalize Q9 (Qn ps f (pre j++E6 n++b9 "."++b9 (toString ((k:Nat):Int))))=VV at*;generalize Q8 ps=KP at*;generalize Q9 ps=VP at*;generalize E6 n=NS at*;generalize b9 (toString ((k:Nat):Int))=KS at*;simp[h,nz,five,pa,l1,l2,l3,sd1,sd2,pp,z,-Wh,-Pl]
 ·refine⟨ps,ow,?_⟩;have nz:0<64+(j:Int)/\64+(j:Int)<1073741824:=by omega
  unfold Gen.Wm oSt;simp[h,nz]
end My
namespace My
open DL PySem TT TX
theorem Sr(A0 A1 A2 A3 A5:Option SV)(F:List Str)(k:Nat)(hk:k<10)(n:Int)(hF:F.length<=3):∀(xs:List Str) (j:Nat) (ps:PS) (x8 x9:Option SV),Ln F k 100 ps->j+xs.length<=5->(∀x∈xs,x∈F++[IN,Qc])->∃ps' y8 y9,Ln F k 100 ps'/\
  Yi (Wa 2 (Zu (Zg 8) (Zu (Zg 9) Wb))) Gen.Wm (((xs.map D.str).zipIdx j).map λp=>D.tup [.int (p.2:Nat),p.1]) (oSt A0 A1 A2 A3 A5 k n ps x8 x9)=aA (.nx (oSt A0 A1 A2 A3 A5 k n ps' y8 y9))
 | [],j,ps,x8,x9,ow,_,_=>⟨ps,x8,x9,ow,by simp⟩
 |f::xs,j,ps,x8,x9,ow,hj,hx=>by rw[bn]at hj;obtain⟨ps1,ow1,t⟩:=Zgw A0 A1 A2 A3 A5 F k hk n ps ow hF j (by omega) f (hx f ah);obtain⟨ps',y8,y9,ow',ih⟩:=Sr A0 A1 A2 A3 A5 F k hk n hF xs (j+1) ps1 (aA (.fz (.int (j:Int)))) (aA (.fz (.str f))) ow1 (by omega) λx h=>hx x (ar _ h);refine⟨ps',y8,y9,ow',?_⟩;rw[av,List.zipIdx_cons,av];unfold Yi;rw[show(Wa 2 (Zu (Zg 8) (Zu (Zg 9) Wb))).run (.tup [.int (j:Nat),.str f]) (oSt A0 A1 A2 A3 A5 k n ps x8 x9)=aA (oSt A0 A1 A2 A3 A5 k n ps (aA (.fz (.int (j:Int)))) (aA (.fz (.str f))))from by simp];dsimp only[b7];rw[t];exact ih
structure WP(F:List Str)(k:Nat)(w:Wk):Prop where
 ok:WkOk w
 ends:∀f v,f≠IN->f≠Qx->Yo w.at' w.vt f=aA v->Yq k v
theorem Zsr:IN≠Qx:=by decide+kernel
theorem Zam:Qc≠Qx:=by decide+kernel
theorem Zlp{F:List Str}{k:Nat}{ps:PS}(h:Ln F k 200 ps)(hF:F.length<=3)(hk:Qx∉F)(key kind:Str):WP F k ⟨key,kind,ps.map (·.1),ps.map (·.2)⟩:=by
 refine⟨⟨by simp,h.nd,by have:=h.few;simp;omega,λz=>?_⟩,λf v h1 h2 e=>?_⟩
 ·obtain⟨p,hp,e⟩:=a6.mp z;have:=h.sub p hp;rw[e]at this;rcases cn.mp this with z|z
  ·exact hk z
  ·rcases bo.mp z with z|z
   ·exact Zsr z.symm
   ·exact Zam (au.mp z).symm
 ·have e:Yo (ps.map (·.1)++[Qx]) (ps.map (·.2)++[kind]) f=aA v:=e;unfold Yo at e;rw[List.zip_append (by simp),Xw,List.lookup_append]at e;have n:List.lookup f ([Qx].zip [kind])=aB:=by show List.lookup f [(Qx,kind)]=aB;rw[gz,beq_eq_false_iff_ne.mpr h2];rfl
  rw[n,Option.or_none]at e;exact h.ends _ (Eo e) h1
abbrev Zgx(i:Int):Option D:=L2.atI [D.str (b9 "book"),D.str (b9 "part"),D.str (b9 "a")] i
theorem Zjy(i:Int):∃kd,Zgx (i % 3)=aA (.str kd):=by
 have h0:0<=i % 3:=fu _ (by decide);have h1:i % 3<3:=dy _ (by decide);have:i % 3=0\/i % 3=1\/i % 3=2:=by omega
 rcases this with h|h|h<;> rw[h]
 ·exact⟨_,rfl⟩
 ·exact⟨_,rfl⟩
 ·exact⟨_,rfl⟩
abbrev wkP(key kd:Str)(ps:PS):Wk:=⟨key,kd,ps.map (·.1),ps.map (·.2)⟩
abbrev itS:Str:=b9 "It"
abbrev sS:Str:=b9 "'s"
theorem Xz(F:List Str)(hF:F.length=3)(hK:Qx∉F)(A0:Option SV)(cs:List Int)(ws:List Wk)(k:Nat)(hk:k<10)(c:Int)(hc:cs[k]? =aA c)(key:Str)(hkey:key∉ws.map Wk.key)(hw:ws.length<=100)(x6 x7 x8 x9:Option SV):∃w y6 y7 y8 y9,w.key=key/\WP F k w/\
  Gen.Wn [A0,aA (.fz (.lst (F.map D.str))),aA (.fz (.lst (cs.map D.int))),aA (.oK (Zv (ws.map Wk.key)) (ws.map Wk.d)),aA (.fz (.int (k:Int))),aA (.fz (.str key)),x6,x7,x8,x9]=
  aA (.nx [A0,aA (.fz (.lst (F.map D.str))),aA (.fz (.lst (cs.map D.int))),aA (.oK (Zv ((ws++[w]).map Wk.key)) ((ws++[w]).map Wk.d)),aA (.fz (.int (k:Int))),aA (.fz (.str key)),y6,y7,y8,y9]):=by
 have hl:k<cs.length:=by rcases gx k cs.length with z|z;exact z;rw[List.getElem?_eq_none z]at hc;cases hc
 have ac:L2.atI (cs.map D.int) (k:Int)=aA (.int c):=by
  have:L2.ixN cs.length (k:Int)=aA k:=by unfold L2.ixN;simp;omega
  unfold L2.atI;rw[ao,this];show(cs.map D.int)[k]? =_;rw[bf,hc];rfl
 have mx:=Sg (c+(k:Int)) 48271;generalize (c+(k:Int)) % 2147483647*48271 % 2147483647=n at mx;obtain⟨ps,y8,y9,ow,lo⟩:=Sr A0 (aA (.fz (.lst (F.map D.str)))) (aA (.fz (.lst (cs.map D.int)))) (aA (.oK (Zv (ws.map Wk.key)) (ws.map Wk.d))) (aA (.fz (.str key))) F k hk n (by omega) (F++[IN,Qc]) 0 [] x8 x9 ⟨by simp,(λ_ z=>nomatch z),(λ_ z=>nomatch z),(λ_ z=>nomatch z)⟩ (by simp;omega) (λ_ h=>h);rw[show((((F++[IN,Qc]).map D.str).zipIdx 0).map λp=>D.tup [.int (p.2:Nat),p.1])=Qf ((F++[IN,Qc]).map D.str)from rfl,cq]at lo;have lo:Yi (Wa 2 (Zu (Zg 8) (Zu (Zg 9) Wb))) Gen.Wm (Qf (F.map D.str++[D.str IN,D.str Qc])) _=_:=lo;have zF:(F.map D.str).length+2<=PySem.sizeLine:=Qz (by rw[ao];omega);obtain⟨t0,g0,gl⟩:∃t0:Str,(look (Q8 ps) (Q9 ps) (b8 IN)).getD (.str itS)= .str t0/\t0.length<=100:=by
  rw[Xy];cases e:ps.lookup IN with
  |none=>exact⟨itS,rfl,by decide+kernel⟩
  |some v=>exact⟨v,rfl,ow.len _ (Eo e)⟩
 have sl:sS.length=2:=by decide+kernel
 have l1:t0.length+sS.length<=PySem.sizeLine:=Qz (by rw[sl];omega);have pp:=Kc ps IN (t0++sS);have zp:(Q9 ps).length<PySem.sizeLine:=Yt (by have:=ow.few;simp;omega);have lk:look (Q8 (Qn ps IN (t0++sS))) (Q9 (Qn ps IN (t0++sS))) (b8 IN)=aA (.str (t0++sS)):=by have:=Zf6 (b8 IN) (b8 IN) (.str (t0++sS)) (Q8 ps) (Q9 ps) (by simp);rw[pp,if_pos rfl]at this;exact this
 have dp:=Xx (Qn ps IN (t0++sS)) IN;have ow2:Ln F k 200 (Qn ps IN (t0++sS)):=(ow.mono (by decide)).put (by simp) (λz=>absurd rfl z) (by rw[Ou,sl];omega);obtain⟨kd,hkd⟩:=Zjy (n / 5);have zw:(ws.map Wk.d).length<PySem.sizeLine:=Yt (by rw[ao];omega);have fin:∀ps3:PS,Ln F k 200 ps3->Wh (Zv (ws.map Wk.key)) (ws.map Wk.d) (b8 key) (.tup [.str kd,.dK (Q8 ps3) (Q9 ps3)])=(Zv ((ws++[wkP key kd ps3]).map Wk.key),(ws++[wkP key kd ps3]).map Wk.d):=λps3 _=>by rw[Ax,Ay hkey];simp[Wk.d,Zaf]
 unfold Zgx at hkd;by_cases h4:n % 4=0
 ·refine⟨wkP key kd (Uj (Qn ps IN (t0++sS)) IN),aA (.fz (.int n)),aA (.fz (.dK (Q8 (Uj (Qn ps IN (t0++sS)) IN)) (Q9 (Uj (Qn ps IN (t0++sS)) IN)))),y8,y9,rfl,Zlp (ow2.drop IN) (by omega) hK key kd,?_⟩;have f:=fin _ (ow2.drop IN);unfold Gen.Wn;unfold oSt at lo;rw[show Q8 ([]:PS)=[]from rfl,show Q9 ([]:PS)=[]from rfl]at lo;generalize ((ws++[wkP key kd (Uj (Qn ps IN (t0++sS)) IN)]).map Wk.d)=WD' at*;generalize Zv ((ws++[wkP key kd (Uj (Qn ps IN (t0++sS)) IN)]).map Wk.key)=WK' at*;generalize Q8 (Uj (Qn ps IN (t0++sS)) IN)=K3 at*;generalize Q9 (Uj (Qn ps IN (t0++sS)) IN)=V3 at*;generalize Q8 (Qn ps IN (t0++sS))=K2 at*;generalize Q9 (Qn ps IN (t0++sS))=V2 at*;generalize Q8 ps=K1 at*;generalize Q9 ps=V1 at*;generalize ws.map Wk.d=WD at*;generalize Zv (ws.map Wk.key)=WK at*;generalize F.map D.str=FD at*;generalize cs.map D.int=CD at*;simp[ac,mx,lo,zF,s2,s3,g0,l1,pp,zp,lk,dp,h4,hkd,f,zw,-Yi,-Wh,-look,-J2]
 ·refine⟨wkP key kd (Qn ps IN (t0++sS)),aA (.fz (.int n)),aA (.fz (.dK (Q8 (Qn ps IN (t0++sS))) (Q9 (Qn ps IN (t0++sS))))),y8,y9,rfl,Zlp ow2 (by omega) hK key kd,?_⟩;have f:=fin _ ow2;unfold Gen.Wn;unfold oSt at lo;rw[show Q8 ([]:PS)=[]from rfl,show Q9 ([]:PS)=[]from rfl]at lo;generalize ((ws++[wkP key kd (Qn ps IN (t0++sS))]).map Wk.d)=WD' at*;generalize Zv ((ws++[wkP key kd (Qn ps IN (t0++sS))]).map Wk.key)=WK' at*;generalize Q8 (Qn ps IN (t0++sS))=K2 at*;generalize Q9 (Qn ps IN (t0++sS))=V2 at*;generalize Q8 ps=K1 at*;generalize Q9 ps=V1 at*;generalize ws.map Wk.d=WD at*;generalize Zv (ws.map Wk.key)=WK at*;generalize F.map D.str=FD at*;generalize cs.map D.int=CD at*;simp[ac,mx,lo,zF,s2,s3,g0,l1,pp,zp,h4,hkd,f,zw,-Yi,-Wh,-look,-J2]
end My
namespace My
open DL PySem TT TX
theorem Ep(F:List Str)(hF:F.length=3)(hK:Qx∉F)(A0:Option SV)(cs:List Int):∀(ks:List Str) (k:Nat) (ws:List Wk) (x4 x5 x6 x7 x8 x9:Option SV),ws.length=k->k+ks.length<=10->k+ks.length<=cs.length->(ws.map Wk.key++ks).Nodup->(∀i w,ws[i]? =aA w->WP F i w)->∃(ws':List Wk) (y4 y5 y6 y7 y8 y9:Option SV),ws'.map Wk.key=ws.map Wk.key++ks/\(∀i w,ws'[i]? =aA w->WP F i w)/\
  Yi (Wa 2 (Zu (Zg 4) (Zu (Zg 5) Wb))) Gen.Wn (((ks.map D.str).zipIdx k).map λp=>D.tup [.int (p.2:Nat),p.1]) [A0,aA (.fz (.lst (F.map D.str))),aA (.fz (.lst (cs.map D.int))),aA (.oK (Zv (ws.map Wk.key)) (ws.map Wk.d)),x4,x5,x6,x7,x8,x9]=
  aA (.nx [A0,aA (.fz (.lst (F.map D.str))),aA (.fz (.lst (cs.map D.int))),aA (.oK (Zv (ws'.map Wk.key)) (ws'.map Wk.d)),y4,y5,y6,y7,y8,y9])
 | [],k,ws,x4,x5,x6,x7,x8,x9,_,_,_,_,hw=>⟨ws,x4,x5,x6,x7,x8,x9,by simp,hw,by simp⟩
 |key::ks,k,ws,x4,x5,x6,x7,x8,x9,hl,h1,h2,nd,hw=>by
  rw[bn]at h1 h2;have hc:cs[k]? =aA (cs[k]'(by omega)):=az _;obtain⟨w,z6,z7,z8,z9,ek,wp,t⟩:=Xz F hF hK A0 cs ws k (by omega) _ hc key (λz=>(di.mp nd).2.2 _ z key ah rfl) (by omega) x6 x7 x8 x9;have em:(ws++[w]).map Wk.key=ws.map Wk.key++[key]:=by rw[cq,<-ek];rfl
  obtain⟨ws',y4,y5,y6,y7,y8,y9,e,hw',ih⟩:=Ep F hF hK A0 cs ks (k+1) (ws++[w]) (aA (.fz (.int (k:Int)))) (aA (.fz (.str key))) z6 z7 z8 z9 (by rw[bj,hl];rfl) (by omega) (by omega) (by rw[em,gd];exact nd) (λi v hv=>by
   rcases gx i ws.length with z|z
   ·rw[List.getElem?_append_left z]at hv;exact hw i v hv
   ·rw[List.getElem?_append_right z]at hv;have:i- ws.length=0:=by
     rcases Nat.eq_zero_or_pos (i- ws.length)with q|q
     ·exact q
     ·rw[List.getElem?_eq_none (by simp;omega)]at hv;cases hv
    rw[this]at hv;cases hv;have:i=k:=by omega
    rw[this];exact wp)
  refine⟨ws',y4,y5,y6,y7,y8,y9,by rw[e,em,gd];rfl,hw',?_⟩;rw[av,List.zipIdx_cons,av];unfold Yi;rw[show(Wa 2 (Zu (Zg 4) (Zu (Zg 5) Wb))).run (.tup [.int (k:Nat),.str key]) [A0,aA (.fz (.lst (F.map D.str))),aA (.fz (.lst (cs.map D.int))),aA (.oK (Zv (ws.map Wk.key)) (ws.map Wk.d)),x4,x5,x6,x7,x8,x9]=aA [A0,aA (.fz (.lst (F.map D.str))),aA (.fz (.lst (cs.map D.int))),aA (.oK (Zv (ws.map Wk.key)) (ws.map Wk.d)),aA (.fz (.int (k:Int))),aA (.fz (.str key)),x6,x7,x8,x9]from by simp];dsimp only[b7];rw[t];exact ih
theorem Zb7(F:List Str)(hF:F.length=3)(hK:Qx∉F)(cs:List Int)(ks:List Str)(hk:ks.length<=10)(hc:ks.length<=cs.length)(nd:ks.Nodup):∃ws:List Wk,ws.map Wk.key=ks/\(∀i w,ws[i]? =aA w->WP F i w)/\
  Gen.W6 [.lst (ks.map D.str),.lst (F.map D.str),.lst (cs.map D.int)]=aA (.oK (Zv (ws.map Wk.key)) (ws.map Wk.d)):=by
 obtain⟨ws,y4,y5,y6,y7,y8,y9,e,hw,l⟩:=Ep F hF hK (aA (.fz (.lst (ks.map D.str)))) cs ks 0 [] aB aB aB aB aB aB rfl (by omega) (by omega) (by simpa using nd) (λi w h=>by simp at h);refine⟨ws,by simpa using e,hw,?_⟩;rw[show(((ks.map D.str).zipIdx 0).map λp=>D.tup [.int (p.2:Nat),p.1])=Qf (ks.map D.str)from rfl]at l;have l:Yi (Wa 2 (Zu (Zg 4) (Zu (Zg 5) Wb))) Gen.Wn (Qf (ks.map D.str)) [aA (.fz (.lst (ks.map D.str))),aA (.fz (.lst (F.map D.str))),aA (.fz (.lst (cs.map D.int))),aA (.oK [] []),aB,aB,aB,aB,aB,aB]=_:=l;unfold Gen.W6 Gen.B7;generalize Zv (ws.map Wk.key)=WK at*;generalize ws.map Wk.d=WD at*;generalize ks.map D.str=KD at*;generalize F.map D.str=FD at*;generalize cs.map D.int=CD at*;simp[l,-Yi]
structure RuleOk(F r:List Str):Prop where
 len:r.length<=3
 has:∃f∈r,f∈F\/f=Qc
theorem at3(a b c:Str)(i:Int):∃x∈[a,b,c],L2.atI [D.str a,D.str b,D.str c] (i % 3)=aA (.str x):=by
 have h0:0<=i % 3:=fu _ (by decide);have h1:i % 3<3:=dy _ (by decide);have:i % 3=0\/i % 3=1\/i % 3=2:=by omega
 rcases this with h|h|h<;> rw[h]
 ·exact⟨a,by simp,rfl⟩
 ·exact⟨b,by simp,rfl⟩
 ·exact⟨c,by simp,rfl⟩
theorem at4(p q r s:D)(i:Int):∃x∈[p,q,r,s],L2.atI [p,q,r,s] (i % 4)=aA x:=by
 have h0:0<=i % 4:=fu _ (by decide);have h1:i % 4<4:=dy _ (by decide);have:i % 4=0\/i % 4=1\/i % 4=2\/i % 4=3:=by omega
 rcases this with h|h|h|h<;> rw[h]
 ·exact⟨p,by simp,rfl⟩
 ·exact⟨q,by simp,rfl⟩
 ·exact⟨r,by simp,rfl⟩
 ·exact⟨s,by simp,rfl⟩
theorem Zww(p q:D)(i:Int):∃n,Ew [p,q] aB (aA (i % 3))=[p,q].take n:=by
 have h0:0<=i % 3:=fu _ (by decide);have h1:i % 3<3:=dy _ (by decide);have:i % 3=0\/i % 3=1\/i % 3=2:=by omega
 rcases this with h|h|h<;> rw[h]
 ·exact⟨0,rfl⟩
 ·exact⟨1,rfl⟩
 ·exact⟨2,rfl⟩
theorem Zb8(F:List Str)(hF:F.length=3)(n:Int):∃rs:List (List Str),rs.length<=2/\(∀r∈rs,RuleOk F r)/\Gen.Q6 [.lst (F.map D.str),.int n]=aA (.ol (rs.map Zy)):=by
 obtain⟨a,b,c,rfl⟩:∃a b c,F=[a,b,c]:=by
  match F,hF with
  | [a,b,c],_=>exact⟨a,b,c,rfl⟩
 obtain⟨x,hx,ex⟩:=at3 a b c (n / 8);obtain⟨y,hy,ey⟩:=at3 a b c (n / 32);obtain⟨p,hp,ep⟩:=at4 (Zy [x]) (Zy [Qx,y]) (Zy [a,c,a]) (Zy [Qc]) (n / 128);obtain⟨q,hq,eq⟩:=at4 (Zy [x]) (Zy [Qx,y]) (Zy [a,c,a]) (Zy [Qc]) (n / 512);have one:∀p,p∈[Zy [x],Zy [Qx,y],Zy [a,c,a],Zy [Qc]]->∃r,RuleOk [a,b,c] r/\p=Zy r:=λp hp=>by
  simp only[bo,gk,or_false]at hp;rcases hp with h|h|h|h
  ·exact⟨[x],⟨by simp,x,by simp,.inl hx⟩,h⟩
  ·exact⟨[Qx,y],⟨by simp,y,by simp,.inl hy⟩,h⟩
  ·exact⟨[a,c,a],⟨by simp,a,by simp,.inl (by simp)⟩,h⟩
  ·exact⟨[Qc],⟨by simp,Qc,by simp,.inr rfl⟩,h⟩
 obtain⟨r1,o1,rfl⟩:=one p hp;obtain⟨r2,o2,rfl⟩:=one q hq;obtain⟨m,hm⟩:=Zww (Zy r1) (Zy r2) n;refine⟨[r1,r2].take m,by rw[gm];simp;omega,λr hr=>?_,?_⟩
 ·have:=List.mem_of_mem_take hr;simp only[bo,gk,or_false]at this;rcases this with rfl|rfl
  ·exact o1
  ·exact o2
 ·have a0:L2.atI [D.str a,D.str b,D.str c] 0=aA (.str a):=rfl;have a2:L2.atI [D.str a,D.str b,D.str c] 2=aA (.str c):=rfl;rw[List.map_take];unfold Zy at*;simp only[av,List.map_nil]at*;rw[<-hm];unfold Gen.Q6 Gen.B5;generalize r1.map D.str=R1 at*;generalize r2.map D.str=R2 at*;simp[ex,ey,ep,eq,a0,a2,s1,s2,s3,s4]
end My
namespace My
open DL PySem TT TX
theorem Ss{w:Str}(h:Nam w):w≠Qx:=λe=>(h.no 105 (by rw[e];decide+kernel)).1 rfl
theorem Zop{w:Str}(h:Nam w):w≠IN:=λe=>(h.no 105 (by rw[e];decide+kernel)).1 rfl
theorem Zjz:Qc≠IN:=by decide+kernel
theorem Zgy{i j:Nat}{t:Str}(h1:Yq i t)(h2:Yq j t):i=j:=by unfold Yq at h1 h2;rw[h1]at h2;have:=dm.inj h2;omega
theorem apart(F:List Str)(hF:∀f∈F,Nam f)(rs:List (List Str))(hr:∀r∈rs,RuleOk F r)(ws:List Wk)(hw:∀i w,ws[i]? =aA w->WP F i w):ws.Pairwise λa b=>∀m∈a.marks rs,m∉b.marks rs:=by
 refine List.pairwise_iff_getElem.mpr λi j hi hj hij m h1 h2=>?_;obtain⟨n1,l1,e1,_,r1,g1,v1⟩:=Qm _ _ _ _ m h1;obtain⟨n2,l2,e2,_,r2,g2,v2⟩:=Qm _ _ _ _ m h2;rw[e1]at e2;have e2:=b8.inj e2;have en:n1=n2:=by have:=(Prod.mk.inj e2).1;omega
 have el:l1=l2:=(Prod.mk.inj e2).2;subst en;subst el;rw[g1]at g2;have er:=dm.inj g2;subst er;obtain⟨f,hf,hf'⟩:=(hr r1 (cz g1)).has;have ni:f≠IN:=by
  rcases hf' with z|z
  ·exact Zop (hF f z)
  ·rw[z];exact Zjz
 have nk:f≠Qx:=by
  rcases hf' with z|z
  ·exact Ss (hF f z)
  ·rw[z];exact Zam
 rw[Rt]at v1 v2;split at v1
 ·rename_i a1;split at v2
  ·rename_i a2;obtain⟨x,hx⟩:=Option.isSome_iff_exists.mp (a1 f hf);obtain⟨y,hy⟩:=Option.isSome_iff_exists.mp (a2 f hf);have e:=(dm.inj v1).trans (dm.inj v2).symm;have e:=List.map_inj_left.mp e f hf;rw[hx,hy]at e;have e:x=y:=e;subst e;have w1:=(hw i ws[i] (az hi)).ends f x ni nk hx;have w2:=(hw j ws[j] (az hj)).ends f x ni nk hy;have:=Zgy w1 w2;omega
  ·cases v2
 ·cases v1
theorem Zb9(ns:List Int):∃ms:List Int,Ew (ns.map D.int) (aA 5) (aA 15)=ms.map D.int/\ms.length<=10:=by
 obtain⟨ms,e,_⟩:=Zjl ns (aA 5) (aA 15);refine⟨ms,e,?_⟩;have h:(Ew (ns.map D.int) (aA 5) (aA 15)).length<=10:=by unfold Ew;rw[gm];have e1:HT.sIx (ns.map D.int).length (ns.map D.int).length (aA 15)=min 15 (ns.map D.int).length:=HT.sIx_nat _ _ 15;have e2:HT.sIx (ns.map D.int).length 0 (aA 5)=min 5 (ns.map D.int).length:=HT.sIx_nat _ _ 5;omega
 rw[e,ao]at h;exact h
theorem Su{f g:D->D->Option Bool}(h:∀x y b,f x y=aA b->g x y=aA b):∀(xs ys:List D) (b:Bool),Qq f xs ys=aA b->Qq g xs ys=aA b
 |x::xs,y::ys,b,e=>by obtain⟨c,e1,e2⟩:=aa.mp e;obtain⟨d,e3,e4⟩:=aa.mp e2;exact aa.mpr ⟨c,h x y c e1,aa.mpr ⟨d,Su h xs ys d e3,e4⟩⟩
 | [],_,b,e=>e
 |_::_,[],b,e=>e
theorem Zlr:∀(n:Nat) (a b:D) (c:Bool),Wq n a b=aA c->M7 n a b=aA c
 |0,_,_,_,e=>by cases e
 |n+1,a,b,c,e=>by
  have up:=Su (Zlr n);have e:Uy (Wq n) a b=aA c:=e;show Cd (M7 n) a b=aA c;cases a with
  |lst xs=>cases b with
   |lst ys=>
    have e:(if xs.length=ys.length then Qq (Wq n) xs ys else aA aD)=aA c:=e;show(if xs.length=ys.length then Qq (M7 n) xs ys else aA aD)=aA c;by_cases h:xs.length=ys.length
    ·rw[if_pos h]at e⊢;exact up _ _ _ e
    ·rw[if_neg h]at e⊢;exact e
   |_=>exact e
  |tup xs=>cases b with
   |tup ys=>obtain⟨d,e1,e2⟩:=aa.mp (show(Qq (Wq n) xs ys).bind _=aA c from e);exact aa.mpr ⟨d,up _ _ _ e1,e2⟩
   |_=>exact e
  |dK ks vs=>cases b with
   |dK ks' vs'=>exact absurd e (by simp[Uy,eqS])
   |_=>exact e
  |_=>exact e
theorem Zgz{ws:List Wk}(nd:(ws.map Wk.key).Nodup)(ok:∀w∈ws,WkOk w):M7 48 (Yv ws) (Yv ws)=aA aC:=by
 refine Zf7 47 ⟨nd,by simp⟩ λv hv=>?_;obtain⟨w,hw,rfl⟩:=a6.mp hv;refine Zjn 46 _ λx hx=>?_;simp only[bo,gk,or_false]at hx;rcases hx with rfl|rfl
 ·exact D9 45 _
 ·refine Zf7 45 ⟨(ok w hw).nd,by rw[ao];exact(ok w hw).len⟩ λx hx=>?_;obtain⟨t,_,rfl⟩:=a6.mp hx;exact D9 44 _
theorem Zss(k:NK):PlD (Zs k):=by
 rcases k with l|⟨n,l⟩
 ·exact .tup λd hd=>by obtain⟨x,_,rfl⟩:=a6.mp hd;exact .str x
 ·refine .tup λd hd=>?_;simp only[bo,gk,or_false]at hd;rcases hd with rfl|rfl
  ·exact .int n
  ·exact .tup λd hd=>by obtain⟨x,_,rfl⟩:=a6.mp hd;exact .str x
theorem X4(ks:List NK):PlD (.lst (ks.map Zs)):=.lst λd hd=>by obtain⟨k,_,rfl⟩:=a6.mp hd;exact Zss k
theorem Zst(b:Str)(rs:List (List Str))(w:Wk):HpD 1 (Yr (Wf b rs w)):=by
 refine⟨_,_,_,rfl,⟨by simp[Wf],by simp[Wf],λe he=>?_⟩,?_,λe he=>?_,X4 _,X4 _,.lst λd hd=>?_⟩
 ·obtain⟨k,hk,rfl⟩:=a6.mp he;rw[au.mp hk];exact⟨b,[w.key],rfl⟩
 ·intro z;have z:=List.map_eq_nil_iff.mp z;have hm:Qx∈w.srt:=List.mem_filter.mpr ⟨(Y0 _).mem_iff.mpr (by simp),by decide+kernel⟩;have:(Qx,w.val Qx,[Bl b w.key])∈(Wf b rs w).fs:=List.mem_map_of_mem (f:=λf=>(f,w.val f,[Bl b w.key])) hm;rw[z]at this;cases this
 ·obtain⟨t,ht,rfl⟩:=a6.mp he;exact⟨t.1,_,rfl⟩
 ·obtain⟨t,ht,rfl⟩:=a6.mp hd;refine .tup λd hd=>?_;simp only[bo,gk,or_false]at hd;rcases hd with rfl|rfl|rfl
  ·exact .str _
  ·exact .str _
  ·exact X4 _
theorem Zj0(w:Wk):AR w.d:=.tup λd hd=>by
 simp only[bo,gk,or_false]at hd;rcases hd with rfl|rfl
 ·exact .str _
 ·exact .dK λd hd=>by obtain⟨t,_,rfl⟩:=a6.mp hd;exact .str t
theorem Zg0(A:Yg)(xs ys zs:List D)(h:A[9]? =aA (aA (.fz (.tup [.lst xs,.lst ys,.lst zs])))):Gen.Td A=aA (aD,A):=by
 unfold Gen.Td Gen.Zae;have l1:1<PySem.sizeLine:=by decide
 have l2:2<PySem.sizeLine:=by decide
 have iz:inZ (.bl aD) (.lst [.bl aC,.bl aC,.bl aC])=aA (.fz (.bl aD)):=rfl;simp[h,s0,l1,l2,iz,-inZ]
theorem law_true(ns:List Int)(hn:ns.length<=63):Gen.Rq [.lst (ns.map D.int)]=aA (.fz (.bl aC)):=by
 obtain⟨ms,em,hms⟩:=Zb9 ns;obtain⟨c0,hc0⟩:=Te ns 0;obtain⟨c1,hc1⟩:=Te ns 1;obtain⟨c2,hc2⟩:=Te ns 2;obtain⟨c3,hc3⟩:=Te ns 3;have m0:=Sg c0 16807;have m1:=Sg c1 16807;have m2:=Sg c2 39373;have m3:=Sg c3 69621;have p0:=Nd c0 16807;have p1:=Nd c1 16807;have p2:=Nd c2 39373;generalize c0 % 2147483647*16807 % 2147483647=X0 at*;generalize c1 % 2147483647*16807 % 2147483647=X1 at*;generalize c2 % 2147483647*39373 % 2147483647=X2 at*;generalize c3 % 2147483647*69621 % 2147483647=X3 at*;obtain⟨ks,k0,kl,knd,kn⟩:=Eh X0 p0 ms.length (by omega);obtain⟨F,f0,fl,fnd,fn⟩:=Eh X1 p1 3 (by omega);obtain⟨bs,b0,bl,_,_⟩:=Eh X2 p2 1 (by omega);obtain⟨b,rfl⟩:∃b,bs=[b]:=by
  match bs,bl with
  | [b],_=>exact⟨b,rfl⟩
 obtain⟨rs,rl,ro,r0⟩:=Zb8 F fl X3;have hK:Qx∉F:=λz=>Ss (fn _ z) rfl;obtain⟨ws,wk,wp,w0⟩:=Zb7 F fl hK ms ks (by omega) (by omega) knd;have shf:Shf rs ws:=⟨by rw[wk];exact knd,λw hw=>by
   obtain⟨i,hi,rfl⟩:=dz hw;exact(wp i _ (az hi)).ok,by
   have:=congrArg List.length wk;rw[ao]at this;omega,apart F fn rs ro ws wp⟩
 have rls:Rls rs:=⟨by omega,λr hr=>by have:=(ro r hr).len;omega⟩
 have d0:=Zjw b rs ws shf rls;have q0:=pool_of b rs ws shf rls;have es:=Zgz shf.nd shf.ok;have ep:M7 48 (.lst ((Rw b rs ws).map Yr)) (.lst ((Rw b rs ws).map Yr))=aA aC:=Zlr 48 _ _ _ (Zgf 40 _ (Zon b rs ws));have few:((Rw b rs ws).map Yr).length<=20:=by rw[ao];unfold Rw;rw[ao,(Y0 _).length_eq,ao];exact shf.few
 have hps:∀h∈(Rw b rs ws).map Yr,HpD 1 h:=λh hh=>by obtain⟨o,ho,rfl⟩:=a6.mp hh;obtain⟨k,_,rfl⟩:=a6.mp ho;exact Zst b rs _
 have ars:∀d∈[D.str b,Yv ws,.lst (rs.map Zy)],AR d:=λd hd=>by
  simp only[bo,gk,or_false]at hd;rcases hd with rfl|rfl|rfl
  ·exact .str _
  ·exact .dK λd hd=>by obtain⟨w,_,rfl⟩:=a6.mp hd;exact Zj0 w
  ·exact .lsts λr hr=>by obtain⟨f,hf,_⟩:=(ro r hr).has;exact λz=>by rw[z]at hf;cases hf
 have hb:L2.atI [D.str b] 0=aA (.str b):=rfl;have k0:Gen.Yy [.int X0,.int ((ms.map D.int).length:Int)]=aA (.ol (ks.map D.str)):=by rw[ao];exact k0
 have b0:Gen.Yy [.int X2,.int 1]=aA (.ol [.str b]):=b0;have f0:Gen.Yy [.int X1,.int 3]=aA (.ol (F.map D.str)):=f0;have hc0:Gen.Z6 [.lst (ns.map D.int),.int 0]=aA (.fz (.int c0)):=hc0;have hc1:Gen.Z6 [.lst (ns.map D.int),.int 1]=aA (.fz (.int c1)):=hc1;have hc2:Gen.Z6 [.lst (ns.map D.int),.int 2]=aA (.fz (.int c2)):=hc2;have hc3:Gen.Z6 [.lst (ns.map D.int),.int 3]=aA (.fz (.int c3)):=hc3;unfold Yv at d0 q0 es ars;clear shf rls hn hms kl knd kn fl fnd fn bl ro wp wk p0 p1 p2;generalize (Rw b rs ws).map Yr=OUT at*;generalize rs.map Zy=RD at*;generalize ws.map Wk.d=WD at*;generalize Zv (ws.map Wk.key)=WK at*;generalize ks.map D.str=KD at*;generalize F.map D.str=FD at*;generalize ms.map D.int=MD at*;generalize ns.map D.int=ND at*;have w:Gh 8 9 3 Gen.Qv (Zf (Za 4) (Zf (Za 6) (Zf (Za 5) Zl))) Gen.L5 Gen.Td [aA (.fz (.lst ND)),aA (.fz (.lst MD)),aA (.fz (.lst KD)),aA (.fz (.lst FD)),aA (.fz (.str b)),aA (.fz (.lst RD)),aA (.fz (.dK WK WD)),aA (.ol OUT),aB,aB]=
   aA (.nx [aA (.fz (.lst ND)),aA (.fz (.lst MD)),aA (.fz (.lst KD)),aA (.fz (.lst FD)),aA (.fz (.str b)),aA (.fz (.lst RD)),aA (.fz (.dK WK WD)),aA (.ol OUT),aB,aB]):=by
  refine Zbu (ds:=[.str b,.dK WK WD,.lst RD]) (δ1:=[aA (.fz (.lst ND)),aA (.fz (.lst MD)),aA (.fz (.lst KD)),aA (.fz (.lst FD)),aA (.fz (.str b)),aA (.fz (.lst RD)),aA (.fz (.dK WK WD)),aA (.ol OUT),aB,aB]) (sv:=.ol OUT) rfl q0 ⟨rfl,ars,by decide,by simp,by simp,1,OUT,rfl,hps,Yt (by omega),⟨[aA (.fz (.lst ND)),aA (.fz (.lst MD)),aA (.fz (.lst KD)),aA (.fz (.lst FD)),aA (.fz (.str b)),aA (.fz (.lst RD)),aA (.fz (.dK WK WD)),aA (.ol OUT),aA (.fz (.lst OUT)),aB],?_⟩,λxs ys zs=>⟨_,Zg0 _ xs ys zs rfl⟩⟩;unfold Gen.L5;simp[ep,-M7]
 unfold Gen.Rq Gen.Zgi;simp[em,hc0,hc1,hc2,hc3,m0,m1,m2,m3,k0,f0,b0,hb,r0,w0,d0,w,q0,ep,es,-M7]
end My
def PySem.W.Fast.tw4845258824021178764:=()
def PySem.W.Fast.tw5492618123939972234:=()
def PySem.W.Fast.tw8832184971215630386:=()
def PySem.W.Fast.tw4507543469265500320:=()
def PySem.W.Fast.tw3022045731633505550:=()
def PySem.W.Fast.tw17942881407606871146:=()
def PySem.W.Fast.tw11243161442827499463:=()
def PySem.W.Fast.tw609086427154674742:=()
def PySem.W.Fast.tw17851233534686475943:=()
def PySem.W.Fast.tw16125622291139650467:=()
def PySem.W.Fast.tw12089026702223676535:=()
def PySem.W.Fast.tw12840042899081712895:=()
def PySem.W.Fast.tw17138411747179753909:=()
def PySem.W.Fast.tw14607760299160668881:=()
def PySem.W.Fast.tw14008869931560348302:=()
def PySem.W.Fast.tw183062570387447465:=()
def PySem.W.Fast.tw2939725410209028231:=()
def PySem.W.Fast.tw10691666255851587110:=()
def PySem.W.Fast.tw2924354251140868854:=()
def PySem.W.Fast.tw9629871861332780324:=()
def PySem.W.Fast.tw17977044504797519781:=()
def PySem.W.Fast.tw801273076089040597:=()
def PySem.W.Fast.tw9650412494155191631:=()
def PySem.W.Fast.tw12943930649311535533:=()
def PySem.W.Fast.tw16181256736628498284:=()
def PySem.W.Fast.tw7187811180225488548:=()
def PySem.W.Fast.tw9171134500227875131:=()
def PySem.W.Fast.tw6377322765364122810:=()
def PySem.W.Fast.tw8303297073323514169:=()
def PySem.W.Fast.tw2512317617317021242:=()
def PySem.W.Fast.tw11856872547405115170:=()
def PySem.W.Fast.tw293409213488357986:=()
def PySem.W.Fast.tw13392972617276514298:=()
def PySem.W.Fast.tw14366927454079101789:=()
def PySem.W.Fast.tw5839060200278055401:=()
def PySem.W.Fast.tw6131241577408857302:=()
def PySem.W.Fast.tw13373345340285216809:=()
def PySem.W.Fast.tw16581887713558196171:=()
def PySem.W.Fast.tw1494711608981816294:=()
def PySem.W.Fast.tw16345285018564670270:=()
def PySem.W.Fast.tw6985333801933319284:=()
def PySem.W.Fast.tw10806210967322010783:=()
def PySem.W.Fast.tw4670765013172530678:=()
def PySem.W.Fast.tw7413226239135660278:=()
def PySem.W.Fast.tw12262096623218600829:=()
def PySem.W.Fast.tw14818936557868887965:=()
def PySem.W.Fast.tw14139217237671628270:=()
def PySem.W.Fast.tw17452604838618457399:=()
def PySem.W.Fast.tw6300836789769654022:=()
def PySem.W.Fast.tw3702613454779009641:=()
def PySem.W.Fast.tw17978505765284005971:=()
def PySem.W.Fast.tw8169342184490445576:=()
def PySem.W.Fast.tw9321816966499738585:=()
def PySem.W.Fast.tw11843797773702387572:=()
def PySem.W.Fast.tw15532938674175169868:=()
def PySem.W.Fast.tw3807545512860557811:=()
def PySem.W.Fast.tw17813940115329986927:=()
def PySem.W.Fast.tw10431935164492850351:=()
def PySem.W.Fast.tw7523747669658762521:=()
def PySem.W.Fast.tw13777650725666372002:=()
def PySem.W.Fast.tw2446835595756535341:=()
open PySem PySem.W PyProof.Rows
set_option maxRecDepth 100000 in
set_option maxHeartbeats 0 in
theorem PySem.Challenge.cw_citeward_k36_heaps_of_single_works_holds : PySem.Challenge.rw_citeward_k36_heaps_of_single_works.Holds := by
  w_on; o_law; k_head; (case hw => w_witness2)
  k_fill
  refine Gen.Zwv (l := PySem.Challenge.rw_citeward_k36_heaps_of_single_works) rfl rfl (fun w h Y => PySem.W.kIn_of Y) ?F My.law_true
  case F =>
    intro w mg fa h KX G hmg
    refine' Gen.Zoh KX G hmg ?ax0 ?Fx0 ?kx0 ?ax1 ?Fx1 ?kx1 ?ax2 ?Fx2 ?kx2 ?ax3 ?Fx3 ?kx3 ?ax4 ?Fx4 ?kx4 ?ax5 ?Fx5 ?kx5 ?ax6 ?Fx6 ?kx6 ?ax7 ?Fx7 ?kx7 ?ax8 ?Fx8 ?kx8 ?ax9 ?Fx9 ?kx9 ?ax10 ?Fx10 ?kx10 ?ax11 ?Fx11 ?kx11 ?ax12 ?Fx12 ?kx12 ?ax13 ?Fx13 ?kx13 ?ax14 ?lx14 ?cx14 ?kx14 ?zall ?zdict ?zenumerate ?zint ?zisinstance ?zlen ?zlist ?zrange ?zset ?zsorted ?zstr ?ztuple
    (case ax0 => k_is)
    (case Fx0 => exact ⟨_, L2.W4 (by k_is) (by k_is) (by k_is)⟩)
    (case kx0 => k_is)
    (case ax1 => k_is)
    (case Fx1 => exact ⟨_, L2.W4 (by k_is) (by k_is) (by k_is)⟩)
    (case kx1 => k_is)
    (case ax2 => k_is)
    (case Fx2 => exact ⟨_, L2.W4 (by k_is) (by k_is) (by k_is)⟩)
    (case kx2 => k_is)
    (case ax3 => k_is)
    (case Fx3 => exact ⟨_, L2.W4 (by k_is) (by k_is) (by k_is)⟩)
    (case kx3 => k_is)
    (case ax4 => k_is)
    (case Fx4 => exact ⟨_, L2.W4 (by k_is) (by k_is) (by k_is)⟩)
    (case kx4 => k_is)
    (case ax5 => k_is)
    (case Fx5 => exact ⟨_, L2.W4 (by k_is) (by k_is) (by k_is)⟩)
    (case kx5 => k_is)
    (case ax6 => k_is)
    (case Fx6 => exact ⟨_, L2.W4 (by k_is) (by k_is) (by k_is)⟩)
    (case kx6 => k_is)
    (case ax7 => k_is)
    (case Fx7 => exact ⟨_, L2.W4 (by k_is) (by k_is) (by k_is)⟩)
    (case kx7 => k_is)
    (case ax8 => k_is)
    (case Fx8 => exact ⟨_, L2.W4 (by k_is) (by k_is) (by k_is)⟩)
    (case kx8 => k_is)
    (case ax9 => k_is)
    (case Fx9 => exact ⟨_, L2.W4 (by k_is) (by k_is) (by k_is)⟩)
    (case kx9 => k_is)
    (case ax10 => k_is)
    (case Fx10 => exact ⟨_, L2.W4 (by k_is) (by k_is) (by k_is)⟩)
    (case kx10 => k_is)
    (case ax11 => k_is)
    (case Fx11 => exact ⟨_, L2.W4 (by k_is) (by k_is) (by k_is)⟩)
    (case kx11 => k_is)
    (case ax12 => k_is)
    (case Fx12 => exact ⟨_, L2.W4 (by k_is) (by k_is) (by k_is)⟩)
    (case kx12 => k_is)
    (case ax13 => k_is)
    (case Fx13 => exact ⟨_, L2.W4 (by k_is) (by k_is) (by k_is)⟩)
    (case kx13 => k_is)
    (case ax14 => k_is)
    (case lx14 => k_is)
    (case cx14 => k_is)
    (case kx14 => k_is)
    (case zall => k_is)
    (case zdict => k_is)
    (case zenumerate => k_is)
    (case zint => k_is)
    (case zisinstance => k_is)
    (case zlen => k_is)
    (case zlist => k_is)
    (case zrange => k_is)
    (case zset => k_is)
    (case zsorted => k_is)
    (case zstr => k_is)
    (case ztuple => k_is)
