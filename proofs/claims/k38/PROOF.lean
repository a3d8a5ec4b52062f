import PyProof.Rows.All
import Wide.All
import OpenK.AllK
import Wide.FinOn
import Lean
import PyProof.EqAt
import PyProof.EqKinds
import PyProof.TupleCall
import PyProof.NeKinds
import PyProof.EnumMake
import PyProof.ConsumeWalk
import PyProof.StrWalks
import PyProof.WalksMore
import PyProof.StrLawsNeg
import KE.KDictList
import KE.KLam
import KE.KMinKey
import KE.KSortTup
import KE.KUnpack
import PySem.Challenge.RW_citeward_k38_whole_a_books_pool
set_option Elab.async false
set_option linter.all false
set_option genSizeOf false
set_option genSizeOfSpec false
set_option maxRecDepth 100000
set_option maxHeartbeats 4000000
open Option renaming bind_eq_some_iff->aa,bind_some->cf,map_eq_some_iff->cq,some->df
open PySem renaming wpAny_bind->ab,wpAny_pure->af,Value->aj,Shared->aq,Addr->au,starEach->ba,wpAny->bd,Program->bv,model->bz,mainGlobals->b5,FuncData->cr,sizeLine->cx,Expr->c5,World->c6,wpAny_call_entry->de,Around->di,wpAny_newObj_type->dn,wpAny_loadPart'->dq,wpAny_callSpecial?_slot->du,sizeLine_eq->ff,cLine->fg,Heap->f8,codeAny_builtin->gn,backTo->gp,eval->gw,SetTable->gx,compareOp->g6,strIterType->g7,wpAny_isInstance->ic
open List renaming mem_cons_self->ad,length_map->ag,mem_cons_of_mem->am,mem_singleton->ao,mem_map->av,getElem?_eq_getElem->aw,getElem?_eq_some_iff->ax,length_append->ay,map_cons->a7,getElem?_map->a8,length_cons->bc,getD_eq_getElem?_getD->bg,mem_append->bh,map_map->bi,mem_cons->bo,size_toArray->bp,mem_append_right->bq,map_append->b4,mem_of_getElem?->b6,mem_append_left->b7,pairwise_map->ck,nodup_nil->cm,mem_range->cn,nodup_append->cu,range->cz,append_assoc->c7,mem_map_of_mem->c8,not_lt->dg,getElem?_append_left->dh,nil_append->dj,getElem?_eq_none->dy,nodup_cons->d3,getElem?_set_self->d4,length_singleton->d8,cons_lt_cons_iff->eh,map_congr_left->fj,getElem_of_mem->fq,lt_irrefl->f6,getElem?_set_ne->f7,getElem?_append_right->gc,exists_cons_of_ne_nil->g8,all_eq_true->ie
open PySem.W renaming Frag->ah,keepIn->bn,nsIn->cj,mg_of->dr,mg_none_of->d6
open PySem.Heap renaming get?_push_of_some->ar,get?_push_size->a9,lt_size->bf,get?_update_self->gv,SameBut->gz
open Nat renaming le_refl->az,ne_of_lt->b9,lt_of_lt_of_le->c9,le_trans->dk,lt_or_ge->dv,not_lt_zero->dz,zero_le->fu,lt_of_le_of_lt->gm,lt_irrefl->g9
open Array renaming length_toList->a6,getElem?_toList->cp,getElem?_eq_some_iff->gd
open Bool renaming false_ne_true->bj,false_eq_true->bm,not_true->ga
open PySem.Value renaming ref->bu,none->ci
open List.Nodup renaming length_le_of_subset->bx
open PySem.PassesOwn renaming never->b8
open Sum renaming inr->da,inl->gg
open PySem.Obj renaming mapSeq->dm
open PySem.Builtin.Str renaming occurrences->dw
open PyProof.Rows renaming seqObj->d5
open Int renaming emod_lt_of_pos->d7,emod_nonneg->gb,toNat_natCast->gy
open PySem.Around renaming under_plainId->f9
open PySem.Str renaming ofString->gh
open PySem.F renaming slot_dict_keyiterator_next->gk
open PySem.Paired renaming length->gq
open PySem.Heap.SameBut renaming update->gr
open List.Pairwise renaming and_mem->gu
open PySem.NameKind renaming free->ib
open Option renaming some->aA,none->aB
open Bool renaming true->aC,false->aD
namespace L2
open PySem PySem.Spec PyProof.Rows
noncomputable abbrev Key:=Sum Int Str
noncomputable def G4:Key->aj->Bool
 | .inl k,v=>Value.isInt k v
 | .inr x,v=>Value.isStrOf x v
noncomputable def Ztl(w:c6):Key->Int
 | .inl k=>hashInt k
 | .inr x=>hashStr w x
theorem Z5:∀{k:Key} {v:aj},G4 k v=aC->(∃i t,k=gg i/\v=Value.int i t)\/(∃x t,k=da x/\v=Value.str x t)
 | .inl i,v,h=>by obtain⟨t,e⟩:=Value.isInt_shape (k:=i) (v:=v) h;exact .inl ⟨i,t,rfl,e⟩
 | .inr x,v,h=>by obtain⟨t,e⟩:=Value.isStrOf_shape (x:=x) (v:=v) h;exact .inr ⟨x,t,rfl,e⟩
theorem Zbz(i:Int)(t:Tok):G4 (.inl i) (.int i t)=aC:=by simp[G4,Value.isInt]
theorem Zb0(x:Str)(t:Tok):G4 (.inr x) (.str x t)=aC:=by simp[G4,Value.isStrOf]
theorem Zml(a b:Int):decide ((gg a:Key)=gg b)=(a==b):=by
 by_cases e:a=b
 ·subst e;simp
 ·have h:¬(gg a:Key)=gg b:=λq=>e (gg.inj q);rw[decide_eq_false h];exact(beq_eq_false_iff_ne.mpr e).symm
theorem Zmm(a b:Str):decide ((da a:Key)=da b)=decide (a=b):=by
 by_cases e:a=b
 ·subst e;simp
 ·have h:¬(da a:Key)=da b:=λq=>e (da.inj q);rw[decide_eq_false h,decide_eq_false e]
theorem Zmn(a:Int)(b:Str):decide ((gg a:Key)=da b)=aD:=decide_eq_false (λq=>nomatch q)
theorem Zmo(a:Str)(b:Int):decide ((da a:Key)=gg b)=aD:=decide_eq_false (λq=>nomatch q)
noncomputable def Zp(prog:bv)(w:c6):PySem.KeyKind prog w Key where
 is:=G4
 hash:=Ztl w
 inj:=λv a b ha hb=>by
  rcases Z5 ha with⟨i,t,rfl,rfl⟩|⟨x,t,rfl,rfl⟩
  ·rcases Z5 hb with⟨j,u,rfl,e⟩|⟨y,u,rfl,e⟩
   ·injection e with e1 _;rw[e1]
   ·exact nomatch e
  ·rcases Z5 hb with⟨j,u,rfl,e⟩|⟨y,u,rfl,e⟩
   ·exact nomatch e
   ·injection e with e1 _;rw[e1]
 byValue:=λk v h=>by rcases Z5 h with⟨i,t,rfl,rfl⟩|⟨x,t,rfl,rfl⟩<;> rfl
 pyHash:=λhv h=>by
  rcases Z5 hv with⟨i,t,rfl,rfl⟩|⟨x,t,rfl,rfl⟩
  ·exact wpAny_pyHash_int h
  ·exact wpAny_pyHash_str h
 eqBool:=λhu hv h=>by
  rcases Z5 hu with⟨i,t,rfl,rfl⟩|⟨x,t,rfl,rfl⟩
  ·rcases Z5 hv with⟨j,u,rfl,rfl⟩|⟨y,u,rfl,rfl⟩
   ·rw[Zml]at h;exact wpAny_eqBool_int h
   ·rw[Zmn]at h;exact SeqAt.EqAt.int_str i t y u _ _ _ _ h
  ·rcases Z5 hv with⟨j,u,rfl,rfl⟩|⟨y,u,rfl,rfl⟩
   ·rw[Zmo]at h;exact SeqAt.EqAt.str_int x t j u _ _ _ _ h
   ·rw[Zmm]at h;exact wpAny_eqBool_str h
 «strs»:=λk x t v h=>by
  rcases Z5 h with⟨i,u,rfl,e⟩|⟨y,u,rfl,e⟩
  ·exact nomatch e
  ·injection e with e1 _;subst e1;cases v<;> rfl
theorem Zmp(prog:bv)(w:c6)(k:Key)(v:aj):(Zp prog w).is k v=G4 k v:=rfl
theorem Sk(prog:bv)(w:c6)(i:Int)(t:Tok):(Zp prog w).is (.inl i) (.int i t)=aC:=Zbz i t
theorem Sl(prog:bv)(w:c6)(x:Str)(t:Tok):(Zp prog w).is (.inr x) (.str x t)=aC:=Zb0 x t
noncomputable abbrev Zk:=Sum (List Str) (Int×List Str)
noncomputable def Wz(l:List Str):List Key:=l.map da
theorem Go{a b:List Str}(h:Wz a=Wz b):a=b:=by
 induction a generalizing b with
 |nil=>cases b with
  |nil=>rfl
  |cons y b=>simp[Wz]at h
 |cons x a ih=>cases b with
  |nil=>simp[Wz]at h
  |cons y b=>simp only[Wz,a7,List.cons.injEq]at h;rw[da.inj h.1,ih h.2]
theorem Dy(a b:List Str):decide (Wz a=Wz b)=decide (a=b):=by
 by_cases e:a=b
 ·rw[e];simp
 ·rw[decide_eq_false e,decide_eq_false λz=>e (Go z)]
noncomputable def O5(prog:bv)(w:c6)(h:f8):Zk->au->Prop
 | .inl l,a=>IsTupleKey (Zp prog w) h (Wz l) a
 | .inr (n,l),a=>∃o items m t b,h.get? a=aA o/\o.cls= .type "tuple"/\o.data= .seq items m/\items.toList=[.int n t,.ref b]/\IsTupleKey (Zp prog w) h (Wz l) b
noncomputable def Ye(prog:bv)(w:c6):Zk->Int
 | .inl l=>tupleKeyHash (Zp prog w) (Wz l)
 | .inr (n,l)=>reduceHash (Builtin.Tuple.tupleHashOf [hashInt n,tupleKeyHash (Zp prog w) (Wz l)])
noncomputable def Ay:Zk->Nat
 | .inl l=>(Wz l).length+1
 | .inr (_,l)=>1+((Wz l).length+1)+1
section
variable{prog:bv}{w:c6}{A:di}{E:aj->aq->Prop}{s:aq}
theorem O5.typeIs{k:Zk}{a:au}(x:O5 prog w s.heap k a):s.TypeIs (.ref a) "tuple":=by
 cases k with
 |inl l=>exact IsTupleKey.typeIs (show IsTupleKey (Zp prog w) s.heap (Wz l) a from x)
 |inr p=>obtain⟨o,_,_,_,_,ho,hc,_⟩:=x;exact⟨o,ho,hc⟩
theorem Az{l:List Str}{n:Int}{t:Tok}{vs:List aj}(h:ItemsAre (Zp prog w) (Wz l) (.int n t::vs)):False:=by
 cases l with
 |nil=>cases h
 |cons x l=>
  cases h with
  |cons h1 _=>
   rcases Z5 (k:=.inr x) (v:=.int n t) h1 with⟨_,_,e,_⟩|⟨_,_,_,e⟩
   ·cases e
   ·cases e
theorem O5.inj{h:f8}{a:au}{x y:Zk}(hx:O5 prog w h x a)(hy:O5 prog w h y a):x=y:=by
 have mix:∀{l:List Str} {n:Int} {l2:List Str},O5 prog w h (.inl l) a->O5 prog w h (.inr (n,l2)) a->False:=fun{l n l2} h1 h2=>by obtain⟨o,items,m,ho,_,hd,hi⟩:=h1;obtain⟨o',items',m',t,b,ho',_,hd',e,_⟩:=h2;obtain rfl:o=o':=df.inj (ho.symm.trans ho');rw[hd]at hd';injection hd' with z _;subst z;rw[e]at hi;exact Az hi
 cases x with
 |inl l=>cases y with
  |inl l2=>rw[Go (IsTupleKey.inj (show IsTupleKey (Zp prog w) h (Wz l) a from hx) hy)]
  |inr p=>exact(mix hx hy).elim
 |inr p=>cases y with
  |inl l2=>exact(mix hy hx).elim
  |inr q=>obtain⟨n,l⟩:=p;obtain⟨n2,l2⟩:=q;obtain⟨o,items,m,t,b,ho,_,hd,e,hb⟩:=hx;obtain⟨o',items',m',t',b',ho',_,hd',e',hb'⟩:=hy;obtain rfl:o=o':=df.inj (ho.symm.trans ho');rw[hd]at hd';injection hd' with z _;subst z;rw[e]at e';injection e' with e1 e2;injection e1 with e1 _;injection e2 with e2 _;injection e2 with e2;subst e1 e2;rw[Go (hb.inj hb')]
theorem O5.keeps{h h':f8}{k:Zk}{a d:au}{o:Obj}{es ep} (x:O5 prog w h k a) (ho:h.get? d=aA o) (hd:o.data= .dict es ep) (hs:gz d h h'):O5 prog w h' k a:=by
 cases k with
 |inl l=>exact IsTupleKey.keeps (show IsTupleKey (Zp prog w) h (Wz l) a from x) ho hd hs
 |inr p=>
  obtain⟨o',items,m,t,b,ho',hc,hd',e,hb⟩:=x;have hne:a≠d:=by rintro rfl;obtain rfl:o'=o:=df.inj (ho'.symm.trans ho);rw[hd]at hd';exact nomatch hd'
  exact⟨o',items,m,t,b,(hs.2 a hne).trans ho',hc,hd',e,hb.keeps ho hd hs⟩
theorem O5.mono{h h':f8}{k:Zk}{a:au}(x:O5 prog w h k a)(hk:∀b o,h.get? b=aA o->h'.get? b=aA o):O5 prog w h' k a:=by
 cases k with
 |inl l=>obtain⟨o,items,m,ho,r⟩:=x;exact⟨o,items,m,hk _ _ ho,r⟩
 |inr p=>obtain⟨o,items,m,t,b,ho,hc,hd,e,⟨o2,i2,m2,ho2,r2⟩⟩:=x;exact⟨o,items,m,t,b,hk _ _ ho,hc,hd,e,o2,i2,m2,hk _ _ ho2,r2⟩
theorem Zdx{k:Zk}{a:au}{Q:Int->aq->Prop}(hu:A.units+1<fg)(hk:O5 prog w s.heap k a)(h:Q (Ye prog w k) {s with toks:=s.toks+Ay k}):bd (bz prog w) A (pyHash (.ref a)) Q E s:=by
 cases k with
 |inl l=>exact wpAny_pyHash_tuple (knd:=Zp prog w) (by omega) hk h
 |inr p=>
  have hT:=hk.typeIs;obtain⟨n,l⟩:=p;obtain⟨o,items,m,t,b,ho,_,hd,hi,hb⟩:=hk;unfold pyHash
  first|unfold pyHashByItsType|skip
  first|refine ab (wpAny_cRoomFor_or (.inr (by omega)) ?_)|skip
  refine ab (wpAny_specialOf hT F.slot_tuple_hash.lookup ?_);show bd _ _ (if(aA (Value.builtin "tuple.__hash__")==aA ci)=aC then _ else _) Q E s;rw[if_neg (by rw[beq_builtin_none];exact bj)];refine ab (wpAny_specialOf hT F.slot_tuple_hash.lookup ?_);show bd _ _ (callSpecialIfBoundUnlessNone? (.ref a) "__hash__" _ >>=_) Q E s;refine ab (wpAny_callSpecialIfBoundUnlessNone?_slot hT F.slot_tuple_hash (de F.slot_tuple_hash hT F.entry_tuple_hash ?_ (F.args_tuple_hash_1 _)));show bd _ _ (Builtin.Tuple.tupleItemsOf (.ref a) >>=_) _ _ s;refine ab (wpAny_tupleItemsOf ho hd ?_);refine ab ?_;rw[<-Array.forIn_toList,hi];simp only[List.forIn_cons,List.forIn_nil];have hu1:A.in1.units<cLine:=hu;refine ab (ab (wpAny_pyHash_int ?_));refine af ?_;dsimp only;refine ab (ab (wpAny_pyHash_tuple (knd:=Zp prog w) (s:={s with toks:=s.toks+1}) hu1 hb ?_));refine af ?_;refine af ?_;generalize hg:tupleKeyHash (Zp prog w) (Wz l)=g at h⊢;show bd _ _ (retInt (Builtin.Tuple.tupleHashOf [hashInt n,g])) _ _ _;refine wpAny_ret_mkInt ?_;unfold Ye at h;dsimp only at h;rw[hg]at h;generalize Builtin.Tuple.tupleHashOf [hashInt n,g]=z at h⊢;show bd _ _ (if(decide (-(2:Int)^63<=z)&&decide (z<2^63))=aC then _ else _) Q E _;unfold reduceHash at h;by_cases hr:(decide (-(2:Int)^63<=z)&&decide (z<2^63))=aC
  ·rw[if_pos hr];rw[if_pos hr]at h;exact af (by simpa[Ay,Nat.add_assoc]using h)
  ·rw[if_neg hr];rw[if_neg hr]at h;exact ab (wpAny_rule (af (by simpa[Ay,Nat.add_assoc]using h)))
theorem Zb1{x y:Zk}{a b:au}{P:Fin->aq->Prop}(hu:A.units<fg)(hx:O5 prog w s.heap x a)(hy:O5 prog w s.heap y b)(h:P (.done (.ret (.bool (decide (x=y))))) s):
  bd (bz prog w) A (Builtin.«tuple.__eq__» ⟨[.ref a,.ref b],[]⟩) P E s:=by
 have mixS:∀(x:Str) (tx:Tok) (n:Int) (tn:Tok) {Q:Bool->aq->Prop},Q aD s->bd (bz prog w) A (eqBool (.str x tx) (.int n tn)) Q E s:=λx tx n tn Q q=>SeqAt.EqAt.str_int x tx n tn _ _ _ _ q;have mixI:∀(x:Str) (tx:Tok) (n:Int) (tn:Tok) {Q:Bool->aq->Prop},Q aD s->bd (bz prog w) A (eqBool (.int n tn) (.str x tx)) Q E s:=λx tx n tn Q q=>SeqAt.EqAt.int_str n tn x tx _ _ _ _ q;have hTb:=hy.typeIs;cases x with
 |inl l=>cases y with
  |inl l2=>
   refine tuple_eq_tree (knd:=Zp prog w) (x:=Wz l) (y:=Wz l2) hx hy ?_;rw[Dy];have:decide ((gg l:Zk)=gg l2)=decide (l=l2):=by
    by_cases e:l=l2
    ·rw[e];simp
    ·rw[decide_eq_false e,decide_eq_false λz=>e (gg.inj z)]
   rw[this]at h;exact h
  |inr p=>
   obtain⟨n,l2⟩:=p;obtain⟨oa,xs,na,hoa,_,hda,hia⟩:=hx;obtain⟨ob,ys,nb,t,c,hob,_,hdb,e,hc⟩:=hy;have hf:decide ((gg l:Zk)=da (n,l2))=aD:=decide_eq_false λz=>nomatch z;rw[hf]at h;show bd _ _ (isInstance (.ref b) (.type "tuple") >>=_) _ _ s;refine ab (ic hTb isSubtype_tuple_tuple ?_);simp only[ga,bm,if_false];refine ab (wpAny_tupleItemsOf hoa hda ?_);refine ab (wpAny_tupleItemsOf hob hdb ?_);rw[e];have sy:ys.size=2:=by rw[<-a6,e];rfl
   cases l with
   |nil=>
    generalize hxs:xs.toList=vs at hia;cases hia;have sx:xs.size=0:=by rw[<-a6,hxs];rfl
    simp only[List.zip_nil_left,List.forIn_nil];refine ab (af ?_);refine af ?_;show P (.done (.ret (.bool (xs.size==ys.size)))) s;rw[sx,sy];exact h
   |cons x l=>
    generalize hxs:xs.toList=vs at hia;cases hia with
    | @cons _ v _ vs h1 _=>
     rcases Z5 (k:=.inr x) (v:=v) h1 with⟨_,_,z,_⟩|⟨_,tx,z,rfl⟩
     ·cases z
     ·simp only[List.zip_cons_cons,List.forIn_cons];refine ab (ab (ab (mixS _ _ _ _ ?_)));simp only[Bool.not_false,if_true];exact ab (af (af (af (af h))))
 |inr p=>cases y with
  |inl l=>
   obtain⟨n,l2⟩:=p;obtain⟨ob,ys,nb,t,c,hob,_,hdb,e,hc⟩:=hx;obtain⟨oa,xs,na,hoa,_,hda,hia⟩:=hy;have hf:decide ((da (n,l2):Zk)=gg l)=aD:=decide_eq_false λz=>nomatch z;rw[hf]at h;show bd _ _ (isInstance (.ref b) (.type "tuple") >>=_) _ _ s;refine ab (ic hTb isSubtype_tuple_tuple ?_);simp only[ga,bm,if_false];refine ab (wpAny_tupleItemsOf hob hdb ?_);refine ab (wpAny_tupleItemsOf hoa hda ?_);rw[e];have sy:ys.size=2:=by rw[<-a6,e];rfl
   cases l with
   |nil=>
    generalize hxs:xs.toList=vs at hia;cases hia;have sx:xs.size=0:=by rw[<-a6,hxs];rfl
    simp only[List.zip_nil_right,List.forIn_nil];refine ab (af ?_);refine af ?_;show P (.done (.ret (.bool (ys.size==xs.size)))) s;rw[sx,sy];exact h
   |cons x l=>
    generalize hxs:xs.toList=vs at hia;cases hia with
    | @cons _ v _ vs h1 _=>
     rcases Z5 (k:=.inr x) (v:=v) h1 with⟨_,_,z,_⟩|⟨_,tx,z,rfl⟩
     ·cases z
     ·simp only[List.zip_cons_cons,List.forIn_cons];refine ab (ab (ab (mixI _ _ _ _ ?_)));simp only[Bool.not_false,if_true];exact ab (af (af (af (af h))))
  |inr q=>
   obtain⟨n,l⟩:=p;obtain⟨n2,l2⟩:=q;obtain⟨oa,xs,na,ta,ca,hoa,_,hda,ea,hca⟩:=hx;obtain⟨ob,ys,nb,tb,cb,hob,_,hdb,eb,hcb⟩:=hy;show bd _ _ (isInstance (.ref b) (.type "tuple") >>=_) _ _ s;refine ab (ic hTb isSubtype_tuple_tuple ?_);simp only[ga,bm,if_false];refine ab (wpAny_tupleItemsOf hoa hda ?_);refine ab (wpAny_tupleItemsOf hob hdb ?_);rw[ea,eb];have sx:xs.size=2:=by rw[<-a6,ea];rfl
   have sy:ys.size=2:=by rw[<-a6,eb];rfl
   simp only[List.zip_cons_cons,List.zip_nil_left,List.forIn_cons,List.forIn_nil];refine ab (ab (ab (wpAny_eqBool_int ?_)));by_cases hn:n=n2
   ·subst hn;simp only[beq_self_eq_true,ga,bm,if_false];refine af ?_;dsimp only;refine ab (ab (wpAny_eqBool_tuple (knd:=Zp prog w) hu hca hcb ?_));rw[Dy];by_cases hl:l=l2
    ·subst hl;simp only[decide_true,ga,bm,if_false];refine af (af (af ?_));show P (.done (.ret (.bool (xs.size==ys.size)))) s;rw[sx,sy];simpa using h
    ·simp only[decide_eq_false hl,Bool.not_false,if_true];have hf:decide ((da (n,l):Zk)=da (n,l2))=aD:=decide_eq_false λz=>hl (by injection z with z;injection z);rw[hf]at h;exact ab (af (af (af (af h))))
   ·have hb:(n==n2)=aD:=beq_eq_false_iff_ne.mpr hn;simp only[hb,Bool.not_false,if_true];have hf:decide ((da (n,l):Zk)=da (n2,l2))=aD:=decide_eq_false λz=>hn (by injection z with z;injection z);rw[hf]at h;exact ab (af (af (af (af h))))
theorem Zpk{x y:Zk}{a b:au}{Q:Bool->aq->Prop}(hu:A.units+1<fg)(hx:O5 prog w s.heap x a)(hy:O5 prog w s.heap y b)(h:Q (decide (x=y)) s):bd (bz prog w) A (eqBool (.ref a) (.ref b)) Q E s:=by
 unfold eqBool
 try with_reducible refine wpAny_holding ?_
 show bd _ _ (if(bu a==bu b)=aC then _ else _) Q E s;by_cases hab:(bu a==bu b)=aC
 ·rw[if_pos hab];have e:a=b:=by have:=eq_of_beq hab;injection this
  subst e;obtain rfl:=hx.inj hy;exact ab (wpAny_rule (af (by simpa using h)))
 ·rw[if_neg hab];exact ab (wpAny_richCompare_same_room (op:=.Eq) hx.typeIs hy.typeIs F.slot_tuple_eq
   (de F.slot_tuple_eq hx.typeIs F.entry_tuple_eq (Zb1 (A:=A.in1) hu hx hy ⟨_,rfl,(λe=>nomatch e),wpAny_truthy_bool h⟩) (F.args_tuple_eq_2 _ _)) (by omega))
theorem Dz{m:Nat}{ks:List Key}{a:au}{Q:Bool->aq->Prop}(hk:IsTupleKey (Zp prog w) s.heap ks a)(h:Q aC s):bd (bz prog w) A (eqIsQuiet (m+1) (.ref a)) Q E s:=by
 have hT:=hk.typeIs;obtain⟨o,items,n,ho,_,hd,hi⟩:=hk;unfold eqIsQuiet;refine ab (wpAny_specialOf hT F.slot_tuple_eq.lookup ?_);show bd _ _ (isInstance (.ref a) (.type "tuple") >>=_) _ _ s;refine ab (ic hT isSubtype_tuple_tuple ?_);simp only[ga,bm,if_false];refine ab (wpAny_seqItems ho hd ?_);refine ab ?_;show bd _ _ (forIn items _ _) _ _ s;rw[<-Array.forIn_toList];refine wpAny_forIn_list _ (λrest r s'=>r.1=aB/\s'=s/\∀v∈rest,carriedByValue v=aC) _ ?_ ?_ _ _ ⟨rfl,rfl,hi.byValue⟩
 ·rintro v rest r s' ⟨hr,rfl,hall⟩;rw[eqIsQuiet_byValue _ (hall v ad)];refine ab (af ?_);simp only[ga,bm,if_false];exact af ⟨rfl,rfl,λu hu'=>hall u (am _ hu')⟩
 ·rintro⟨r1,r2⟩ s' ⟨hr,rfl,_⟩;simp only at hr;subst hr;exact af h
theorem Nm{k:Zk}{a:au}{Q:Bool->aq->Prop}(hk:O5 prog w s.heap k a)(h:Q aC s):bd (bz prog w) A (eqIsQuiet 8 (.ref a)) Q E s:=by
 cases k with
 |inl l=>exact Dz hk h
 |inr p=>have hT:=hk.typeIs;obtain⟨n,l⟩:=p;obtain⟨o,items,m,t,b,ho,_,hd,hi,hb⟩:=hk;unfold eqIsQuiet;refine ab (wpAny_specialOf hT F.slot_tuple_eq.lookup ?_);show bd _ _ (isInstance (.ref a) (.type "tuple") >>=_) _ _ s;refine ab (ic hT isSubtype_tuple_tuple ?_);simp only[ga,bm,if_false];refine ab (wpAny_seqItems ho hd ?_);refine ab ?_;show bd _ _ (forIn items _ _) _ _ s;rw[<-Array.forIn_toList,hi];simp only[List.forIn_cons,List.forIn_nil];rw[eqIsQuiet_byValue _ (v:=Value.int n t) rfl];refine ab (ab (af ?_));simp only[ga,bm,if_false];refine af ?_;dsimp only;refine ab (ab (Dz hb ?_));simp only[ga,bm,if_false];exact af (af (af h))
end
noncomputable def Kh(prog:bv)(w:c6):HeapKind prog w Zk where
 is:=O5 prog w
 hash:=Ye prog w
 draws:=Ay
 room:=λA=>A.units+1<fg
 inj:=λhx hy=>hx.inj hy
 keeps:=λx ho hd hs=>x.keeps ho hd hs
 pyHash:=λhu hk h=>Zdx hu hk h
 eqBool:=λhu hx hy h=>Zpk hu hx hy h
 quiet:=λhk h=>Nm hk h
inductive V where
 |non|bl (b:Bool)|int (i:Int)|str (x:Str)|byt (b:Array UInt8)|flt (b:UInt64)|ref (a:au)|ty (n:String)
 deriving DecidableEq
noncomputable def Zz:V->aj->Prop
 | .non,u=>u=ci
 | .bl b,u=>u=Value.bool b
 | .int i,u=>∃t,u=Value.int i t
 | .str x,u=>∃t,u=Value.str x t
 | .byt b,u=>∃t,u=Value.bytes b t
 | .flt b,u=>∃t,u=Value.float b t
 | .ref a,u=>u=bu a
 | .ty n,u=>u=Value.type n
noncomputable abbrev Z3:List V->List aj->Prop:=Paired Zz
theorem Z3.length{xs:List V}{us:List aj}(r:Z3 xs us):xs.length=us.length:=gq r
theorem Z3.get:∀{xs:List V} {us:List aj} {i:Nat} {x:V},Z3 xs us->xs[i]? =aA x->∃u,us[i]? =aA u/\Zz x u
 |_,_,_,_,.nil,e=>by simp at e
 |_,_,0,_,.cons r _,e=>by simp at e;subst e;exact⟨_,rfl,r⟩
 |_,_,i+1,x,.cons _ t,e=>by obtain⟨u,h1,h2⟩:=Z3.get (i:=i) (x:=x) t (by simpa using e);exact⟨u,by simpa using h1,h2⟩
theorem Z3.append:∀{xs ys:List V} {us ws:List aj},Z3 xs us->Z3 ys ws->Z3 (xs++ys) (us++ws)
 |_,_,_,_,.nil,s=>s
 |_,_,_,_,.cons r t,s=>.cons r (Z3.append t s)
theorem Z3.take:∀{xs:List V} {us:List aj} (n:Nat),Z3 xs us->Z3 (xs.take n) (us.take n)
 |_,_,0,_=>.nil
 |_,_,_+1,.nil=>.nil
 |_,_,n+1,.cons r t=>.cons r (Z3.take n t)
theorem Z3.drop:∀{xs:List V} {us:List aj} (n:Nat),Z3 xs us->Z3 (xs.drop n) (us.drop n)
 |_,_,0,r=>r
 |_,_,_+1,.nil=>.nil
 |_,_,n+1,.cons _ t=>Z3.drop n t
noncomputable def Ry:Option V->Option aj->Prop
 |some v,aA u=>Zz v u
 |none,aB=>True
 |_,_=>False
noncomputable def KV{κ:Type}:List (κ×V)->List (κ×aj)->Prop:=Paired λ(p:κ×V) (q:κ×aj)=>p.1=q.1/\Zz p.2 q.2
noncomputable def kV:Key->V
 | .inl i=>.int i
 | .inr x=>.str x
inductive HO where
 |lst (xs:List V)
 |tup (xs:List V)
 |dK (kvs:List (Key×V)) (ep:Nat)|dT (kvs:List (List Key×V)) (ep:Nat) (bs:List au)|dN (kvs:List (Zk×V)) (ep:Nat) (bs:List au)
 |set (S:Int->Bool) (n:Nat)
 |ins (C dx:au) (fs:List (Str×V))
 |own (x:au)
 |xd (fs:List (Str×V))
 |met (f x:au)
 |rng (lo hi:Int)
 |frz (o:Obj) (u:HO)
 |tbl (ps:Array aj)
 |tab (q:Str)
 |ext (φ:f8->Prop)
noncomputable abbrev Hp:=au->Option HO
noncomputable def Y0(H:Hp)(a:au)(o:HO):Hp:=λb=>if b=a then aA o else H b
theorem Yr{H:Hp}{a:au}{o:HO}:Y0 H a o a=aA o:=by unfold Y0;rw[if_pos rfl]
theorem Zv{H:Hp}{a b:au}{o:HO}(h:b≠a):Y0 H a o b=H b:=by unfold Y0;rw[if_neg h]
theorem Zh9{H:Hp}{a:au}{o u:HO}:Y0 (Y0 H a o) a u=Y0 H a u:=by funext b;unfold Y0;split<;> rfl
theorem Ea{H:Hp}{a b:au}{o u:HO}(h:H a=aA o)(h':H b=aA u)(d:o≠u):a≠b:=by intro e;subst e;rw[h]at h';exact d (df.inj h')
theorem Wa{H:Hp}{a b:au}{o:HO}(h:H a=aA o)(h':H b=aB):a≠b:=by intro e;subst e;rw[h]at h';cases h'
noncomputable def Jh(H:Hp):Zk->au->Prop
 | .inl l,b=>H b=aA (.tup ((Wz l).map kV))
 | .inr (n,l),b=>∃c,H b=aA (.tup [.int n,.ref c])/\H c=aA (.tup ((Wz l).map kV))
theorem Jh.mono{H H':Hp}{k:Zk}{b:au}(h:Jh H k b)(ht:∀b xs,H b=aA (.tup xs)->H' b=aA (.tup xs)):Jh H' k b:=by
 cases k with
 |inl l=>exact ht _ _ h
 |inr p=>obtain⟨c,h1,h2⟩:=h;exact⟨c,ht _ _ h1,ht _ _ h2⟩
section
variable(P:bv)(w:c6)
noncomputable def Yb(H:Hp)(h:f8)(a:au):HO->Prop
 | .lst xs=>xs.length<=sizeLine/\∃(its:List aj) (n:Nat),Z3 xs its/\h.get? a=aA {cls:=.type "list",data:=.seq its.toArray n}
 | .tup xs=>xs.length<=sizeLine/\∃its:List aj,Z3 xs its/\IsTup h a its.toArray
 | .dK kvs ep=>kvs.length<=sizeLine/\(a==sysModules)=aD/\∃vs,KV kvs vs/\h.DictAt (Zp P w) a vs ep
 | .dT kvs ep bs=>kvs.length<=sizeLine/\(a==sysModules)=aD/\∃xs:List (List Key×au×aj),
   Paired (λ(p:List Key×V) (q:List Key×au×aj)=>p.1=q.1/\H q.2.1=aA (.tup (p.1.map kV))/\Zz p.2 q.2.2) kvs xs/\
   ∃o es,h.get? a=aA o/\o.ExactDict/\o.data= .dict es ep/\es.toList=xs.map (entryOfKey (tupleKind (Zp P w)))/\(xs.map (·.1)).Nodup/\(xs.map λx=>x.2.1)=bs
 | .dN kvs ep bs=>kvs.length<=sizeLine/\(a==sysModules)=aD/\∃xs:List (Zk×au×aj),
   Paired (λ(p:Zk×V) (q:Zk×au×aj)=>p.1=q.1/\Jh H p.1 q.2.1/\Zz p.2 q.2.2) kvs xs/\
   ∃o es,h.get? a=aA o/\o.ExactDict/\o.data= .dict es ep/\es.toList=xs.map (entryOfKey (Kh P w))/\(xs.map (·.1)).Nodup/\(xs.map λx=>x.2.1)=bs
 | .set S n=>h.SetOf (intKind P w) a S n
 | .ins C dx fs=>H dx=aA (.own a)/\fs.length<=1000/\dx≠a/\h.get? a=aA (PySem.W.instObj C dx)/\
   ∃mA,h.Ns1 dx mA/\(∀f,Ry (fs.lookup f) (mA f))/\PySem.Within mA (fs.map (·.1))
 | .own _=>∃o,h.get? a=aA o
 | .xd fs=>∃mA,h.Ns1 a mA/\∀f,Ry (fs.lookup f) (mA f)
 | .rng lo hi=>∃t u v,h.get? a=aA {cls:=.type "range",data:=.fields #[.int lo t,.int hi u,.int 1 v]}
 | .frz o u=>h.get? a=aA o/\Yb H h a u
 | .tbl ps=>h.get? a=aA {cls:=.none,data:=.fields ps}
 | .met f x=>h.get? a=aA (PySem.W.methodObj (.ref f) (.ref x))
 | .tab q=>∃ps:Array aj,h.get? a=aA {cls:=.none,data:=.fields ps}/\TriplesOk ps.toList/\∀pos cv,codeAmong pos ps.toList=aA cv->∃c o vs t,cv= .ref c/\H c=aA (.frz o (.own a))/\o.data= .fields vs/\vs[1]? =aA (.str q t)
 | .ext φ=>φ h/\(∃o,h.get? a=aA o)/\∀h1 h2:f8,φ h1->(∀o,h1.get? a=aA o->h2.get? a=aA o)->φ h2
noncomputable def Re(H:Hp)(h:f8):Prop:=∀a o,H a=aA o->Yb P w H h a o
end
section
variable{P:bv}{w:c6}{H H':Hp}{h h':f8}{a:au}{o:HO}
theorem Yb.lt(x:Yb P w H h a o):a<h.objs.size:=by
 cases o with
 |lst xs=>obtain⟨_,_,_,_,e⟩:=x;exact bf e
 |tup xs=>obtain⟨_,_,_,p⟩:=x;exact p.lt
 |dK kvs ep=>obtain⟨_,_,_,_,o,_,e,_⟩:=x;exact bf e
 |dT kvs ep bs=>obtain⟨_,_,_,_,o,_,e,_⟩:=x;exact bf e
 |dN kvs ep bs=>obtain⟨_,_,_,_,o,_,e,_⟩:=x;exact bf e
 |set S n=>obtain⟨o,_,_,_,e,_⟩:=x;exact bf e
 |ins C dx fs=>obtain⟨_,_,_,e,_⟩:=x;exact bf e
 |own y=>obtain⟨_,e⟩:=x;exact bf e
 |xd fs=>obtain⟨_,⟨_,_,_,e,_⟩,_⟩:=x;exact bf e
 |rng lo hi=>obtain⟨_,_,_,e⟩:=x;exact bf e
 |frz ob u=>obtain⟨e,_⟩:=x;exact bf e
 |tbl ps=>exact bf (show h.get? a=aA _ from x)
 |met f y=>exact bf (show h.get? a=aA _ from x)
 |tab q=>obtain⟨_,e,_⟩:=x;exact bf e
 |ext φ=>obtain⟨_,⟨_,e⟩,_⟩:=x;exact bf e
theorem Paired.mapP{α β:Type}{F G:α->β->Prop}{l₁:List α}{l₂:List β}(h:Paired F l₁ l₂)(f:∀a b,F a b->G a b):Paired G l₁ l₂:=by
 induction h with
 |nil=>exact .nil
 |cons r _ ih=>exact .cons (f _ _ r) ih
theorem Yb.stay(x:Yb P w H h a o)(k:∀b u,(b=a\/H b=aA (.own a))->h.get? b=aA u->h'.get? b=aA u)
  (ho:∀b,H b=aA (.own a)->H' b=aA (.own a)) (ht:∀b xs,H b=aA (.tup xs)->H' b=aA (.tup xs))
  (hz:∀b o,H b=aA (.frz o (.own a))->H' b=aA (.frz o (.own a)):=by first|exact λ_ _ q=>q| (intro b o q;rw[Zv (Wa q (by assumption))];exact q)):Yb P w H' h' a o:=by
 induction o with
 |lst xs=>obtain⟨z,its,n,r,e⟩:=x;exact⟨z,its,n,r,k _ _ (.inl rfl) e⟩
 |tup xs=>obtain⟨z,its,r,ob,e,c⟩:=x;exact⟨z,its,r,ob,k _ _ (.inl rfl) e,c⟩
 |dK kvs ep=>obtain⟨z,y,vs,r,ob,es,e,c⟩:=x;exact⟨z,y,vs,r,ob,es,k _ _ (.inl rfl) e,c⟩
 |dT kvs ep bs=>obtain⟨z,y,xs,r,ob,es,e,c⟩:=x;exact⟨z,y,xs,Paired.mapP r λp q z=>⟨z.1,ht _ _ z.2.1,z.2.2⟩,ob,es,k _ _ (.inl rfl) e,c⟩
 |dN kvs ep bs=>obtain⟨z,y,xs,r,ob,es,e,c⟩:=x;exact⟨z,y,xs,Paired.mapP r λp q z=>⟨z.1,z.2.1.mono ht,z.2.2⟩,ob,es,k _ _ (.inl rfl) e,c⟩
 |set S n=>obtain⟨ob,es,ep,t,e,c⟩:=x;exact⟨ob,es,ep,t,k _ _ (.inl rfl) e,c⟩
 |ins C dx fs=>obtain⟨d,z,ne,e,mA,⟨od,es,ep,e2,c⟩,r⟩:=x;exact⟨ho _ d,z,ne,k _ _ (.inl rfl) e,mA,⟨od,es,ep,k _ _ (.inr d) e2,c⟩,r⟩
 |own y=>obtain⟨ob,e⟩:=x;exact⟨ob,k _ _ (.inl rfl) e⟩
 |xd fs=>obtain⟨mA,⟨od,es,ep,e,c⟩,r⟩:=x;exact⟨mA,⟨od,es,ep,k _ _ (.inl rfl) e,c⟩,r⟩
 |rng lo hi=>obtain⟨t,u,v,e⟩:=x;exact⟨t,u,v,k _ _ (.inl rfl) e⟩
 |frz ob u ih=>obtain⟨e,q⟩:=x;exact⟨k _ _ (.inl rfl) e,ih q⟩
 |tbl ps=>have e:h.get? a=aA {cls:=.none,data:=.fields ps}:=x;show h'.get? a=aA {cls:=.none,data:=.fields ps};exact k a _ (.inl rfl) e
 |met f y=>have e:h.get? a=aA (PySem.W.methodObj (.ref f) (.ref y)):=x;show h'.get? a=aA (PySem.W.methodObj (.ref f) (.ref y));exact k a _ (.inl rfl) e
 |tab q=>obtain⟨ps,e,t,c⟩:=x;refine⟨ps,k _ _ (.inl rfl) e,t,λpos cv z=>?_⟩;obtain⟨c1,o1,vs,tt,e1,e2,r⟩:=c pos cv z;exact⟨c1,o1,vs,tt,e1,hz _ _ e2,r⟩
 |ext φ=>obtain⟨p,⟨o,e⟩,st⟩:=x;exact⟨st _ _ p λo q=>k _ _ (.inl rfl) q,⟨o,k _ _ (.inl rfl) e⟩,st⟩
theorem Re.lt(x:Re P w H h)(e:H a=aA o):a<h.objs.size:=(x a o e).lt
theorem Re.fresh(x:Re P w H h)(e:h.objs.size<=a):H a=aB:=by
 cases q:H a with
 |none=>rfl
 |some u=>exact absurd (c9 (x.lt q) e) (g9 _)
theorem Re.kept(x:Re P w H h)(k:∀b u,h.get? b=aA u->h'.get? b=aA u):Re P w H h':=λa o e=>
 (x a o e).stay (λb u _ q=>k b u q) (λ_ q=>q) λ_ _ q=>q
theorem Re.laid(x:Re P w H h)(k:∀b u,h.get? b=aA u->h'.get? b=aA u)(hp:h.objs.size<=a)(new:Yb P w (Y0 H a o) h' a o):Re P w (Y0 H a o) h':=λb u e=>by
 have hn:=x.fresh hp;by_cases hb:b=a
 ·subst hb;rw[Yr]at e;cases e;exact new
 ·rw[Zv hb]at e;exact(x b u e).stay (λc v _ q=>k c v q) (λc q=>by rw[Zv (Wa q hn)];exact q) λc xs q=>by rw[Zv (Wa q hn)];exact q
end
noncomputable def Rd(H:Hp)(a:au)(u:HO):Prop:=H a=aA u\/∃o,H a=aA (.frz o u)
theorem Rd.ok{P:bv}{w:c6}{H:Hp}{h:f8}{a:au}{u:HO}(r:Rd H a u)(x:Re P w H h):Yb P w H h a u:=by
 rcases r with r|⟨o,r⟩
 ·exact x a u r
 ·obtain⟨_,q⟩:=x a _ r;exact q
noncomputable def HK(H:Hp)(a:au)(kvs:List (Key×V)):Prop:=∃ep,H a=aA (.dK kvs ep)
noncomputable def HTt(H:Hp)(a:au)(kvs:List (List Key×V)):Prop:=∃ep bs,H a=aA (.dT kvs ep bs)
noncomputable def RdK(H:Hp)(a:au)(kvs:List (Key×V)):Prop:=∃ep,Rd H a (.dK kvs ep)
noncomputable def RdT(H:Hp)(a:au)(kvs:List (List Key×V)):Prop:=∃ep bs,Rd H a (.dT kvs ep bs)
theorem HK.rd{H:Hp}{a:au}{kvs:List (Key×V)}(h:HK H a kvs):RdK H a kvs:=let⟨ep,h⟩:=h;⟨ep,.inl h⟩
noncomputable def Sm(kvs:List (List Key×V))(bs:List au)(k:List Key)(b:au):List Addr:=if(kvs.any λkv=>decide (kv.1=k))=aC then bs else bs++[b]
theorem HTt.rd{H:Hp}{a:au}{kvs:List (List Key×V)}(h:HTt H a kvs):RdT H a kvs:=let⟨ep,bs,h⟩:=h;⟨ep,bs,.inl h⟩
noncomputable def Mut:Option HO->Prop
 |some (.lst _)=>True
 |some (.dK _ _)=>True
 |some (.dT _ _ _)=>True
 |some (.dN _ _ _)=>True
 |some (.set _ _)=>True
 |some (.ins _ _ _)=>True
 |some (.ext _)=>True
 |_=>False
section
variable{P:bv}{w:c6}{H:Hp}{h h':f8}{x e:au}{o':HO}
theorem Re.write(ok:Re P w H h)(mu:Mut (H x))(he:e=x\/H e=aA (.own x))(k:∀b u,b≠e->h.get? b=aA u->h'.get? b=aA u)(heo:∃u,h'.get? e=aA u)
  (new:Yb P w (Y0 H x o') h' x o'):Re P w (Y0 H x o') h':=λb u q=>by
 have nown:∀c y,H c=aA (.own y)->c≠x:=λc y r z=>by subst z;rw[r]at mu;exact mu
 have ntup:∀c xs,H c=aA (.tup xs)->c≠x:=λc xs r z=>by subst z;rw[r]at mu;exact mu
 by_cases hb:b=x
 ·subst hb;rw[Yr]at q;cases q;exact new
 ·rw[Zv hb]at q;by_cases hbe:b=e
  ·have q':H b=aA (.own x):=by
    rcases he with z|z
    ·exact absurd (hbe.trans z) hb
    ·rw[hbe];exact z
   rw[q]at q';cases q';obtain⟨v,hv⟩:=heo;exact⟨v,by rw[hbe];exact hv⟩
  ·refine(ok b u q).stay (λc v hc r=>k c v ?_ r) (λc r=>by rw[Zv (nown c b r)];exact r) (λc xs r=>by rw[Zv (ntup c xs r)];exact r) λc o r=>by rw[Zv (λz=>by subst z;rw[r]at mu;exact mu)];exact r
   rcases hc with rfl|hc
   ·exact hbe
   ·rintro rfl;rcases he with z|z
    ·exact nown c b hc z
    ·rw[hc]at z;cases z;exact hb rfl
end
structure Un(fs ex:List au)(H H':Hp)(h h':f8):Prop where
 keep:∀b o,h.get? b=aA o->H b=aB->b∉fs->b∉ex->h'.get? b=aA o
 slot:∀b o,h.get? b=aA o->H b=aB->b∈fs->b∉ex->∃sl,h'.get? b=aA {o with slots:=sl}
 free:∀b o,h.get? b=aA o->H b=aB->b∉ex->H' b=aB
 there:∀b o,h.get? b=aA o->b∉ex->∃o',h'.get? b=aA o'
 tups:∀b xs,H b=aA (.tup xs)->H' b=aA (.tup xs)
 frzs:∀b o u,H b=aA (.frz o u)->H' b=aA (.frz o u)
 tbls:∀b ps,H b=aA (.tbl ps)->∃more,H' b=aA (.tbl (ps++more))
section
variable{fs fs' ex ex':List au}{H H1 H2:Hp}{h h1 h2 h':f8}{a x e:au}{o:HO}
theorem Un.any(u:Un fs ex H H1 h h1){b:au}{ob:Obj}(q:h.get? b=aA ob)(n:H b=aB)(hx:b∉ex):∃sl,h1.get? b=aA {ob with slots:=sl}:=by
 by_cases hb:b∈fs
 ·exact u.slot b ob q n hb hx
 ·exact⟨ob.slots,u.keep b ob q n hb hx⟩
theorem Un.kept(k:∀b u,h.get? b=aA u->h'.get? b=aA u):Un fs ex H H h h':=
 ⟨λb ob q _ _ _=>k b ob q,λb ob q _ _ _=>⟨ob.slots,k b ob q⟩,λ_ _ _ n _=>n,λb ob q _=>⟨ob,k b ob q⟩,λ_ _ q=>q,λ_ _ _ q=>q,λ_ ps q=>⟨#[],by rw[q];simp⟩⟩
theorem Un.refl:Un fs ex H H h h:=Un.kept λ_ _ q=>q
theorem Un.laid(k:∀b u,h.get? b=aA u->h'.get? b=aA u)(hp:h.objs.size<=a)(hn:H a=aB):Un fs ex H (Y0 H a o) h h' where
 keep:=λb u q _ _ _=>k b u q
 slot:=λb u q _ _ _=>⟨u.slots,k b u q⟩
 free:=λb u q n _=>by rw[Zv (b9 (c9 (bf q) hp))];exact n
 there:=λb u q _=>⟨u,k b u q⟩
 tups:=λb xs q=>by rw[Zv (Wa q hn)];exact q
 frzs:=λb u xs q=>by rw[Zv (Wa q hn)];exact q
 tbls:=λb ps q=>⟨#[],by rw[Zv (Wa q hn),q];simp⟩
theorem Un.write(mu:Mut (H x))(he:e=x\/H e=aA (.own x))(k:∀b u,b≠e->h.get? b=aA u->h'.get? b=aA u)(heo:∃u,h'.get? e=aA u):Un fs ex H (Y0 H x o) h h':=by
 have hx:∀b,H b=aB->b≠x:=λb n z=>by subst z;rw[n]at mu;exact mu
 have hb:∀b,H b=aB->b≠e:=λb n z=>by
  subst z;rcases he with r|r
  ·exact hx b n r
  ·rw[n]at r;cases r
 have hm:∀b u,H b=aA u->¬Mut (aA u)->b≠x:=λb u q nm z=>by subst z;rw[q]at mu;exact nm mu
 refine⟨λb u q n _ _=>k b u (hb b n) q,λb u q n _ _=>⟨u.slots,k b u (hb b n) q⟩,λb u q n _=>by rw[Zv (hx b n)];exact n,λb u q _=>?_,
  λb xs q=>by rw[Zv (hm b _ q λz=>z)];exact q,λb u xs q=>by rw[Zv (hm b _ q λz=>z)];exact q,λb ps q=>⟨#[],by rw[Zv (hm b _ q λz=>z),q];simp⟩⟩
 by_cases hbe:b=e
 ·subst hbe;exact heo
 ·exact⟨u,k b u hbe q⟩
end
noncomputable def trk(h:f8)(H:Hp):List Addr:=(cz h.objs.size).filter λa=>(H a).isSome
noncomputable def Nn(h:f8)(H:Hp):Heap:=PySem.W.hideAll h (trk h H)
theorem Zb2(h:f8)(H:Hp):(Nn h H).objs.size=h.objs.size:=PySem.W.hideAll_size _ _
theorem Zdy{h:f8}{H:Hp}{b:au}{o:Obj}(e:h.get? b=aA o)(n:H b=aB):(Nn h H).get? b=aA o:=
 PySem.W.hideAll_get _ e λhm=>by have q:(H b).isSome=aC:=(List.mem_filter.mp hm).2;rw[n]at q;simp at q
theorem Zia{h:f8}{H:Hp}{b:au}{o:Obj}(e:(Nn h H).get? b=aA o):h.get? b=aA o/\H b=aB:=by
 have e':h.get? b=aA o:=PySem.W.of_hideAll (trk h H) e;refine⟨e',?_⟩;cases q:H b with
 |none=>rfl
 |some x=>have hm:b∈trk h H:=List.mem_filter.mpr ⟨cn.mpr (bf e'),by simp[q]⟩;have z:(Nn h H).get? b=aB:=PySem.W.hideAll_none (trk h H) hm;rw[z]at e;cases e
noncomputable def Zib(g h:f8)(L:au):List (au×Obj):=(cz h.objs.size).filterMap λa=>if a=L\/(g.get? a).isSome=aC then aB else(h.get? a).map λo=>(a,o)
noncomputable def rest(g h:f8)(L d:au):List (au×Obj):=(Zib g h L).filter λp=>decide (p.1≠d)
structure Mod(K:ah)(mg:Str->Option aj)(base:f8):Prop where
 kin:K.In base
 glob:base.Ns b5 mg
 blt:∃mb,base.Ns builtinsNs mb/\∀x:Str,x≠"__name__"->mb x=bootBuiltins x
 nolimit:base.NoLimit
set_option genInjectivity false in
structure Cx where
 prog:bv
 w:c6
 K:ah
 mg:Str->Option aj
 base:f8
 A:di
 N:List Str
 s₀:aq
 H₀:Hp
 env:Env
 outer:List Env
 stack:List Env
 ex:List au
 fn:Str->Bool
 calm:Bool
 pn:List (au×Obj)
 xe:aj->aq->Prop
noncomputable def frs(l:List Env):List Addr:=l.filterMap (·.frame)
noncomputable abbrev Cx.fs(X:Cx):List Addr:=frs X.outer
noncomputable def D2(sc:Scope)(x:Str):Prop:=sc.names.lookup x=aA .local\/sc.names.lookup x=aA .cell\/sc.names.lookup x=aA .free
noncomputable def Loc(sc:Scope)(x:Str):Prop:=sc.names.lookup x=aA .local\/sc.names.lookup x=aA .cell
noncomputable def Zpm(env:Env)(h:f8)(m:Str->Option aj)(x:Str)(u:aj):Prop:=
 (env.kindOf x=aA .local/\m x=aA u)\/((env.kindOf x=aA .cell\/env.kindOf x=aA .free)/\∃c,env.cells.lookup x=aA c/\h.IsCell c (aA u))
set_option genInjectivity false in
structure Cx.Ok(X:Cx):Prop where
 mod:Mod X.K X.mg X.base
 kind:X.env.scope.kind= .function
 glob:X.env.globals=b5
 blt:X.env.builtins=builtinsNs
 above:X.s₀.heap.objs.size<=X.env.locals
 inj:∀x y c,X.env.cells.lookup x=aA c->X.env.cells.lookup y=aA c->x=y
 has:∀x,(X.env.kindOf x=aA .cell\/X.env.kindOf x=aA .free)->∃c,X.env.cells.lookup x=aA c
 cab:∀x c,X.fn x=aC->X.env.cells.lookup x=aA c->X.s₀.heap.objs.size<=c
 hd:X.calm=aC->X.A.handled=aB
 frames:X.A.frames=aA X.stack
 stk:X.stack=X.outer\/(X.stack=X.env::X.outer/\X.env.frame=aA X.env.locals)
 exf:∀b∈X.ex,b≠X.env.locals/\∀x c,X.env.cells.lookup x=aA c->c≠b
 bs:∀b o,X.base.get? b=aA o->X.s₀.heap.get? b=aA o/\X.H₀ b=aB
 bsz:X.base.objs.size<=X.s₀.heap.objs.size
 noex:∀b o,X.base.get? b=aA o->b∉X.ex
 exfs:∀b∈X.ex,b∉X.fs
 funs:X.s₀.heap.FunFrames X.base X.outer
 frf:∀b∈X.fs,X.H₀ b=aB
structure Inv(X:Cx)(pins:List (au×Obj))(σ:List (Option V))(H:Hp)(s:aq):Prop where
 ok:X.Ok
 os:s.os=X.s₀.os
 bare:AllBare s.gens
 base:Un X.fs X.ex X.H₀ H X.s₀.heap s.heap
 loc:∃m,s.heap.Ns X.env.locals m/\∀(i:Nat) (x:Str) (v:V),X.N[i]? =aA x->σ[i]? =aA (aA v)->D2 X.env.scope x->∃u,Zz v u/\Zpm X.env s.heap m x u
 cell:∀x c,X.env.cells.lookup x=aA c->∃v,s.heap.IsCell c v
 free:H X.env.locals=aB
 freeC:∀x c,X.env.cells.lookup x=aA c->H c=aB
 pin:∀p∈X.pn++pins,s.heap.get? p.1=aA p.2/\H p.1=aB/\p.1≠X.env.locals/\p.1∉X.fs/\∀v,p.2.data≠.cell v
 hok:Re X.prog X.w H s.heap
 len:σ.length=X.N.length
section
variable{X:Cx}{pins:List (au×Obj)}{σ:List (Option V)}{H H':Hp}{s:aq}{h':f8}
theorem Cx.Ok.nofr(ok:X.Ok){b:au}{o:Obj}(e:X.base.get? b=aA o):b∉X.fs:=λhb=>by have:=(ok.funs.mem hb).1;rw[e]at this;cases this
theorem Inv.bs(I:Inv X pins σ H s):∀b o,X.base.get? b=aA o->s.heap.get? b=aA o/\H b=aB:=λb o e=>
 ⟨I.base.keep b o (I.ok.bs b o e).1 (I.ok.bs b o e).2 (I.ok.nofr e) (I.ok.noex b o e),I.base.free b o (I.ok.bs b o e).1 (I.ok.bs b o e).2 (I.ok.noex b o e)⟩
theorem Inv.bk(I:Inv X pins σ H s):∀b o,X.base.get? b=aA o->s.heap.get? b=aA o:=λb o e=>(I.bs b o e).1
theorem Inv.mod(I:Inv X pins σ H s):Mod X.K X.mg X.base:=I.ok.mod
theorem Inv.kIn(I:Inv X pins σ H s):X.K.In s.heap:=I.ok.mod.kin.keeps I.bk
theorem Inv.lt(I:Inv X pins σ H s):X.env.locals<s.heap.objs.size:=let⟨_,hn,_⟩:=I.loc;hn.lt
theorem Inv.sz(I:Inv X pins σ H s):X.s₀.heap.objs.size<=s.heap.objs.size:=dk I.ok.above (Nat.le_of_lt I.lt)
theorem Inv.nofs(I:Inv X pins σ H s){a:au}(h:s.heap.objs.size<=a):a∉X.fs:=λhb=>by obtain⟨_,o,ho,_⟩:=I.ok.funs.mem hb;exact absurd (c9 (bf ho) (dk I.sz h)) (g9 _)
theorem Inv.cne(I:Inv X pins σ H s):∀x c,X.env.cells.lookup x=aA c->c≠X.env.locals:=λx c e z=>by obtain⟨v,o,ho,hd⟩:=I.cell x c e;obtain⟨m,⟨o',es,ep,ho',hd',_⟩,_⟩:=I.loc;rw[z,ho']at ho;cases ho;rw[hd']at hd;cases hd
theorem Inv.funs(I:Inv X pins σ H s):s.heap.FunFrames X.base X.outer:=by
 have all:∀(l:List Env),(∀b∈frs l,b∈X.fs)->X.s₀.heap.FunFrames X.base l->s.heap.FunFrames X.base l:=by
  intro l;induction l with
  |nil=>intro _ _;trivial
  |cons env r ih=>intro hs hl;obtain⟨hk,⟨L,o,hf,hn,ho,hd⟩,hr⟩:=hl;have hL:L∈X.fs:=hs L (by unfold frs;rw[List.filterMap_cons,hf];exact ad);obtain⟨sl,e⟩:=I.base.slot L o ho (I.ok.frf L hL) hL λz=>I.ok.exfs L z hL;exact⟨hk,⟨L,_,hf,hn,e,hd⟩,ih (λb hb=>hs b (by unfold frs;rw[List.filterMap_cons,hf];exact am _ hb)) hr⟩
 exact all X.outer (λ_ hb=>hb) I.ok.funs
theorem Inv.stack(I:Inv X pins σ H s):s.heap.FunFrames X.base X.stack:=by
 rcases I.ok.stk with e|⟨e,hf⟩
 ·rw[e];exact I.funs
 ·rw[e];obtain⟨m,hn,_⟩:=I.loc;refine .cons (by rw[I.ok.kind];decide) hf hn ?_ I.funs;exact Heap.get?_none_of_le (dk I.ok.bsz I.ok.above)
theorem Inv.stkSub(I:Inv X pins σ H s):∀b∈frs X.stack,b∈X.env.locals::X.fs:=λb hb=>by
 rcases I.ok.stk with e|⟨e,hf⟩
 ·rw[e]at hb;exact am _ hb
 ·rw[e]at hb;unfold frs at hb;rw[List.filterMap_cons,hf]at hb;exact hb
theorem Inv.stkFree(I:Inv X pins σ H s):∀b∈frs X.stack,H b=aB:=λb hb=>by
 rcases bo.mp (I.stkSub b hb)with e|hb
 ·rw[e];exact I.free
 ·obtain⟨_,o,ho,_⟩:=I.ok.funs.mem hb;exact I.base.free b o ho (I.ok.frf b hb) λz=>I.ok.exfs b z hb
theorem Inv.step{g':Array GenState}{t':Nat}{d':Drawn}{ch:List au}(I:Inv X pins σ H s)
  (hch:∀b∈ch,(b∈X.ex\/X.s₀.heap.objs.size<=b)/\b≠X.env.locals/\(∀x c,X.env.cells.lookup x=aA c->c≠b)/\∀p∈X.pn++pins,p.1≠b)
  (keep:∀b o,b≠X.env.locals->b∉X.fs->b∉ch->s.heap.get? b=aA o->H b=aB->h'.get? b=aA o)
  (slot:∀b o,b≠X.env.locals->b∈X.fs->b∉ch->s.heap.get? b=aA o->H b=aB->∃sl,h'.get? b=aA {o with slots:=sl}) (free:∀b o,b∉ch->s.heap.get? b=aA o->H b=aB->H' b=aB)
  (there:∀b o,b∉ch->s.heap.get? b=aA o->∃o',h'.get? b=aA o')
  (tups:∀b xs,H b=aA (.tup xs)->H' b=aA (.tup xs)) (frzs:∀b o u,H b=aA (.frz o u)->H' b=aA (.frz o u)) (tbls:∀b ps,H b=aA (.tbl ps)->∃more,H' b=aA (.tbl (ps++more)))
  (ns:∀m,s.heap.Ns X.env.locals m->h'.Ns X.env.locals m) (hok:Re X.prog X.w H' h') (hg:AllBare g'):
  Inv X pins σ H' {s with heap:=h',gens:=g',drawn:=d',toks:=t'}:=by
 have neL:∀b o,X.s₀.heap.get? b=aA o->b≠X.env.locals:=λb o e=>b9 (c9 (bf e) I.ok.above);have neC:∀b o,X.s₀.heap.get? b=aA o->b∉X.ex->b∉ch:=λb o e hx hb=>by
  rcases(hch b hb).1 with z|z
  ·exact hx z
  ·exact absurd (c9 (bf e) z) (g9 _)
 have cellK:∀x c,X.env.cells.lookup x=aA c->∀v,s.heap.IsCell c v->h'.IsCell c v:=λx c e v ⟨o,ho,hd⟩=>by
  have nch:c∉ch:=λz=>(hch c z).2.2.1 x c e rfl;by_cases hc:c∈X.fs
  ·obtain⟨sl,q⟩:=slot c o (I.cne x c e) hc nch ho (I.freeC x c e);exact⟨_,q,hd⟩
  ·exact⟨o,keep c o (I.cne x c e) hc nch ho (I.freeC x c e),hd⟩
 refine⟨I.ok,I.os,hg,⟨λb o e n hb hx=>?_,λb o e n hb hx=>?_,λb o e n hx=>?_,λb o e hx=>?_,λb xs e=>tups b xs (I.base.tups b xs e),λb o xs e=>frzs b o xs (I.base.frzs b o xs e),λb ps e=>?_⟩,?_,λx c e=>?_,?_,λx c e=>?_,λp hp=>?_,hok,I.len⟩
 ·exact keep b o (neL b o e) hb (neC b o e hx) (I.base.keep b o e n hb hx) (I.base.free b o e n hx)
 ·obtain⟨sl,e1⟩:=I.base.slot b o e n hb hx;obtain⟨sl',e2⟩:=slot b _ (neL b o e) hb (neC b o e hx) e1 (I.base.free b o e n hx);exact⟨sl',e2⟩
 ·obtain⟨o',e1⟩:=I.base.there b o e hx;exact free b o' (neC b o e hx) e1 (I.base.free b o e n hx)
 ·obtain⟨o',e1⟩:=I.base.there b o e hx;exact there b o' (neC b o e hx) e1
 ·obtain⟨m1,e1⟩:=I.base.tbls b ps e;obtain⟨m2,e2⟩:=tbls b _ e1;exact⟨m1++m2,by rw[e2,Array.append_assoc]⟩
 ·obtain⟨m,hn,hl⟩:=I.loc;refine⟨m,ns m hn,λi x v e1 e2 e3=>?_⟩;obtain⟨u,r,l⟩:=hl i x v e1 e2 e3;refine⟨u,r,?_⟩;rcases l with l|⟨k,c,e,z⟩
  ·exact .inl l
  ·exact .inr ⟨k,c,e,cellK x c e _ z⟩
 ·obtain⟨v,z⟩:=I.cell x c e;exact⟨v,cellK x c e v z⟩
 ·obtain⟨m,⟨o,_,_,ho,_⟩,_⟩:=I.loc;exact free _ o (λz=>(hch _ z).2.1 rfl) ho I.free
 ·obtain⟨v,o,ho,hd⟩:=I.cell x c e;exact free c o (λz=>(hch c z).2.2.1 x c e rfl) ho (I.freeC x c e)
 ·obtain⟨e,n,ne,nf,d⟩:=I.pin p hp;have nch:p.1∉ch:=λz=>(hch p.1 z).2.2.2 p hp rfl;exact⟨keep p.1 p.2 ne nf nch e n,free p.1 p.2 nch e n,ne,nf,d⟩
theorem Inv.un{t':Nat}(I:Inv X pins σ H s)(u:Un X.fs [] H H' s.heap h')(hok:Re X.prog X.w H' h'):Inv X pins σ H' {s with heap:=h',toks:=t'}:=by
 obtain⟨m,⟨o,es,ep,ho,r⟩,_⟩:=id I.loc;obtain⟨sl,hL⟩:=u.any ho I.free (by simp);exact I.step (g':=s.gens) (d':=s.drawn) (ch:=[]) (λ_ z=>nomatch z) (λb o _ hb _ e n=>u.keep b o e n hb (by simp)) (λb o _ hb _ e n=>u.slot b o e n hb (by simp)) (λb o _ e n=>u.free b o e n (by simp)) (λb o _ e=>u.there b o e (by simp)) u.tups u.frzs u.tbls (λm' hm=>by
  obtain⟨o',es',ep',ho',r'⟩:=hm;rw[ho]at ho';cases ho';exact⟨_,es',ep',hL,r'⟩) hok I.bare
theorem Inv.call{g':Array GenState}{t':Nat}{d':Drawn}{ch:List au}(I:Inv X pins σ H s)(u:Un (frs X.stack) ch H H' s.heap h')(hok:Re X.prog X.w H' h')(hg:AllBare g')
  (hch:∀b∈ch,(b∈X.ex\/X.s₀.heap.objs.size<=b)/\b≠X.env.locals/\(∀x c,X.env.cells.lookup x=aA c->c≠b)/\∀p∈X.pn++pins,p.1≠b):
  Inv X pins σ H' {s with heap:=h',gens:=g',drawn:=d',toks:=t'}:=by
 obtain⟨m,⟨o,es,ep,ho,r⟩,_⟩:=id I.loc;obtain⟨sl,hL⟩:=u.any ho I.free λz=>(hch _ z).2.1 rfl;exact I.step (ch:=ch) hch (λb o hL hb hc e n=>u.keep b o e n (λz=>(bo.mp (I.stkSub b z)).elim hL hb) hc) (λb o _ _ hc e n=>u.any e n hc) (λb o hc e n=>u.free b o e n hc) (λb o hc e=>u.there b o e hc) u.tups u.frzs u.tbls (λm' hm=>by
  obtain⟨o',es',ep',ho',r'⟩:=hm;rw[ho]at ho';cases ho';exact⟨_,es',ep',hL,r'⟩) hok hg
theorem Inv.turned{t':Nat}{it:au}(I:Inv X pins σ H s)(k:∀b o,b≠it->s.heap.get? b=aA o->h'.get? b=aA o)(hn:H it=aB)(hL:it≠X.env.locals)
  (h1:it∈X.ex\/X.s₀.heap.objs.size<=it) (h2:∀x c,X.env.cells.lookup x=aA c->c≠it) (h3:∀p∈X.pn++pins,p.1≠it):Inv X pins σ H {s with heap:=h',toks:=t'}:=by
 have nit:∀b u,H b=aA u->b≠it:=λb u e z=>by rw[z,hn]at e;cases e
 refine I.step (g':=s.gens) (d':=s.drawn) (ch:=[it]) (λb hb=>?_) (λb o _ _ hc e _=>k b o (λz=>hc (by simp[z])) e) (λb o _ _ hc e _=>⟨o.slots,k b o (λz=>hc (by simp[z])) e⟩) (λ_ _ _ _ n=>n)
  (λb o hc e=>⟨o,k b o (λz=>hc (by simp[z])) e⟩) (λ_ _ e=>e) (λ_ _ _ e=>e) (λb ps e=>⟨#[],by rw[e];simp⟩) (λm hm=>?_) (λb u e=>?_) I.bare
 ·have e:b=it:=by simpa using hb
  subst e;exact⟨h1,hL,h2,h3⟩
 ·obtain⟨o,es,ep,ho,r⟩:=hm;exact⟨o,es,ep,k _ o (Ne.symm hL) ho,r⟩
 ·refine(I.hok b u e).stay (λc v hc q=>k c v ?_ q) (λ_ q=>q) λ_ _ q=>q;rcases hc with z|z
  ·rw[z];exact nit b u e
  ·exact nit c _ z
theorem Inv.tok(I:Inv X pins σ H s)(t:Nat):Inv X pins σ H {s with toks:=t}:=I.un (h':=s.heap) (t':=t) Un.refl I.hok
theorem Inv.kept{t':Nat}(I:Inv X pins σ H s)(k:∀b u,s.heap.get? b=aA u->h'.get? b=aA u):Inv X pins σ H {s with heap:=h',toks:=t'}:=I.un (Un.kept k) (I.hok.kept k)
theorem Inv.laid{a:au}{o:HO}{t':Nat}(I:Inv X pins σ H s)(k:∀b u,s.heap.get? b=aA u->h'.get? b=aA u)(hp:s.heap.objs.size<=a)(new:Yb X.prog X.w (Y0 H a o) h' a o):
  Inv X pins σ (Y0 H a o) {s with heap:=h',toks:=t'}:=I.un (Un.laid k hp (I.hok.fresh hp)) (I.hok.laid k hp new)
theorem Inv.write{x e:au}{o:HO}{t':Nat}(I:Inv X pins σ H s)(mu:Mut (H x))(he:e=x\/H e=aA (.own x))(k:∀b u,b≠e->s.heap.get? b=aA u->h'.get? b=aA u)(heo:∃u,h'.get? e=aA u)
  (new:Yb X.prog X.w (Y0 H x o) h' x o):Inv X pins σ (Y0 H x o) {s with heap:=h',toks:=t'}:=I.un (Un.write mu he k heo) (I.hok.write mu he k heo new)
theorem Inv.pins_of{pins':List (au×Obj)}(I:Inv X pins σ H s)(h:∀p∈pins',s.heap.get? p.1=aA p.2/\H p.1=aB/\p.1≠X.env.locals/\p.1∉X.fs/\∀v,p.2.data≠.cell v):Inv X pins' σ H s:=
 ⟨I.ok,I.os,I.bare,I.base,I.loc,I.cell,I.free,I.freeC,λp hp=>(bh.mp hp).elim (λz=>I.pin p (b7 _ z)) (h p),I.hok,I.len⟩
theorem Sn{N:List Str}(hN:N.Nodup){i j:Nat}{x:Str}(a:N[i]? =aA x)(b:N[j]? =aA x):i=j:=by obtain⟨h1,e1⟩:=ax.mp a;obtain⟨h2,e2⟩:=ax.mp b;exact(List.getElem_inj hN).mp (e1.trans e2.symm)
theorem Ki{M:Model}{A:di}{E:aj->aq->Prop}{i:Nat}{x:Str}{v:V}{u:aj}{Q:Unit->aq->Prop}(I:Inv X pins σ H s)(hN:X.N.Nodup)(hi:X.N[i]? =aA x)(hx:Loc X.env.scope x)(r:Zz v u)
  (h:∀s',Inv X pins (σ.set i (aA v)) H s'->(∃a,gz a s.heap s'.heap/\(a=X.env.locals\/X.env.cells.lookup x=aA a))->Q () s') (hf:X.fn x=aC\/X.env.scope.names.lookup x=aA .local:=by first|exact .inl rfl|exact .inr rfl|assumption):bd M A (storeName X.env x u) Q E s:=by
 obtain⟨m,hn,hl⟩:=id I.loc;have hcls:(X.env.scope.kind== .class|| (X.env.scope.kind== .module&&X.env.locals !=X.env.globals))=aD:=by rw[I.ok.kind];rfl
 have hiσ:i<σ.length:=by rw[I.len];exact(ax.mp hi).1
 have cne:=I.cne;have tracked:∀{a:au} {h':f8},(∃o,s.heap.get? a=aA o/\H a=aB)->gz a s.heap h'->Re X.prog X.w H h':=fun{a h'} ha hs b ob e=>by
  obtain⟨_,_,hfree⟩:=ha;refine(I.hok b ob e).stay (λc w' hc q=>(hs.2 c ?_).trans q) (λ_ q=>q) λ_ _ q=>q;rintro rfl;rcases hc with rfl|hc
  ·rw[hfree]at e;cases e
  ·rw[hfree]at hc;cases hc
 rcases hx with hk|hk
 ·refine wpAny_storeName_local hk hn (λh' hn' hs=>?_) hcls;obtain⟨oL,_,_,hoL,_⟩:=id hn;refine h _ ⟨I.ok,I.os,I.bare,⟨λb o e n hb hx=>?_,λb o e n hb hx=>?_,I.base.free,λb o e hx=>?_,I.base.tups,I.base.frzs,I.base.tbls⟩,⟨_,hn',λj y v' e1 e2 e3=>?_⟩,λy c e=>?_,I.free,I.freeC,λp hp=>?_,tracked ⟨oL,hoL,I.free⟩ hs,by simpa using I.len⟩ ⟨_,hs,.inl rfl⟩
  ·exact(hs.2 b (b9 (c9 (bf e) I.ok.above))).trans (I.base.keep b o e n hb hx)
  ·obtain⟨sl,e1⟩:=I.base.slot b o e n hb hx;exact⟨sl,(hs.2 b (b9 (c9 (bf e) I.ok.above))).trans e1⟩
  ·obtain⟨o',e1⟩:=I.base.there b o e hx;exact⟨o',(hs.2 b (b9 (c9 (bf e) I.ok.above))).trans e1⟩
  ·by_cases hj:j=i
   ·subst hj;rw[hi]at e1;cases e1;rw[d4 hiσ]at e2;cases e2;exact⟨u,r,.inl ⟨hk,by simp⟩⟩
   ·rw[f7 (Ne.symm hj)]at e2;obtain⟨u',r',q⟩:=hl j y v' e1 e2 e3;refine⟨u',r',?_⟩;rcases q with⟨k,e⟩|⟨k,c,e,z⟩
    ·refine .inl ⟨k,?_⟩;have:y≠x:=λe=>hj (Sn hN e1 (e▸hi));simp[this,e]
    ·exact .inr ⟨k,c,e,z.sameBut hs (cne y c e)⟩
  ·obtain⟨w',z⟩:=I.cell y c e;exact⟨w',z.sameBut hs (cne y c e)⟩
  ·obtain⟨e,n,ne,nf,d⟩:=I.pin p hp;exact⟨(hs.2 p.1 ne).trans e,n,ne,nf,d⟩
 ·have hfn:X.fn x=aC:=by
   rcases hf with z|z
   ·exact z
   ·rw[z]at hk;cases hk
  obtain⟨c,hc⟩:=I.ok.has x (.inl hk);obtain⟨w',z⟩:=I.cell x c hc;refine wpAny_storeName_cell I.ok.kind hk hc z (λh' hc' hs=>?_);obtain⟨oc,hoc,hocd⟩:=id z;refine h {s with heap:=h'} ⟨I.ok,I.os,I.bare,⟨λb o e n hb hx=>?_,λb o e n hb hx=>?_,I.base.free,λb o e hx=>?_,I.base.tups,I.base.frzs,I.base.tbls⟩,⟨m,hn.sameBut hs (Ne.symm (cne x c hc)),λj y v' e1 e2 e3=>?_⟩,λy c' e=>?_,I.free,I.freeC,λp hp=>?_,tracked ⟨oc,hoc,I.freeC x c hc⟩ hs,by simpa using I.len⟩ ⟨c,hs,.inr hc⟩
  ·exact(hs.2 b (b9 (c9 (bf e) (I.ok.cab x c hfn hc)))).trans (I.base.keep b o e n hb hx)
  ·obtain⟨sl,e1⟩:=I.base.slot b o e n hb hx;exact⟨sl,(hs.2 b (b9 (c9 (bf e) (I.ok.cab x c hfn hc)))).trans e1⟩
  ·obtain⟨o',e1⟩:=I.base.there b o e hx;exact⟨o',(hs.2 b (b9 (c9 (bf e) (I.ok.cab x c hfn hc)))).trans e1⟩
  ·by_cases hj:j=i
   ·subst hj;rw[hi]at e1;cases e1;rw[d4 hiσ]at e2;cases e2;exact⟨u,r,.inr ⟨.inl hk,c,hc,hc'⟩⟩
   ·rw[f7 (Ne.symm hj)]at e2;obtain⟨u',r',q⟩:=hl j y v' e1 e2 e3;refine⟨u',r',?_⟩;rcases q with q|⟨k,c',e,z'⟩
    ·exact .inl q
    ·refine .inr ⟨k,c',e,z'.sameBut hs ?_⟩;rintro rfl;exact hj (Sn hN e1 (I.ok.inj _ _ _ e hc▸hi))
  ·by_cases hcc:c'=c
   ·subst hcc;exact⟨_,hc'⟩
   ·obtain⟨w2,z2⟩:=I.cell y c' e;exact⟨w2,z2.sameBut hs hcc⟩
  ·obtain⟨e,n,ne,nf,d⟩:=I.pin p hp;refine⟨(hs.2 p.1 ?_).trans e,n,ne,nf,d⟩;intro q;rw[q,hoc]at e;have q':oc=p.2:=df.inj e;exact d w' (by rw[<-q'];exact hocd)
theorem Sq{M:Model}{A:di}{E:aj->aq->Prop}{i:Nat}{x:Str}{v:V}{u:aj}{Q:Unit->aq->Prop}(I:Inv X pins σ H s)(hN:X.N.Nodup)(hi:X.N[i]? =aA x)(hx:Loc X.env.scope x)(r:Zz v u)
  (h:∀s',Inv X pins (σ.set i (aA v)) H s'->Q () s') (hf:X.fn x=aC\/X.env.scope.names.lookup x=aA .local:=by first|exact .inl rfl|exact .inr rfl|assumption):bd M A (storeName X.env x u) Q E s:=
 Ki I hN hi hx r (λs' I' _=>h s' I') hf
theorem Inv.call'{s':aq}{ch:List au}(I:Inv X pins σ H s)(ho:s'.os=s.os)(u:Un (frs X.stack) ch H H' s.heap s'.heap)(hok:Re X.prog X.w H' s'.heap)(hg:AllBare s'.gens)
  (hch:∀b∈ch,(b∈X.ex\/X.s₀.heap.objs.size<=b)/\b≠X.env.locals/\(∀x c,X.env.cells.lookup x=aA c->c≠b)/\∀p∈X.pn++pins,p.1≠b):Inv X pins σ H' s':=by
 obtain⟨h',g',d',t',o'⟩:=s';have e:o'=s.os:=ho;subst e;exact I.call (g':=g') (t':=t') (d':=d') u hok hg hch
end
noncomputable abbrev XK:=aj->Option au->Hp->Prop
noncomputable abbrev St:=List (Option V)
noncomputable abbrev VK:=V->Hp->Prop
noncomputable abbrev TE:=St->Hp->VK->Prop
noncomputable abbrev TT:=St->Hp->(Bool->Hp->Prop)->Prop
noncomputable abbrev TA:=St->Hp->(List V->Hp->Prop)->Prop
set_option genInjectivity false in
structure Ends where
 nx:St->Hp->Prop
 rt:VK
 bk:St->Hp->Prop:=λ_ _=>False
 ct:St->Hp->Prop:=λ_ _=>False
noncomputable abbrev TS:=Ends->St->Hp->Prop
noncomputable def EP(X:Cx)(pins:List (au×Obj))(σ:St)(Q:VK)(u:aj)(s':aq):Prop:=∃v H',Inv X pins σ H' s'/\Zz v u/\Q v H'
noncomputable def TP(X:Cx)(pins:List (au×Obj))(σ:St)(Q:Bool->Hp->Prop)(b:Bool)(s':aq):Prop:=∃H',Inv X pins σ H' s'/\Q b H'
noncomputable def AP(X:Cx)(pins:List (au×Obj))(σ:St)(Q:List V->Hp->Prop)(us:List aj)(s':aq):Prop:=∃vs H',Inv X pins σ H' s'/\Z3 vs us/\Q vs H'
noncomputable def SP(X:Cx)(pins:List (au×Obj))(D:Ends)(f:Flow)(s':aq):Prop:=
 match f with
 | .next=>∃σ' H',Inv X pins σ' H' s'/\D.nx σ' H'
 | .brk=>∃σ' H',Inv X pins σ' H' s'/\D.bk σ' H'
 | .cont=>∃σ' H',Inv X pins σ' H' s'/\D.ct σ' H'
 | .ret u=>∃v σ' H',Inv X pins σ' H' s'/\Zz v u/\D.rt v H'
noncomputable def PE(X:Cx)(e:c5)(t:TE):Prop:=
 ∀(pins:List (au×Obj)) (s:aq) (σ:St) (H:Hp) (Q:VK),Inv X pins σ H s->t σ H Q->bd (bz X.prog X.w) X.A (gw e X.env) (EP X pins σ Q) X.xe s
noncomputable def PT(X:Cx)(e:c5)(t:TT):Prop:=
 ∀(pins:List (au×Obj)) (s:aq) (σ:St) (H:Hp) (Q:Bool->Hp->Prop),Inv X pins σ H s->t σ H Q->bd (bz X.prog X.w) X.A (isTrue e X.env (gw e X.env)) (TP X pins σ Q) X.xe s
noncomputable def PW(X:Cx)(e:c5)(t:TT):Prop:=
 ∀(whole:Sem aj) (pins:List (au×Obj)) (s:aq) (σ:St) (H:Hp) (Q:Bool->Hp->Prop),Inv X pins σ H s->t σ H Q->bd (bz X.prog X.w) X.A (isTrue e X.env whole) (TP X pins σ Q) X.xe s
theorem PW.pt{X:Cx}{e:c5}{t:TT}(h:PW X e t):PT X e t:=h _
noncomputable def PA(X:Cx)(es:List c5)(t:TA):Prop:=
 ∀(pos:Pos) (pins:List (au×Obj)) (s:aq) (σ:St) (H:Hp) (Q:List V->Hp->Prop),Inv X pins σ H s->t σ H Q->bd (bz X.prog X.w) X.A (spliced (gp pos (ba es X.env))) (AP X pins σ Q) X.xe s
noncomputable def PS(X:Cx)(st:Stmt)(t:TS):Prop:=
 ∀(pins:List (au×Obj)) (s:aq) (σ:St) (H:Hp) (D:Ends),Inv X pins σ H s->t D σ H->bd (bz X.prog X.w) X.A (exec st X.env) (SP X pins D) X.xe s
noncomputable def Tt(X:Cx)(st:List Stmt)(t:TS):Prop:=
 ∀(pins:List (au×Obj)) (s:aq) (σ:St) (H:Hp) (D:Ends),Inv X pins σ H s->t D σ H->bd (bz X.prog X.w) X.A (execs st X.env) (SP X pins D) X.xe s
theorem Wv{α:Type}{t:Sem α}{Q Q':α->aq->Prop}{M:Model}{A:di}{E:aj->aq->Prop}{s:aq}(h:bd M A t Q E s)(hQ:∀a s,Q a s->Q' a s):bd M A t Q' E s:=wpAny_mono h hQ λ_ _ x=>x
section
variable{X:Cx}
noncomputable def Mx(i:Nat):TE:=λσ H Q=>∃v,σ[i]? =aA (aA v)/\Q v H
noncomputable def tC(v:V):TE:=λ_ H Q=>Q v H
theorem O6{i:Nat}{x:Str}{pos:Pos}(hN:X.N[i]? =aA x)(hv:D2 X.env.scope x)(hd:(x==("__debug__":Str))=aD:=by decide)(hcd:(x==("__classdict__":Str))=aD:=by decide):PE X (.Name x pos) (Mx i):=by
 intro pins s σ H Q I h;obtain⟨v,e,h⟩:=h;obtain⟨m,hn,hl⟩:=I.loc;obtain⟨u,r,l⟩:=hl i x v hN e hv;have fin:EP X pins σ Q u s:=⟨v,H,I,r,h⟩
 rcases l with⟨hk,hm⟩|⟨hk,c,hc,hcell⟩
 ·exact wpAny_Name (wpAny_loadName_local I.ok.kind hk hn hm fin) hd
 ·rcases hk with hk|hk
  ·exact wpAny_Name (wpAny_loadName_cell I.ok.kind hk hc hcell fin) hd
  ·exact wpAny_Name (wpAny_loadName_free I.ok.kind hk hc hcell fin hcd) hd
theorem Zmq{i j pos}:PE X (.Constant (.int i) j pos) (tC (.int i)):=λ_ _ _ H _ I h=>wpAny_Constant_int ⟨.int i,H,I.tok _,⟨_,rfl⟩,h⟩
theorem Zpn{b j pos}:PE X (.Constant (.bool b) j pos) (tC (.bl b)):=λ_ _ _ H _ I h=>Constant_bool ⟨.bl b,H,I,rfl,h⟩
theorem Zd0{x j pos}:PE X (.Constant (.str x) j pos) (tC (.str x)):=λ_ _ _ H _ I h=>Calls.Constant_str ⟨.str x,H,I.tok _,⟨_,rfl⟩,h⟩
noncomputable def Gl(X:Cx)(x:Str):Prop:=X.env.kindOf x=aA .globalImplicit
theorem Zic{E:aj->aq->Prop}{pins:List (au×Obj)}{s:aq}{σ:St}{H:Hp}{x:Str}{u:aj}{pos:Pos}{Q:aj->aq->Prop}(I:Inv X pins σ H s)(hg:Gl X x)(hm:X.mg x=aA u)(h:Q u s)
  (hd:(x==("__debug__":Str))=aD:=by decide):bd (bz X.prog X.w) X.A (gw (.Name x pos) X.env) Q E s:=
 Calls.Name_function_global I.ok.kind hg (Calls.loadGlobal_global (by rw[I.ok.glob];exact I.mod.glob.keeps I.bk) hm h) hd
theorem Bo{E:aj->aq->Prop}{pins:List (au×Obj)}{s:aq}{σ:St}{H:Hp}{x:Str}{u:aj}{pos:Pos}{Q:aj->aq->Prop}(I:Inv X pins σ H s)(hg:Gl X x)(hm:X.mg x=aB)(hv:bootBuiltins x=aA u)(h:Q u s)
  (hn:x≠"__name__":=by decide) (hd:(x==("__debug__":Str))=aD:=by decide):bd (bz X.prog X.w) X.A (gw (.Name x pos) X.env) Q E s:=by
 obtain⟨mb,h1,h2⟩:=I.mod.blt;exact Calls.Name_function_global I.ok.kind hg (Calls.loadGlobal_builtin (by rw[I.ok.glob];exact I.mod.glob.keeps I.bk) hm (by rw[I.ok.blt];exact h1.keeps I.bk) ((h2 x hn).trans hv) h) hd
theorem Zid{x:Str}{v:V}{u:aj}{pos:Pos}(hg:Gl X x)(hm:X.mg x=aB)(hv:bootBuiltins x=aA u)(r:Zz v u)(hn:x≠"__name__":=by decide)(hd:(x==("__debug__":Str))=aD:=by decide):PE X (.Name x pos) (tC v):=
 λ_ _ _ H _ I h=>Bo I hg hm hv ⟨v,H,I,r,h⟩ hn hd
noncomputable def t2I(ta tb:TE)(k:Int->Int->Hp->Prop):St->Hp->Prop:=λσ H=>ta σ H λx H1=>tb σ H1 λy H2=>∃i j,x= .int i/\y= .int j/\k i j H2
variable{a b:c5}{ta tb:TE}{pos:Pos}
noncomputable def Ztm(p:Int->Int->Bool)(ta tb:TE):TE:=λσ H Q=>t2I ta tb (λi j H2=>Q (.bl (p i j)) H2) σ H
noncomputable abbrev tLt:TE->TE->TE:=Ztm λi j=>decide (i<j)
noncomputable def tB(t:TE):TT:=λσ H Q=>t σ H λx H1=>∃c,x= .bl c/\Q c H1
theorem Zmr{e:c5}{t:TE}(h:PE X e t)(he:∀whole,isTrue e X.env whole=(do let v<-whole;standAt e.pos;holding [v] (truthy v)):=by intro _;rfl):PT X e (tB t):=by intro pins s σ H Q I hw;refine isTrue_plain (Wv (h pins s σ H _ I hw) λv s1 ⟨x,H1,I1,r1,q1⟩=>?_) (he _);obtain⟨d,rfl,q⟩:=q1;cases r1;exact wpAny_truthy_bool ⟨H1,I1,q⟩
variable{tA tB':TT}{rest:List c5}
noncomputable def Zpp(t u:TT):TT:=λσ H Q=>t σ H λc H1=>if c=aC then u σ H1 Q else Q aD H1
noncomputable def tOr(t u:TT):TT:=λσ H Q=>t σ H λc H1=>if c=aC then Q aC H1 else u σ H1 Q
noncomputable def Zpq(t:TT):TT:=λσ H Q=>t σ H λc H1=>Q (!c) H1
theorem Zie(ha:PT X a tA):PW X (.BoolOp .And [a] pos) tA:=by
 intro wh pins s σ H Q I h;refine isTrue_and (Wv (ha pins s σ H Q I h) λc s1 e=>?_);cases c with
 |true=>exact isTrue_and_nil e
 |false=>exact e
theorem Zms(ha:PT X a tA):PW X (.BoolOp .Or [a] pos) tA:=by
 intro wh pins s σ H Q I h;refine isTrue_or (Wv (ha pins s σ H Q I h) λc s1 e=>?_);cases c with
 |false=>exact isTrue_or_nil e
 |true=>exact e
theorem Zmt(ha:PT X a tA)(hb:PW X (.BoolOp .And (b::rest) pos) tB'):PW X (.BoolOp .And (a::b::rest) pos) (Zpp tA tB'):=by
 intro wh pins s σ H Q I h;refine isTrue_and (Wv (ha pins s σ H _ I h) λc s1 zq9=>?_);obtain⟨H1,I1,q1⟩:=zq9;cases c with
 |true=>exact hb wh pins s1 σ H1 Q I1 q1
 |false=>exact⟨H1,I1,q1⟩
theorem Zpr(ha:PT X a tA)(hb:PW X (.BoolOp .Or (b::rest) pos) tB'):PW X (.BoolOp .Or (a::b::rest) pos) (tOr tA tB'):=by
 intro wh pins s σ H Q I h;refine isTrue_or (Wv (ha pins s σ H _ I h) λc s1 zq9=>?_);obtain⟨H1,I1,q1⟩:=zq9;cases c with
 |true=>exact⟨H1,I1,q1⟩
 |false=>exact hb wh pins s1 σ H1 Q I1 q1
theorem Zmu(ha:PT X a tA):PT X (.UnaryOp .Not a pos) (Zpq tA):=by intro pins s σ H Q I h;exact isTrue_not (ha pins s σ H (λc H1=>Q (!c) H1) I h)
noncomputable def Zps(ta tb:TE):TE:=λσ H Q=>ta σ H λx H1=>∃c,x= .bl c/\if c=aC then Q (.bl aC) H1 else tb σ H1 Q
theorem Zmv{op} {t:TE} (h:PE X a t):PE X (.BoolOp op [a] pos) t:=λpins s σ H Q I hw=>BoolOp_one (h pins s σ H Q I hw)
theorem Zpt(ha:PE X a ta)(hb:PE X (.BoolOp .Or (b::rest) pos) tb):PE X (.BoolOp .Or (a::b::rest) pos) (Zps ta tb):=by
 intro pins s σ H Q I h;refine BoolOp_or (Wv (ha pins s σ H _ I h) λv s1 zq9=>?_);obtain⟨x,H1,I1,r1,q1⟩:=zq9;obtain⟨c,rfl,q1⟩:=q1;cases r1;refine wpAny_truthy_bool ?_;cases c with
 |false=>exact hb pins s1 σ H1 Q I1 q1
 |true=>exact⟨.bl aC,H1,I1,rfl,q1⟩
end
noncomputable def U0(K:ah)(H:Hp)(a:au)(xs:List V):Prop:=
 Rd H a (.lst xs)\/
  ∃(o:Obj) (its:Array aj) (n:Nat),K.lookup a=aA o/\o.cls= .type "list"/\o.dict=aB/\o.data= .seq its n/\its.size<=sizeLine/\Z3 xs its.toList
noncomputable def Mw(K:ah)(H:Hp)(a:au)(xs:List V):Prop:=
 Rd H a (.tup xs)\/
  ∃(o:Obj) (its:Array aj) (n:Nat),K.lookup a=aA o/\o.cls= .type "tuple"/\o.data= .seq its n/\its.size<=sizeLine/\Z3 xs its.toList
noncomputable def Ztn:aj->Option V
 | .none=>aA .non
 | .bool b=>aA (.bl b)
 | .int i _=>aA (.int i)
 | .str x _=>aA (.str x)
 | .bytes b _=>aA (.byt b)
 | .float b _=>aA (.flt b)
 | .ref a=>aA (.ref a)
 | .type n=>aA (.ty n)
 |_=>aB
theorem Zz.abs{x:V}{u:aj}(r:Zz x u):Ztn u=aA x:=by
 cases x with
 |non=>cases r;rfl
 |bl _=>cases r;rfl
 |int _=>obtain⟨t,rfl⟩:=r;rfl
 |str _=>obtain⟨t,rfl⟩:=r;rfl
 |byt _=>obtain⟨t,rfl⟩:=r;rfl
 |flt _=>obtain⟨t,rfl⟩:=r;rfl
 |ref _=>cases r;rfl
 |ty _=>cases r;rfl
theorem Zz.inj{x y:V}{u:aj}(r:Zz x u)(q:Zz y u):x=y:=df.inj (r.abs.symm.trans q.abs)
theorem Z3.inj{xs:List V}:∀{ys:List V} {us:List aj},Z3 xs us->Z3 ys us->xs=ys:=by
 induction xs with
 |nil=>intro ys us h g;cases h;cases g;rfl
 |cons x xs ih=>
  intro ys us h g;cases h with
  |cons r t=>
   cases g with
   |cons r' t'=>rw[r.inj r',ih t t']
section
variable{X:Cx}{pins:List (au×Obj)}{σ:St}{H:Hp}{s:aq}{a:au}{xs ys:List V}
theorem Inv.list(I:Inv X pins σ H s)(h:U0 X.K H a xs):∃its:List aj,Z3 xs its/\PlainL s.heap a its.toArray/\xs.length<=sizeLine:=by
 rcases h with h|⟨o,its,n,hk,hc,hd,hs,hz,r⟩
 ·obtain⟨z,its,n,r,e⟩:=h.ok I.hok;exact⟨its,r,⟨_,n,e,rfl,rfl,rfl⟩,z⟩
 ·refine⟨its.toList,r,⟨o,n,I.kIn a o hk,hc,hd,by simpa using hs⟩,?_⟩;have e:=r.length;simp only[a6]at e;omega
theorem Inv.tuple(I:Inv X pins σ H s)(h:Mw X.K H a xs):∃its:List aj,Z3 xs its/\IsTup s.heap a its.toArray/\xs.length<=sizeLine:=by
 rcases h with h|⟨o,its,n,hk,hc,hs,hz,r⟩
 ·obtain⟨z,its,r,p⟩:=h.ok I.hok;exact⟨its,r,p,z⟩
 ·refine⟨its.toList,r,⟨o,I.kIn a o hk,hc,n,by simpa using hs⟩,?_⟩;have e:=r.length;simp only[a6]at e;omega
theorem Inv.list_inj(I:Inv X pins σ H s)(h:U0 X.K H a xs)(h':U0 X.K H a ys):xs=ys:=by
 obtain⟨its,r,⟨o,n,e,_,_,d⟩,_⟩:=I.list h;obtain⟨its',r',⟨o',n',e',_,_,d'⟩,_⟩:=I.list h';rw[e]at e';cases e';rw[d]at d';injection d' with d1 _
 have:its=its':=by simpa using congrArg Array.toList d1
 subst this;exact r.inj r'
theorem Inv.tuple_inj(I:Inv X pins σ H s)(h:Mw X.K H a xs)(h':Mw X.K H a ys):xs=ys:=by
 obtain⟨its,r,⟨o,e,_,n,d⟩,_⟩:=I.tuple h;obtain⟨its',r',⟨o',e',_,n',d'⟩,_⟩:=I.tuple h';rw[e]at e';cases e';rw[d]at d';injection d' with d1 _
 have:its=its':=by simpa using congrArg Array.toList d1
 subst this;exact r.inj r'
end
noncomputable abbrev Cx.wish(X:Cx)(E:aj->aq->Prop):Cx:={X with xe:=E}
noncomputable abbrev Cx.nox(X:Cx):Cx:=X.wish λ_ _=>False
theorem Cx.Ok.wish{X:Cx}(ok:X.Ok)(E:aj->aq->Prop):(X.wish E).Ok:=
 ⟨ok.mod,ok.kind,ok.glob,ok.blt,ok.above,ok.inj,ok.has,ok.cab,ok.hd,ok.frames,ok.stk,ok.exf,ok.bs,ok.bsz,ok.noex,ok.exfs,ok.funs,ok.frf⟩
theorem Cx.Ok.unwish{X:Cx}{E:aj->aq->Prop}(ok:(X.wish E).Ok):X.Ok:=
 ⟨ok.mod,ok.kind,ok.glob,ok.blt,ok.above,ok.inj,ok.has,ok.cab,ok.hd,ok.frames,ok.stk,ok.exf,ok.bs,ok.bsz,ok.noex,ok.exfs,ok.funs,ok.frf⟩
section
variable{X:Cx}{pins:List (au×Obj)}{σ:St}{H:Hp}{s:aq}{E:aj->aq->Prop}
theorem Inv.wish(I:Inv X pins σ H s)(E:aj->aq->Prop):Inv (X.wish E) pins σ H s:=⟨I.ok.wish E,I.os,I.bare,I.base,I.loc,I.cell,I.free,I.freeC,I.pin,I.hok,I.len⟩
theorem Inv.unwish(I:Inv (X.wish E) pins σ H s):Inv X pins σ H s:=⟨I.ok.unwish,I.os,I.bare,I.base,I.loc,I.cell,I.free,I.freeC,I.pin,I.hok,I.len⟩
theorem SP.unwish{D:Ends}{f:Flow}{s':aq}(h:SP (X.wish E) pins D f s'):SP X pins D f s':=by
 cases f with
 |next=>obtain⟨σ',H',I,q⟩:=h;exact⟨σ',H',I.unwish,q⟩
 |brk=>obtain⟨σ',H',I,q⟩:=h;exact⟨σ',H',I.unwish,q⟩
 |cont=>obtain⟨σ',H',I,q⟩:=h;exact⟨σ',H',I.unwish,q⟩
 |ret u=>obtain⟨v,σ',H',I,r,q⟩:=h;exact⟨v,σ',H',I.unwish,r,q⟩
theorem Tt.nox{st:List Stmt}{t:TS}(h:Tt X.nox st t):Tt X st t:=λpins s σ H D I hw=>
 wpAny_mono (h pins s σ H D (I.wish _) hw) (λ_ _ q=>q.unwish) λ_ _ z=>False.elim z
end
section
variable{X:Cx}{st:Stmt}{rest:List Stmt}{t u:TS}{e:c5}{te:TE}{pos:Pos}
noncomputable def Zk8:TS:=λD σ H=>D.nx σ H
noncomputable def Zpu(t u:TS):TS:=λD σ H=>t {D with nx:=u D} σ H
theorem Zif:Tt X [] Zk8:=λ_ _ σ H _ I h=>wpAny_execs_nil ⟨σ,H,I,h⟩
theorem Zd1(h1:PS X st t)(h2:Tt X rest u):Tt X (st::rest) (Zpu t u):=by
 intro pins s σ H D I h;refine wpAny_execs_cons (Wv (h1 pins s σ H {D with nx:=u D} I h) λf s1 q=>?_);cases f with
 |next=>obtain⟨σ',H',I',q⟩:=q;exact h2 pins s1 σ' H' D I' q
 |ret v=>exact q
 |brk=>exact q
 |cont=>exact q
theorem Zig(h1:PS X st t):Tt X [st] t:=by
 intro pins s σ H D I h;refine wpAny_execs_cons (Wv (h1 pins s σ H D I h) λf s1 q=>?_);cases f with
 |next=>exact wpAny_execs_nil q
 |ret v=>exact q
 |brk=>exact q
 |cont=>exact q
theorem Inv.quiet{pins:List (au×Obj)}{σ:St}{H:Hp}{s:aq}(I:Inv X pins σ H s):interactive X.env=aD:=by simp[interactive,I.ok.kind]
noncomputable def D3(te:TE):TS:=λD σ H=>te σ H λ_ H1=>D.nx σ H1
theorem Ae(he:PE X e te)(hs:swapsWith e aB pos.line X.env=pure aD:=by rfl):PS X (.Expr e pos) (D3 te):=by intro pins s σ H D I h;exact wpAny_Expr_any (Wv (he pins s σ H _ I h) λv s1 ⟨x,H1,I1,r1,q1⟩=>⟨σ,H1,I1,q1⟩) I.quiet hs
noncomputable def Zmw(te:TE):TS:=λD σ H=>te σ H D.rt
theorem Zd2(he:PE X e te):PS X (.Return (aA e) pos) (Zmw te):=by intro pins s σ H D I h;exact wpAny_Return_some (Wv (he pins s σ H _ I h) λv s1 ⟨x,H1,I1,r1,q1⟩=>⟨x,σ,H1,I1,r1,q1⟩)
noncomputable def Zpv(c:TT)(t u:TS):TS:=λD σ H=>c σ H λb H1=>if b=aC then t D σ H1 else u D σ H1
theorem Zpw{c:c5}{a b:List Stmt}{tc:TT}(hc:PT X c tc)(ha:Tt X a t)(hb:Tt X b u):PS X (.If c a b pos) (Zpv tc t u):=by
 intro pins s σ H D I h;refine wpAny_If (Wv (hc pins s σ H _ I h) λd s1 zq9=>?_);obtain⟨H1,I1,q1⟩:=zq9;cases d with
 |true=>exact ha pins s1 σ H1 D I1 q1
 |false=>exact hb pins s1 σ H1 D I1 q1
end
noncomputable abbrev TG:=V->St->Hp->(St->Hp->Prop)->Prop
noncomputable abbrev TGs:=List V->St->Hp->(St->Hp->Prop)->Prop
noncomputable def PG(X:Cx)(target:c5)(t:TG):Prop:=
 ∀(pins:List (au×Obj)) (s:aq) (σ:St) (H:Hp) (v:V) (u:aj) (Q:St->Hp->Prop),Inv X pins σ H s->Zz v u->t v σ H Q->
  bd (bz X.prog X.w) X.A (assign target X.env u) (λ_ s'=>∃σ' H',Inv X pins σ' H' s'/\Q σ' H') X.xe s
noncomputable def PGs(X:Cx)(ts:List c5)(t:TGs):Prop:=
 ∀(pins:List (au×Obj)) (s:aq) (σ:St) (H:Hp) (vs:List V) (us:List aj) (Q:St->Hp->Prop),Inv X pins σ H s->Z3 vs us->t vs σ H Q->
  bd (bz X.prog X.w) X.A (assignInOrder ((assignEach ts X.env).map (·.2)) us) (λ_ s'=>∃σ' H',Inv X pins σ' H' s'/\Q σ' H') X.xe s
section
variable{X:Cx}{pos:Pos}
noncomputable def Eb(i:Nat):TG:=λv σ H Q=>Q (σ.set i (aA v)) H
theorem Zii{i:Nat}{x:Str}(hN:X.N.Nodup)(hi:X.N[i]? =aA x)(hx:Loc X.env.scope x)(hf:X.fn x=aC\/X.env.scope.names.lookup x=aA .local:=by first|exact .inl rfl|exact .inr rfl|assumption):PG X (.Name x pos) (Eb i):=by intro pins s σ H v u Q I r h;exact wpAny_assign_Name (Sq I hN hi hx r (λs' I'=>⟨_,H,I',h⟩) hf)
noncomputable def Zpx:TGs:=λvs σ H Q=>vs=[]/\Q σ H
noncomputable def Zk9(t:TG)(u:TGs):TGs:=λvs σ H Q=>∃v r,vs=v::r/\t v σ H λσ' H'=>u r σ' H' Q
theorem Zij:PGs X [] Zpx:=by intro pins s σ H vs us Q I r h;obtain⟨e,h⟩:=h;subst e;cases r;exact assignInOrder_nil ⟨σ,H,I,h⟩
theorem Zd4{e:c5}{es:List c5}{t:TG}{u:TGs}(h1:PG X e t)(h2:PGs X es u)
  (hs:(assignEach (e::es) X.env).map (·.2)=assign e X.env::(assignEach es X.env).map (·.2):=by rfl):PGs X (e::es) (Zk9 t u):=by
 intro pins s σ H vs us Q I r h;obtain⟨v,vr,e1,h⟩:=h;subst e1;cases r with
 |cons r rr=>rw[hs];refine assignInOrder_cons (Wv (h1 pins s σ H _ _ _ I r h) λ_ s1 zq9=>?_);obtain⟨σ1,H1,I1,q1⟩:=zq9;exact h2 pins s1 σ1 H1 _ _ Q I1 rr q1
noncomputable def Zpy(K:ah)(n:Nat)(t:TGs):TG:=λv σ H Q=>∃a xs,v= .ref a/\Mw K H a xs/\xs.length=n/\t xs σ H Q
theorem Zmx{es:List c5}{k:Nat}{t:TGs}{n:Nat}(hc:X.calm=aC)(h:PGs X es t)
  (hn:(assignEach es X.env).length=n:=by rfl) (hst:(assignEach es X.env).findIdx? (·.1)=aB:=by rfl):PG X (.Tuple es k pos) (Zpy X.K n t):=by
 intro pins s σ H v u Q I r hw;obtain⟨a,xs,e1,hq,hl,hw⟩:=hw;subst e1;cases r;obtain⟨its,rv,ht,hz⟩:=I.tuple hq;refine assign_Tuple_tuple (I.ok.hd hc) ht (by simp[hn,<-hl,rv.length]) hst λh' hx=>?_;have I1:Inv X pins σ H {s with heap:=h'}:=I.kept (t':=s.toks) λb o e=>hx b o (b9 (bf e)) e;exact h pins _ σ H xs _ Q I1 (by simpa using rv) hw
noncomputable def Zb3(te:TE)(g:TG):TS:=λD σ H=>te σ H λx H1=>g x σ H1 D.nx
theorem Zmy{tg e:c5}{te:TE}{g:TG}(he:PE X e te)(hg:PG X tg g)(hs:swapsWithSole [tg] e pos.line X.env=pure aD:=by rfl)(hw:swappedStores [tg] e X.env=pure aB:=by rfl)
  (h1:(assignEach [tg] X.env).map (·.2)=[assign tg X.env]:=by rfl):PS X (.Assign [tg] e pos) (Zb3 te g):=by
 intro pins s σ H D I h;refine wpAny_Assign_stores (Wv (he pins s σ H _ I h) λv s1 ⟨x,H1,I1,r1,q1⟩=>?_) hs hw;rw[h1];exact Wv (hg pins s1 σ H1 x v _ I1 r1 q1) λ_ s2 q=>q
theorem Zd5{i:Nat}{x:Str}{e:c5}{te:TE}{pos':Pos}(hN:X.N.Nodup)(hi:X.N[i]? =aA x)(hx:Loc X.env.scope x)(he:PE X e te)(hs:swapsWith e (aA (.Name x pos')) pos.line X.env=pure aD:=by rfl)(hf:X.fn x=aC\/X.env.scope.names.lookup x=aA .local:=by first|exact .inl rfl|exact .inr rfl|assumption):
  PS X (.Assign [.Name x pos'] e pos) (Zb3 te (Eb i)):=by
 intro pins s σ H D I h;refine wpAny_Assign_Name (Wv (he pins s σ H _ I h) λv s1 ⟨y,H1,I1,r1,q1⟩=>?_) hs;exact Sq I1 hN hi hx r1 (λs2 I2=>⟨_,H1,I2,q1⟩) hf
noncomputable def Zd6(c:TT)(tb:TS):TS:=λD σ H=>∃W:Nat->St->Hp->Prop,(∃m,W m σ H)/\∀m σ H,W m σ H->
 c σ H λb H1=>if b=aC then∃N:St->Hp->Prop,(∀σ' H',N σ' H'->∃m',m'<m/\W m' σ' H')/\tb {D with nx:=N,ct:=N,bk:=D.nx} σ H1 else D.nx σ H1
theorem Zd7{c:c5}{body:List Stmt}{tc:TT}{tb:TS}(hp:PassesOwn (bz X.prog X.w) X.A X.env X.xe)(hc:PT X c tc)(hb:Tt X body tb):PS X (.While c body [] pos) (Zd6 tc tb):=by
 intro pins s σ H D I h;obtain⟨W,⟨m0,w0⟩,turn⟩:=h;refine wpAny_While (codeAny_whileLoop (λn s'=>∃σ' H',Inv X pins σ' H' s'/\W n σ' H') ?_ m0 ⟨σ,H,I,w0⟩);rintro n s1 ⟨σ1,H1,I1,w1⟩;refine wpAny_passesOwn hp (Wv (hc pins s1 σ1 H1 _ I1 (turn n σ1 H1 w1)) λb s2 zq9=>?_);obtain⟨H2,I2,q2⟩:=zq9;cases b with
 |true=>
  obtain⟨N,hN,q2⟩:=q2;rw[if_pos rfl];refine wpAny_passesOwn hp (Wv (hb pins s2 σ1 H2 _ I2 q2) λf s3 q3=>?_);cases f with
  |next=>obtain⟨σ3,H3,I3,n3⟩:=q3;obtain⟨m',hm,w3⟩:=hN σ3 H3 n3;exact⟨m',hm,σ3,H3,I3,w3⟩
  |cont=>obtain⟨σ3,H3,I3,n3⟩:=q3;obtain⟨m',hm,w3⟩:=hN σ3 H3 n3;exact⟨m',hm,σ3,H3,I3,w3⟩
  |brk=>exact q3
  |ret v=>exact q3
 |false=>rw[if_neg bj];exact wpAny_execs_nil ⟨σ1,H2,I2,q2⟩
end
set_option genInjectivity false in
structure It where
 go:Nat->Hp->Prop
 yld:Nat->Hp->V->Hp->Prop
 stop:Nat->Hp->Prop
noncomputable def Bd(X:Cx)(pins:List (au×Obj))(H:Hp)(b:au):Prop:=
 H b=aB/\b≠X.env.locals/\b∉X.fs/\(b∈X.ex\/X.s₀.heap.objs.size<=b)/\(∀x c,X.env.cells.lookup x=aA c->c≠b)/\∀p∈X.pn++pins,p.1≠b
theorem Inv.fpOk{X:Cx}{pins:List (au×Obj)}{σ:St}{H H':Hp}{s:aq}{b:au}(I:Inv X pins σ H s)(hb:s.heap.objs.size<=b)(hn:H' b=aB):Bd X pins H' b:=by
 refine⟨hn,Nat.ne_of_gt (c9 I.lt hb),I.nofs hb,.inr (dk I.sz hb),λx c e z=>?_,λp hp z=>?_⟩
 ·obtain⟨v,q⟩:=I.cell x c e;exact absurd (c9 q.lt (by rw[z];exact hb)) (g9 _)
 ·exact absurd (c9 (bf (I.pin p hp).1) (by rw[z];exact hb)) (g9 _)
structure Turn(P:bv)(w:c6)(K:ah)(tg:c5)(J:It)(fp:List au)(it:au)(tn:Nat->f8->Prop):Prop where
 mem:it∈fp
 obj:∀i h,tn i h->∀b∈fp,∃o,h.get? b=aA o/\∀v,o.data≠.cell v
 keep:∀i h h',tn i h->(∀b∈fp,∀o,h.get? b=aA o->h'.get? b=aA o)->tn i h'
 item:∀(X:Cx),X.prog=P->X.w=w->X.K=K->X.calm=aC->∀(i:Nat) (pins:List (au×Obj)) (s:aq) (σ:St) (H:Hp) (E:aj->aq->Prop),Inv X pins σ H s->(∀b∈fp,Bd X pins H b)->tn i s.heap->J.go i H->
  bd (bz P w) X.A (pyNext (.ref it)) (λr s1=>∃u,r=aA u/\
   bd (bz P w) X.A (letOwnedTupleGo tg (.ref it) u) (λ_ s2=>∃x H',Inv X pins σ H' s2/\Zz x u/\J.yld i H x H'/\tn (i+1) s2.heap/\∀b∈fp,H' b=aB) E s1) E s
 done:∀(X:Cx),X.prog=P->X.w=w->X.K=K->X.calm=aC->∀(i:Nat) (pins:List (au×Obj)) (s:aq) (σ:St) (H:Hp) (E:aj->aq->Prop),Inv X pins σ H s->(∀b∈fp,Bd X pins H b)->tn i s.heap->J.stop i H->
  bd (bz P w) X.A (pyNext (.ref it)) (λr s1=>r=aB/\Inv X pins σ H s1) E s
 self:∀(A:di) (i:Nat) (s:aq) (Q:aj->aq->Prop) (E:aj->aq->Prop),tn i s.heap->Q (.ref it) s->bd (bz P w) A (pyIter (.ref it)) Q E s
noncomputable abbrev TI:=St->Hp->(It->Hp->Prop)->Prop
noncomputable def PIE(X:Cx)(pins:List (au×Obj))(σ:St)(tg:c5)(R:It->Hp->Prop)(itv:aj)(s2:aq):Prop:=
 ∃(it:au) (fp:List au) (tn:Nat->f8->Prop) (J:It) (H':Hp),itv= .ref it/\Inv X pins σ H' s2/\Turn X.prog X.w X.K tg J fp it tn/\tn 0 s2.heap/\(∀b∈fp,Bd X pins H' b)/\R J H'
noncomputable def PI(X:Cx)(tg iter:c5)(wi:TI):Prop:=
 ∀(pins:List (au×Obj)) (s:aq) (σ:St) (H:Hp) (R:It->Hp->Prop),Inv X pins σ H s->wi σ H R->
  bd (bz X.prog X.w) X.A (gw iter X.env) (λv s1=>bd (bz X.prog X.w) X.A (pyIter v) (PIE X pins σ tg R) X.xe s1) X.xe s
theorem Tu{M:Model}{A:di}{E:aj->aq->Prop}{s:aq}{tg:c5}{it:au}{u:aj}{o:Obj}{n:String}{vs:Array aj}{Q:Unit->aq->Prop}(ho:s.heap.get? it=aA o)(hc:o.cls= .type n)(hd:o.data= .fields vs)
    (hn:["enumerate","zip","dict_itemiterator","dict_reverseitemiterator","odict_iterator","itertools.zip_longest","itertools.pairwise"].contains n=aD) (hQ:Q () s):bd M A (letOwnedTupleGo tg (.ref it) u) Q E s:=by
  unfold letOwnedTupleGo;cases tg<;> first
    |exact af hQ
    | (cases u<;> first
        |exact af hQ
        | (refine ab (wpAny_load ho ?_)
           rw[hc,hd];show bd M A (if(["enumerate","zip","dict_itemiterator","dict_reverseitemiterator","odict_iterator","itertools.zip_longest","itertools.pairwise"].contains n&&vs[0]? ==aA (rawInt _))=aC then _ else _) Q E s;rw[if_neg (by intro h;rw[hn,Bool.false_and]at h;cases h)];exact af hQ))
noncomputable def Itl(K:ah)(a:au):It:=
 ⟨λi H=>∃xs x,U0 K H a xs/\xs[i]? =aA x,λi H x H'=>H'=H/\∀xs,U0 K H a xs->xs[i]? =aA x,λi H=>∃xs,U0 K H a xs/\xs.length<=i⟩
noncomputable def Itt(K:ah)(a:au):It:=
 ⟨λi H=>∃xs x,Mw K H a xs/\xs[i]? =aA x,λi H x H'=>H'=H/\∀xs,Mw K H a xs->xs[i]? =aA x,λi H=>∃xs,Mw K H a xs/\xs.length<=i⟩
noncomputable def Itr(lo:Int)(n:Nat):It:=⟨λi _=>i<n,λi H x H'=>H'=H/\x= .int (lo+i),λi _=>n<=i⟩
theorem Zb4{P:bv}{w:c6}{K:ah}{tg:c5}(a it:au):Turn P w K tg (Itl K a) [it] it (λi h=>h.IsListIter it a i)where
 mem:=by simp
 obj:=λi h st b hb=>by
  have e:b=it:=by simpa using hb
  subst e;obtain⟨o,e,c,d⟩:=st;exact⟨o,e,λv z=>by rw[d]at z;cases z⟩
 keep:=λi h h' st k=>st.at λo e=>k it (by simp) o e
 item:=by intro X hP hw hK hc i pins s σ H E I hf st hg;subst hP hw hK;obtain⟨xs,x,hq,hx⟩:=hg;obtain⟨its,rv,p,hz⟩:=I.list hq;obtain⟨u,hu,ru⟩:=rv.get hx;obtain⟨f0,f1,f2,f3,f4,f5⟩:=hf it (by simp);refine wpAny_pyNext_list_item st p.isList (x:=u) (by simpa using hu) λh' st' sb=>?_;have I1:Inv X pins σ H {s with heap:=h'}:=I.turned (t':=s.toks) (λb o hb e=>(sb.2 b hb).trans e) f0 f1 f3 f4 f5;obtain⟨o,e,c,d⟩:=id st';exact⟨u,rfl,Tu (s:={s with heap:=h'}) e c d (by decide) ⟨x,H,I1,ru,⟨rfl,λys hy=>by rw[I.list_inj hy hq];exact hx⟩,st',λb hb=>(hf b hb).1⟩⟩
 done:=by intro X hP hw hK hc i pins s σ H E I hf st hg;subst hP hw hK;obtain⟨xs,hq,hx⟩:=hg;obtain⟨its,rv,p,hz⟩:=I.list hq;obtain⟨f0,f1,f2,f3,f4,f5⟩:=hf it (by simp);have hl:=rv.length;exact wpAny_pyNext_list_end (I.ok.hd hc) st p.isList (by simp;omega) λh' eb=>⟨rfl,I.turned (t':=s.toks) (λb o hb e=>eb b o hb e) f0 f1 f3 f4 f5⟩
 self:=λ_ _ _ _ _ st h=>wpAny_pyIter_listiter st h
theorem Xp{P:bv}{w:c6}{K:ah}{tg:c5}(a it:au):Turn P w K tg (Itt K a) [it] it (λi h=>h.IsTupleIter it a i)where
 mem:=by simp
 obj:=λi h st b hb=>by
  have e:b=it:=by simpa using hb
  subst e;obtain⟨o,e,c,d⟩:=st;exact⟨o,e,λv z=>by rw[d]at z;cases z⟩
 keep:=λi h h' st k=>st.at λo e=>k it (by simp) o e
 item:=by intro X hP hw hK hc i pins s σ H E I hf st hg;subst hP hw hK;obtain⟨xs,x,hq,hx⟩:=hg;obtain⟨its,rv,p,hz⟩:=I.tuple hq;obtain⟨u,hu,ru⟩:=rv.get hx;obtain⟨f0,f1,f2,f3,f4,f5⟩:=hf it (by simp);refine wpAny_pyNext_tuple_item st (show s.heap.IsTuple a its.toArray from p) (x:=u) (by simpa using hu) λh' st' sb=>?_;have I1:Inv X pins σ H {s with heap:=h'}:=I.turned (t':=s.toks) (λb o hb e=>(sb.2 b hb).trans e) f0 f1 f3 f4 f5;obtain⟨o,e,c,d⟩:=id st';exact⟨u,rfl,Tu (s:={s with heap:=h'}) e c d (by decide) ⟨x,H,I1,ru,⟨rfl,λys hy=>by rw[I.tuple_inj hy hq];exact hx⟩,st',λb hb=>(hf b hb).1⟩⟩
 done:=by intro X hP hw hK hc i pins s σ H E I hf st hg;subst hP hw hK;obtain⟨xs,hq,hx⟩:=hg;obtain⟨its,rv,p,hz⟩:=I.tuple hq;obtain⟨f0,f1,f2,f3,f4,f5⟩:=hf it (by simp);have hl:=rv.length;exact wpAny_pyNext_tuple_end (I.ok.hd hc) st (show s.heap.IsTuple a its.toArray from p) (by simp;omega) λh' eb=>⟨rfl,I.turned (t':=s.toks) (λb o hb e=>eb b o hb e) f0 f1 f3 f4 f5⟩
 self:=λ_ _ _ _ _ st h=>wpAny_pyIter_tupleiter st h
theorem Xq{P:bv}{w:c6}{K:ah}{tg:c5}(it:au)(lo:Int)(n:Nat):Turn P w K tg (Itr lo n) [it] it (λi h=>IsRangeIter h it (lo+(i:Nat)*1) ((n:Int)- (i:Nat)) 1)where
 mem:=by simp
 obj:=λi h st b hb=>by
  have e:b=it:=by simpa using hb
  subst e;exact⟨_,st,λv z=>by
   have z':Data.fields _=Data.cell v:=z;cases z'⟩
 keep:=λi h h' st k=>k it (by simp) _ st
 item:=by intro X hP hw hK hc i pins s σ H E I hf st hg;subst hP hw hK;obtain⟨f0,f1,f2,f3,f4,f5⟩:=hf it (by simp);have W:=Walks.range (prog:=X.prog) (w:=X.w) (I.ok.hd hc) it lo 1 n;refine W.item i s _ _ hg st λv h' tk hv st' kk=>?_;obtain⟨t,rfl⟩:=hv;have I1:Inv X pins σ H {s with heap:=h',toks:=tk}:=I.turned (λb o hb e=>kk b o (by simpa using hb) e) f0 f1 f3 f4 f5;refine⟨_,rfl,Tu (s:={s with heap:=h',toks:=tk}) (n:="range_iterator") st' rfl rfl (by decide) ⟨.int (lo+i),H,I1,⟨t,?_⟩,⟨rfl,rfl⟩,st',λb hb=>(hf b hb).1⟩⟩;rw[Int.mul_one]
 done:=by intro X hP hw hK hc i pins s σ H E I hf st hg;subst hP hw hK;obtain⟨f0,f1,f2,f3,f4,f5⟩:=hf it (by simp);exact wpAny_pyNext_range_end (I.ok.hd hc) st (by have:n<=i:=hg;omega) λh' eb=>⟨rfl,I.turned (t':=s.toks) (λb o hb e=>eb b o hb e) f0 f1 f3 f4 f5⟩
 self:=λ_ _ _ _ _ st h=>wpAny_pyIter_rangeiter st h
section
variable{X:Cx}{tg:c5}
theorem Zd8{pins:List (au×Obj)}{σ:St}{H:Hp}{s:aq}{R:It->Hp->Prop}{E:aj->aq->Prop}{lo hi:Int}{t u v:Tok}{tk:Nat}(I:Inv X pins σ H s)(h1:-(2^62)<=lo)(h2:lo<2^62)(h3:-(2^62)<=hi)(h4:hi<2^62)
  (q:R (Itr lo (hi- lo).toNat) H):bd (bz X.prog X.w) X.A (pyIter (.ref s.heap.objs.size)) (PIE X pins σ tg R) E {s with heap:=s.heap.push {cls:=.type "range",data:=.fields #[.int lo t,.int hi u,.int 1 v]},toks:=tk}:=by
 refine wpAny_pyIter_range (IsRange.new ..) (small_one h1 h2 h3 h4) ?_;have I1:Inv X pins σ H {s with heap:=s.heap.push {cls:=.type "range",data:=.fields #[.int lo t,.int hi u,.int 1 v]},toks:=tk}:=I.kept λb o e=>ar _ e;refine⟨(s.heap.push {cls:=.type "range",data:=.fields #[.int lo t,.int hi u,.int 1 v]}).objs.size,[(s.heap.push {cls:=.type "range",data:=.fields #[.int lo t,.int hi u,.int 1 v]}).objs.size],_,_,H,rfl,
  I1.kept (t':=tk) λb o e=>ar _ e,Xq _ lo (hi- lo).toNat,?_,λb hb=>?_,q⟩
 ·have e1:lo+((0:Nat):Int)*1=lo:=by simp
  have e2:(((hi- lo).toNat:Nat):Int)- ((0:Nat):Int)=Builtin.Range.rangeSize lo hi 1:=by rw[rangeSize_one];split<;> omega
  show IsRangeIter _ _ (lo+((0:Nat):Int)*1) ((((hi- lo).toNat:Nat):Int)- ((0:Nat):Int)) 1;rw[e1,e2];exact a9 _ rfl
 ·have e:b=(s.heap.push {cls:=.type "range",data:=.fields #[.int lo t,.int hi u,.int 1 v]}).objs.size:=by simpa using hb
  subst e;exact I1.fpOk (az _) (I1.hok.fresh (az _))
noncomputable def Zla(ta:TA):TI:=λσ H R=>ta σ H λvs H1=>∃j:Int,vs=[.int j]/\-(2^62)<=j/\j<2^62/\R (Itr 0 j.toNat) H1
theorem Zb5{a:c5}{ta:TA}{p pos:Pos}(hg:Gl X "range")(hm:X.mg "range"=aB)(ha:PA X [a] ta)(hs:ba [a] X.env=[(aD,gw a X.env)]:=by rfl):PI X tg (.Call (.Name "range" p) [a] [] pos) (Zla ta):=by
 intro pins s σ H R I h;refine Call_ (Bo I hg hm boot_range (PyProof.Rows.callWith_type1 (Wv (ha pos pins s σ H _ I h) λus s1 ⟨vs,H1,I1,r1,q1⟩=>?_) hs rfl));obtain⟨j,e,q1,q2,q⟩:=q1;subst e;cases r1 with
 |cons r rr=>cases rr;obtain⟨t,rfl⟩:=r;exact call_range_1 (Zd8 I1 (by omega) (by omega) q1 q2 (by simpa using q))
noncomputable def Zpz(wi:TI)(g:TG)(tb:TS):TS:=λD σ H=>wi σ H λJ H1=>∃W:Nat->Nat->St->Hp->Prop,(∃m,W 0 m σ H1)/\∀i m σ H,W i m σ H->
 (J.stop i H/\D.nx σ H)\/(J.go i H/\∃N:St->Hp->Prop,(∀σ' H',N σ' H'->∃m',m'<m/\W (i+1) m' σ' H')/\∀x H',J.yld i H x H'->g x σ H' λσ2 H2=>tb {D with nx:=N,ct:=N,bk:=D.nx} σ2 H2)
noncomputable def Ec(fp:List au)(h:f8):List (au×Obj):=fp.filterMap λb=>(h.get? b).map λo=>(b,o)
theorem Bp{fp:List au}{h:f8}{b:au}{o:Obj}(hb:b∈fp)(e:h.get? b=aA o):(b,o)∈Ec fp h:=List.mem_filterMap.mpr ⟨b,hb,by rw[e];rfl⟩
theorem Zb6{fp:List au}{h:f8}{p:au×Obj}(hp:p∈Ec fp h):p.1∈fp/\h.get? p.1=aA p.2:=by
 obtain⟨b,hb,e⟩:=List.mem_filterMap.mp hp;cases q:h.get? b with
 |none=>rw[q]at e;cases e
 |some o=>rw[q]at e;have e':(b,o)=p:=df.inj e;subst e';exact⟨hb,q⟩
theorem Inv.pinned{pins:List (au×Obj)}{σ:St}{H:Hp}{s:aq}{fp:List au}(I:Inv X pins σ H s)(hf:∀b∈fp,Bd X pins H b)(ho:∀b∈fp,∃o,s.heap.get? b=aA o/\∀v,o.data≠.cell v):Inv X (pins++Ec fp s.heap) σ H s:=
 I.pins_of λp hp=>(bh.mp hp).elim (λz=>I.pin p (bq _ z)) λz=>by obtain⟨hb,e⟩:=Zb6 z;obtain⟨f0,f1,f2,_⟩:=hf p.1 hb;obtain⟨o,e',d⟩:=ho p.1 hb;rw[e]at e';cases e';exact⟨e,f0,f1,f2,d⟩
theorem Inv.unpinned{pins pl:List (au×Obj)}{σ:St}{H:Hp}{s:aq}(I:Inv X (pins++pl) σ H s):Inv X pins σ H s:=I.pins_of λp hp=>I.pin p (bq _ (b7 _ hp))
theorem Zmz {iter : c5} {body : List Stmt} {wi : TI} {g : TG} {tb : TS} {pos : Pos} (hp : PassesOwn (bz X.prog X.w) X.A X.env X.xe) (hc : X.calm = aC) (hi : PI X tg iter wi) (hg : PG X tg g) (hb : Tt X body tb)
    (hs : ∀ x, foldedSetIterable iter X.env x = pure x := by intro _; rfl) : PS X (.For tg iter body [] pos) (Zpz wi g tb) := by
  intro pins s σ H D I h;refine wpAny_For (Wv (hi pins s σ H _ I h) λv s1 h1 => Wv h1 λitv s2 h2 => ?_) hs;obtain ⟨it, fp, tn, J, H2, e, I2, T, st2, f2, W, ⟨m0, w0⟩, turn⟩ := h2;subst e
  -- what stays aC of the iterator's objects through the loop
  have stat : ∀ {H' : Hp}, (∀ b ∈ fp, H' b = aB) -> ∀ b ∈ fp, Bd X pins H' b := λhn b hb => ⟨hn b hb, (f2 b hb).2⟩
  refine codeAny_forLoop_any (λn s' => ∃ i σ' H', Inv X pins σ' H' s' /\ tn i s'.heap /\ (∀ b ∈ fp, H' b = aB) /\ W i n σ' H') ?_ m0 ⟨0, σ, H2, I2, st2, λb hb => (f2 b hb).1, w0⟩;rintro n s3 ⟨i, σ3, H3, I3, st3, fr3, w3⟩;rcases turn i n σ3 H3 w3 with ⟨stop, qn⟩ | ⟨go, N, hN, step⟩
  · refine wpAny_passesOwn hp (Wv (T.done X rfl rfl rfl hc i pins s3 σ3 H3 X.xe I3 (stat fr3) st3 stop) λr s4 ⟨hr, I4⟩ => ?_)
    subst hr;exact wpAny_execs_nil ⟨σ3, H3, I4, qn⟩
  · refine wpAny_passesOwn hp (Wv (T.item X rfl rfl rfl hc i pins s3 σ3 H3 X.xe I3 (stat fr3) st3 go) λr s4 ⟨u, hr, h4⟩ => ?_)
    subst hr;refine wpAny_passesOwn hp (Wv h4 λ_ s5 zq9 => ?_);obtain ⟨x, H5, I5, r5, y5, st5, fr5⟩ := zq9;have I5' := I5.pinned (stat fr5) (T.obj _ _ st5);refine wpAny_passesOwn hp (Wv (hg _ s5 σ3 H5 x u _ I5' r5 (step x H5 y5)) λ_ s6 zq9 => ?_);obtain ⟨σ6, H6, I6, q6⟩ := zq9;refine wpAny_passesOwn hp (Wv (hb _ s6 σ6 H6 _ I6 q6) λf s7 q7 => ?_);have again : ∀ {σ7 : St} {H7 : Hp}, Inv X (pins ++ Ec fp s5.heap) σ7 H7 s7 -> N σ7 H7 -> ∃ m, m < n /\ ∃ i σ' H', Inv X pins σ' H' s7 /\ tn i s7.heap /\ (∀ b ∈ fp, H' b = aB) /\ W i m σ' H' := λ{σ7 H7} I7 n7 => by obtain ⟨m', hm, w7⟩ := hN σ7 H7 n7;refine ⟨m', hm, i + 1, σ7, H7, I7.unpinned, T.keep _ _ _ st5 λb hb o e => (I7.pin (b, o) (bq _ (bq _ (Bp hb e)))).1, λb hb => ?_, w7⟩;obtain ⟨o, e, d⟩ := T.obj _ _ st5 b hb;exact (I7.pin (b, o) (bq _ (bq _ (Bp hb e)))).2.1
    cases f with
    | next => obtain ⟨σ7, H7, I7, n7⟩ := q7; exact again I7 n7
    | cont => obtain ⟨σ7, H7, I7, n7⟩ := q7; exact again I7 n7
    | brk => obtain ⟨σ7, H7, I7, q7⟩ := q7; exact ⟨σ7, H7, I7.unpinned, q7⟩
    | ret v => obtain ⟨x7, σ7, H7, I7, r7, q7⟩ := q7; exact ⟨x7, σ7, H7, I7.unpinned, r7, q7⟩
end
noncomputable abbrev R2:=V->V->Hp->VK->Prop
noncomputable def Cq(X:Cx)(f:aj->aj->Sem aj)(r:R2):Prop:=
 ∀(pins:List (au×Obj)) (s:aq) (σ:St) (H:Hp) (x y:V) (v u:aj) (Q:VK),Inv X pins σ H s->Zz x v->Zz y u->r x y H Q->
  bd (bz X.prog X.w) X.A (f v u) (EP X pins σ Q) X.xe s
noncomputable def Q4(X:Cx)(f:aj)(r:List V->Hp->VK->Prop):Prop:=
 ∀(pins:List (au×Obj)) (s:aq) (σ:St) (H:Hp) (xs:List V) (us:List aj) (Q:VK),Inv X pins σ H s->Z3 xs us->r xs H Q->
  bd (bz X.prog X.w) X.A (call f us) (EP X pins σ Q) X.xe s
noncomputable def tOp(r:R2)(ta tb:TE):TE:=λσ H Q=>ta σ H λx H1=>tb σ H1 λy H2=>r x y H2 Q
noncomputable def tUn(r:V->Hp->VK->Prop)(ta:TE):TE:=λσ H Q=>ta σ H λx H1=>r x H1 Q
noncomputable def rI(C:Int->Int->Prop)(g:Int->Int->V):R2:=λx y H Q=>∃i j,x= .int i/\y= .int j/\C i j/\Q (g i j) H
noncomputable def rI0(g:Int->Int->V):R2:=λx y H Q=>∃i j,x= .int i/\y= .int j/\Q (g i j) H
section
variable{X:Cx}{a b c:c5}{ta tb tc:TE}{pos:Pos}
theorem Zm0(ha:PE X a ta)(hb:PE X b tb){pins:List (au×Obj)}{s:aq}{σ:St}{H:Hp}{R:V->V->Hp->Prop}(I:Inv X pins σ H s)
  (h:ta σ H λx H1=>tb σ H1 λy H2=>R x y H2) {Q:aj->aq->Prop} {f:aj->aj->Sem aj}
  (hf:∀v u s2 x y H2,Inv X pins σ H2 s2->Zz x v->Zz y u->R x y H2->bd (bz X.prog X.w) X.A (f v u) Q X.xe s2):
  bd (bz X.prog X.w) X.A (gw a X.env) (λv s₁=>bd (bz X.prog X.w) X.A (gw b X.env) (λu s₂=>bd (bz X.prog X.w) X.A (f v u) Q X.xe s₂) X.xe s₁) X.xe s:=by
 refine Wv (ha pins s σ H _ I h) λv s1 zq9=>?_;obtain⟨x,H1,I1,r1,q1⟩:=zq9;refine Wv (hb pins s1 σ H1 _ I1 q1) λu s2 zq9=>?_;obtain⟨y,H2,I2,r2,q2⟩:=zq9;exact hf v u s2 x y H2 I2 r1 r2 q2
theorem Zp0{op:Operator}{r:R2}(ho:Cq X (binaryOp op) r)(ha:PE X a ta)(hb:PE X b tb):PE X (.BinOp a op b pos) (tOp r ta tb):=by intro pins s σ H Q I h;exact wpAny_BinOp (Zm0 ha hb I h λv u s2 x y H2 I2 rx ry q=>ho pins s2 σ H2 x y v u Q I2 rx ry q)
theorem opI{f:aj->aj->Sem aj}{C:Int->Int->Prop}{g:Int->Int->Int}
  (rule:∀(i j:Int) (t u:Tok) (s:aq) (Q:aj->aq->Prop) (E:aj->aq->Prop),C i j->Q (.int (g i j) s.toks) {s with toks:=s.toks+1}->bd (bz X.prog X.w) X.A (f (.int i t) (.int j u)) Q E s):
  Cq X f (rI C λi j=>.int (g i j)):=by
 intro pins s σ H x y v u Q I rx ry h;obtain⟨i,j,rfl,rfl,hc,q⟩:=h;obtain⟨t,rfl⟩:=rx;obtain⟨t',rfl⟩:=ry;exact rule i j t t' s _ _ hc ⟨.int (g i j),H,I.tok _,⟨_,rfl⟩,q⟩
theorem Ztr{f:aj->aj->Sem aj}{g:Int->Int->Int}
  (rule:∀(i j:Int) (t u:Tok) (s:aq) (Q:aj->aq->Prop) (E:aj->aq->Prop),Q (.int (g i j) s.toks) {s with toks:=s.toks+1}->bd (bz X.prog X.w) X.A (f (.int i t) (.int j u)) Q E s):
  Cq X f (rI0 λi j=>.int (g i j)):=by
 intro pins s σ H x y v u Q I rx ry h;obtain⟨i,j,rfl,rfl,q⟩:=h;obtain⟨t,rfl⟩:=rx;obtain⟨t',rfl⟩:=ry;exact rule i j t t' s _ _ ⟨.int (g i j),H,I.tok _,⟨_,rfl⟩,q⟩
theorem Zp1{f:aj->aj->Sem aj}{g:Int->Int->Bool}
  (rule:∀(i j:Int) (t u:Tok) (s:aq) (Q:aj->aq->Prop) (E:aj->aq->Prop),Q (.bool (g i j)) s->bd (bz X.prog X.w) X.A (f (.int i t) (.int j u)) Q E s):
  Cq X f (rI0 λi j=>.bl (g i j)):=by
 intro pins s σ H x y v u Q I rx ry h;obtain⟨i,j,rfl,rfl,q⟩:=h;obtain⟨t,rfl⟩:=rx;obtain⟨t',rfl⟩:=ry;exact rule i j t t' s _ _ ⟨.bl (g i j),H,I,rfl,q⟩
noncomputable def Zp2(i j:Int):Prop:=0<j/\j<1073741824
noncomputable def Zd9(i j:Int):Prop:=(-(2^64)<i/\i<2^64)\/(-(2^64)<j/\j<2^64)
theorem Zd9.ok{i j:Int}(h:Zd9 i j):IntMulOk i j:=by
 rcases h with⟨h1,h2⟩|⟨h1,h2⟩
 ·exact .of_left (intBits_le_64 h1 h2)
 ·exact .of_right (intBits_le_64 h1 h2)
theorem Zm1:Cq X (binaryOp .Add) (rI0 λi j=>.int (i+j)):=Ztr λ_ _ _ _ _ _ _ q=>add_int q
theorem Zm2:Cq X (binaryOp .Mult) (rI Zd9 λi j=>.int (i*j)):=opI λ_ _ _ _ _ _ _ hc q=>mul_int q hc.ok
theorem Zil:Cq X (binaryOp .FloorDiv) (rI Zp2 λi j=>.int (i / j)):=opI λi j _ _ _ _ _ hc q=>by have h1:(0:Int)<j:=hc.1;have h2:j<1073741824:=hc.2;exact floordiv_int (by omega) (by rw[Int.fdiv_eq_ediv_of_nonneg i (by omega)];exact q) (.inl (PyProof.noPylong_small (by omega)))
theorem Zm3:Cq X (binaryOp .Mod) (rI (λ_ j=>0<j) λi j=>.int (i % j)):=opI λi j _ _ _ _ _ hc q=>by have h1:(0:Int)<j:=hc;exact mod_int' (by omega) (by rw[Int.fmod_eq_emod_of_nonneg i (by omega)];exact q)
end
noncomputable def scal:V->V->Bool
 | .non,.non=>aC| .non,.int _=>aC| .int _,.non=>aC| .non,.bl _=>aC| .bl _,.non=>aC| .non,.str _=>aC| .str _,.non=>aC
 | .int _,.int _=>aC| .bl _,.bl _=>aC| .str _,.str _=>aC| .byt _,.byt _=>aC
 | .int _,.str _=>aC| .str _,.int _=>aC| .bl _,.str _=>aC| .str _,.bl _=>aC
 |_,_=>aD
noncomputable def rEq:R2:=λx y H Q=>scal x y=aC/\Q (.bl (decide (x=y))) H
noncomputable def rNe:R2:=λx y H Q=>scal x y=aC/\Q (.bl (!decide (x=y))) H
theorem D4{i j:Int}:decide (V.int i=V.int j)=(i==j):=by rw[Bool.eq_iff_iff];simp
theorem Zea{i j:Bool}:decide (V.bl i=V.bl j)=(i==j):=by rw[Bool.eq_iff_iff];simp
theorem D5{i j:Str}:decide (V.str i=V.str j)=(i==j):=by rw[Bool.eq_iff_iff];simp
theorem D6{i j:Array UInt8}:decide (V.byt i=V.byt j)=(i.toList==j.toList):=by rw[Bool.eq_iff_iff];cases i;cases j;simp
section
variable{X:Cx}{a b c:c5}{ta tb tc:TE}{pos:Pos}
theorem Yj{pins:List (au×Obj)}{σ:St}{H:Hp}{s:aq}{Q:VK}{k k':Bool}(I:Inv X pins σ H s)(q:Q (.bl k) H)(e:k=k'):EP X pins σ Q (.bool k') s:=by subst e;exact⟨.bl k,H,I,rfl,q⟩
theorem Zlb:Cq X (g6 .Eq) rEq:=by
 intro pins s σ H x y v u Q I rx ry h;obtain⟨hs,q⟩:=h;cases x with
 |non=>
  cases rx;cases y with
  |non=>cases ry;exact PySem.EqNone.eq_none_none (Yj I q (by simp))
  |bl j=>cases ry;exact PySem.EqNone.eq_none_bool (Yj I q (by simp))
  |int j=>obtain⟨t',rfl⟩:=ry;exact PySem.EqNone.eq_none_int (Yj I q (by simp))
  |str j=>obtain⟨t',rfl⟩:=ry;exact PySem.EqNone.eq_none_str (Yj I q (by simp))
  |_=>exact absurd (show aD=aC from hs) bj
 |bl i=>
  cases rx;cases y with
  |non=>cases ry;exact PySem.EqNone.eq_bool_none (Yj I q (by simp))
  |bl j=>cases ry;exact eq_bool (Yj I q Zea)
  |str j=>obtain⟨t',rfl⟩:=ry;exact PySem.EqMixed.eq_bool_str (Yj I q (by simp))
  |_=>exact absurd (show aD=aC from hs) bj
 |int i=>
  obtain⟨t,rfl⟩:=rx;cases y with
  |non=>cases ry;exact PySem.EqNone.eq_int_none (Yj I q (by simp))
  |int j=>obtain⟨t',rfl⟩:=ry;exact eq_int (Yj I q D4)
  |str j=>obtain⟨t',rfl⟩:=ry;exact PySem.EqMixed.eq_int_str (Yj I q (by simp))
  |_=>exact absurd (show aD=aC from hs) bj
 |str i=>
  obtain⟨t,rfl⟩:=rx;cases y with
  |non=>cases ry;exact PySem.EqNone.eq_str_none (Yj I q (by simp))
  |bl j=>cases ry;exact PySem.EqMixed.eq_str_bool (Yj I q (by simp))
  |int j=>obtain⟨t',rfl⟩:=ry;exact PySem.EqMixed.eq_str_int (Yj I q (by simp))
  |str j=>obtain⟨t',rfl⟩:=ry;exact eq_str (Yj I q D5)
  |_=>exact absurd (show aD=aC from hs) bj
 |byt i=>
  obtain⟨t,rfl⟩:=rx;cases y with
  |byt j=>obtain⟨t',rfl⟩:=ry;exact PySem.W.eq_bytes (Yj I q D6)
  |_=>exact absurd (show aD=aC from hs) bj
 |_=>cases y<;> exact absurd (show aD=aC from hs) bj
theorem Zp3:Cq X (g6 .NotEq) rNe:=by
 intro pins s σ H x y v u Q I rx ry h;obtain⟨hs,q⟩:=h;cases x with
 |non=>
  cases rx;cases y with
  |non=>cases ry;exact PySem.EqNone.ne_none_none (Yj I q (by simp))
  |bl j=>cases ry;exact PySem.EqNone.ne_none_bool (Yj I q (by simp))
  |int j=>obtain⟨t',rfl⟩:=ry;exact PySem.EqNone.ne_none_int (Yj I q (by simp))
  |str j=>obtain⟨t',rfl⟩:=ry;exact PySem.EqNone.ne_none_str (Yj I q (by simp))
  |_=>exact absurd (show aD=aC from hs) bj
 |bl i=>
  cases rx;cases y with
  |non=>cases ry;exact PySem.EqNone.ne_bool_none (Yj I q (by simp))
  |bl j=>cases ry;exact ne_bool (Yj I q (congrArg not Zea))
  |str j=>obtain⟨t',rfl⟩:=ry;exact PySem.EqMixed.ne_bool_str (Yj I q (by simp))
  |_=>exact absurd (show aD=aC from hs) bj
 |int i=>
  obtain⟨t,rfl⟩:=rx;cases y with
  |non=>cases ry;exact PySem.EqNone.ne_int_none (Yj I q (by simp))
  |int j=>obtain⟨t',rfl⟩:=ry;exact ne_int (Yj I q (congrArg not D4))
  |str j=>obtain⟨t',rfl⟩:=ry;exact PySem.EqMixed.ne_int_str (Yj I q (by simp))
  |_=>exact absurd (show aD=aC from hs) bj
 |str i=>
  obtain⟨t,rfl⟩:=rx;cases y with
  |non=>cases ry;exact PySem.EqNone.ne_str_none (Yj I q (by simp))
  |bl j=>cases ry;exact PySem.EqMixed.ne_str_bool (Yj I q (by simp))
  |int j=>obtain⟨t',rfl⟩:=ry;exact PySem.EqMixed.ne_str_int (Yj I q (by simp))
  |str j=>obtain⟨t',rfl⟩:=ry;exact ne_str (Yj I q (congrArg not D5))
  |_=>exact absurd (show aD=aC from hs) bj
 |byt i=>
  obtain⟨t,rfl⟩:=rx;cases y with
  |byt j=>obtain⟨t',rfl⟩:=ry;exact PySem.W.ne_bytes (Yj I q (congrArg not D6))
  |_=>exact absurd (show aD=aC from hs) bj
 |_=>cases y<;> exact absurd (show aD=aC from hs) bj
theorem Zp4:Cq X (g6 .Lt) (rI0 λi j=>.bl (decide (i<j))):=Zp1 λ_ _ _ _ _ _ _ q=>lt_int q
theorem Zp5:Cq X (g6 .Gt) (rI0 λi j=>.bl (decide (j<i))):=Zp1 λ_ _ _ _ _ _ _ q=>gt_int q
theorem Zb7:Cq X (g6 .In) (λx y H Q=>∃i j,x= .str i/\y= .str j/\Q (.bl (!(dw j i 0 j.length 1).isEmpty)) H):=by intro pins s σ H x y v u Q I rx ry h;obtain⟨i,j,rfl,rfl,q⟩:=h;obtain⟨t,rfl⟩:=rx;obtain⟨t',rfl⟩:=ry;exact in_str (Yj I q rfl)
theorem Cq.or{f:aj->aj->Sem aj}{r r':R2}(h:Cq X f r)(h':Cq X f r'):Cq X f (λx y H Q=>r x y H Q\/r' x y H Q):=by
 intro pins s σ H x y v u Q I rx ry q;rcases q with q|q
 ·exact h pins s σ H x y v u Q I rx ry q
 ·exact h' pins s σ H x y v u Q I rx ry q
theorem Ed(b:c5){op:CmpOp}(h:op≠.In:=by decide)(h2:op≠.NotIn:=by decide):behindInMarks op b=aD:=by
 have e1:(op==CmpOp.In)=aD:=by cases op<;> first|rfl|exact absurd rfl h
 have e2:(op==CmpOp.NotIn)=aD:=by cases op<;> first|rfl|exact absurd rfl h2
 cases b<;> simp[behindInMarks,e1,e2]
theorem Zim{op:CmpOp}{r:R2}(ho:Cq X (g6 op) r)(ha:PE X a ta)(hb:PE X b tb)(hm:behindInMarks op b=aD):PE X (.Compare a [op] [b] pos) (tOp r ta tb):=by intro pins s σ H Q I h;exact wpAny_Compare1 (Zm0 ha hb I h λv u s2 x y H2 I2 rx ry q=>ho pins s2 σ H2 x y v u Q I2 rx ry q) hm
noncomputable def Zlc(t:TE):TT:=λσ H Q=>t σ H λx H'=>∃k,x= .bl k/\Q k H'
theorem Zin{op:CmpOp}{r:R2}(ho:Cq X (g6 op) r)(ha:PE X a ta)(hb:PE X b tb)(hm:behindInMarks op b=aD):PT X (.Compare a [op] [b] pos) (Zlc (tOp r ta tb)):=by
 intro pins s σ H Q I h;refine wpAny_isTrue_Compare1 (Wv (ha pins s σ H _ I h) λv s1 ⟨x,H1,I1,r1,q1⟩=>Wv (hb pins s1 σ H1 _ I1 q1) λu s2 ⟨y,H2,I2,r2,q2⟩=>
  Wv (ho pins s2 σ H2 x y v u _ I2 r1 r2 q2) λc s3 ⟨z,H3,I3,r3,k,e,q3⟩=>?_) hm
 subst e;cases r3;exact wpAny_truthy_bool ⟨H3,I3,q3⟩
theorem Ee:(sizeLine:Nat)<2^63:=by rw[ff];decide
theorem Xr:Cq X (binaryOp .Add) (λx y H Q=>∃i j,x= .str i/\y= .str j/\i.length+j.length<=sizeLine/\Q (.str (i++j)) H):=by intro pins s σ H x y v u Q I rx ry h;obtain⟨i,j,rfl,rfl,hz,q⟩:=h;obtain⟨t,rfl⟩:=rx;obtain⟨t',rfl⟩:=ry;exact add_str (λt' tk=>⟨.str (i++j),H,I.tok _,⟨_,rfl⟩,q⟩) hz
theorem Ui{x:V}{us:List aj}(r:Z3 [x] us):∃u,us=[u]/\Zz x u:=by
 cases r with
 |cons r1 r2=>cases r2;exact⟨_,rfl,r1⟩
theorem Zld{x y:V}{us:List aj}(r:Z3 [x,y] us):∃u w',us=[u,w']/\Zz x u/\Zz y w':=by
 cases r with
 |cons r1 r2=>
  cases r2 with
  |cons r3 r4=>cases r4;exact⟨_,_,rfl,r1,r3⟩
theorem Zb8:Q4 X (.type "int") (λxs H Q=>(∃i,xs=[.int i]/\Q (.int i) H)\/∃k,xs=[.bl k]/\Q (.int (if k then 1 else 0)) H):=by
 intro pins s σ H xs us Q I r h;rcases h with⟨i,rfl,q⟩|⟨k,rfl,q⟩
 ·obtain⟨u,rfl,t,rfl⟩:=Ui r;exact call_int_int ⟨.int i,H,I,⟨_,rfl⟩,q⟩
 ·obtain⟨u,rfl,r1⟩:=Ui r;cases r1;exact call_int_bool ⟨.int (if k then 1 else 0),H,I.tok _,⟨_,rfl⟩,q⟩
theorem Np:Q4 X (.type "str") (λxs H Q=>∃i,xs=[.int i]/\i.natAbs.log2<1920/\Q (.str (toString i)) H):=by intro pins s σ H xs us Q I r h;obtain⟨i,rfl,hz,q⟩:=h;obtain⟨u,rfl,t,rfl⟩:=Ui r;exact PySem.P.str_of_int hz ⟨.str _,H,I.tok _,⟨_,rfl⟩,q⟩
end
noncomputable def Mz(f:Str)(v:V):List (Str×V)->List (Str×V)
  | []=>[(f,v)]
  | (g,x)::r=>if g=f then(g,v)::r else(g,x)::Mz f v r
theorem Ry.some_of{v:V}{o:Option aj}(r:Ry (aA v) o):∃u,o=aA u/\Zz v u:=by
 cases o with
 |none=>exact(show False from r).elim
 |some u=>exact⟨u,rfl,r⟩
structure Room(k:Nat)(A:di):Prop where
 hd:A.handled=aB
 dp:A.depth+3*k+5<recursionLimit
 un:A.units+16*k+200<fg
theorem Room.mono{j k:Nat}{A:di}(r:Room k A)(h:j<=k):Room j A:=⟨r.hd,by have:=r.dp;omega,by have:=r.un;omega⟩
theorem Room.deeper{k:Nat}{A:di}(r:Room (k+1) A)(env:Env):Room k (A.deeper env):=
 ⟨r.hd,by have:=r.dp;show A.depth+1+3*k+5<_;omega,by have:=r.un;show A.units+3+16*k+200<_;omega⟩
theorem Room.depth{k:Nat}{A:di}(r:Room k A):A.depth<recursionLimit:=by have:=r.dp;omega
theorem Room.units{k:Nat}{A:di}(r:Room k A):A.units+64<cLine:=by have:=r.un;omega
noncomputable def Xs:TA:=λ_ H Q=>Q [] H
noncomputable def Kj(ta:TE)(tr:TA):TA:=λσ H Q=>ta σ H λx H1=>tr σ H1 λxs H2=>Q (x::xs) H2
section
variable{X:Cx}{e:c5}{es:List c5}{te:TE}{t:TA}{pos:Pos}
theorem Bq:PA X [] Xs:=λ_ _ _ _ H Q I h=>Calls.spliced_nil ⟨[],H,I,.nil,h⟩
theorem Um(ha:PE X e te)(hr:PA X es t)(hs:ba (e::es) X.env=(aD,gw e X.env)::ba es X.env:=by rfl):PA X (e::es) (Kj te t):=by intro pos pins s σ H Q I h;rw[hs];show bd _ _ (spliced ((aD,gw e X.env)::gp pos (ba es X.env))) _ _ s;refine Calls.spliced_cons (Wv (ha pins s σ H _ I h) λu s1 zq9=>?_);obtain⟨x,H1,I1,r1,q1⟩:=zq9;exact Wv (hr pos pins s1 σ H1 _ I1 q1) λus s2 ⟨xs,H2,I2,r2,q2⟩=>⟨x::xs,H2,I2,.cons r1 r2,q2⟩
noncomputable def Zp6(t:TA):TE:=λσ H Q=>t σ H λxs H1=>xs.length<=sizeLine/\∀p,H1 p=aB->Q (.ref p) (Y0 H1 p (.tup xs))
noncomputable def Zm4(t:TA):TE:=λσ H Q=>t σ H λxs H1=>xs.length<=sizeLine/\∀p,H1 p=aB->Q (.ref p) (Y0 H1 p (.lst xs))
theorem Zm5{x1} (h:PA X es t):PE X (.Tuple es x1 pos) (Zp6 t):=by intro pins s σ H Q I hq;refine wpAny_Tuple_spliced (Wv (h pos pins s σ H _ I hq) λus s1 ⟨xs,H1,I1,r,z,q⟩=>⟨by rw[<-r.length];exact z,?_⟩);have hf:H1 s1.heap.objs.size=aB:=I1.hok.fresh (az _);refine⟨.ref s1.heap.objs.size,Y0 H1 s1.heap.objs.size (.tup xs),I1.laid (t':=s1.toks) (λb u e=>ar _ e) (az _) ?_,rfl,q _ hf⟩;exact⟨z,us,r,⟨_,a9 _ rfl,rfl,_,rfl⟩⟩
theorem Xt(h:PA X es t):PE X (.List es pos) (Zm4 t):=by intro pins s σ H Q I hq;refine wpAny_List_spliced (Wv (h pos pins s σ H _ I hq) λus s1 ⟨xs,H1,I1,r,z,q⟩=>⟨by rw[<-r.length];exact z,?_⟩);have hf:H1 s1.heap.objs.size=aB:=I1.hok.fresh (az _);refine⟨.ref s1.heap.objs.size,Y0 H1 s1.heap.objs.size (.lst xs),I1.laid (t':=s1.toks) (λb u e=>ar _ e) (az _) ?_,rfl,q _ hf⟩;exact⟨z,us,0,r,a9 _ rfl⟩
end
noncomputable abbrev Sp:=List V->Hp->VK->XK->Prop
noncomputable abbrev CXT:=List Env->Hp->aq->XK->aj->aq->Prop
structure Env0(P:bv)(w:c6)(K:ah)(mg:Str->Option aj)(base:f8)(A:di)(outer:List Env)(s:aq)(H:Hp):Prop where
 frames:A.frames=aA outer
 mod:Mod K mg base
 bs:∀b o,base.get? b=aA o->s.heap.get? b=aA o/\H b=aB
 bsz:base.objs.size<=s.heap.objs.size
 funs:s.heap.FunFrames base outer
 frf:∀b∈frs outer,H b=aB
 hok:Re P w H s.heap
 bare:AllBare s.gens
noncomputable def CE(outer:List Env)(P:bv)(w:c6)(H:Hp)(s:aq)(Q:VK)(u:aj)(s':aq):Prop:=
 ∃v H',s'.os=s.os/\AllBare s'.gens/\Un (frs outer) [] H H' s.heap s'.heap/\Re P w H' s'.heap/\Zz v u/\Q v H'
noncomputable def CR(CX:CXT)(outer:List Env)(P:bv)(w:c6)(H:Hp)(s:aq)(Q:VK)(E:XK)(r:Result)(s':aq):Prop:=
 match r with
 | .ok (.ret u)=>CE outer P w H s Q u s'
 | .ok _=>False
 | .error e=>CX outer H s E e s'
structure FnOk(P:bv)(w:c6)(K:ah)(mg:Str->Option aj)(base:f8)(CX:CXT)(k:Nat)(f:au)(fd:cr)(ps:List Str)(sp:Sp):Prop where
 len:∀vs H Q E,sp vs H Q E->vs.length=ps.length
 run:∀(A:di) (outer:List Env) (s:aq) (H:Hp) (args:Args) (us:List aj) (vs:List V) (Q:VK) (E:XK),Room k A->Env0 P w K mg base A outer s H->BindsTo s fd args (ps.zip us)->Z3 vs us->sp vs H Q E->
  codeAny (bz P w) A (.call (.ref f) args) (CR CX outer P w H s Q E) s
section
variable{X:Cx}{pins:List (au×Obj)}{σ:St}{H:Hp}{s s':aq}
theorem Inv.env0(I:Inv X pins σ H s):Env0 X.prog X.w X.K X.mg X.base X.A X.stack s H:=
 ⟨I.ok.frames,I.ok.mod,I.bs,dk I.ok.bsz I.sz,I.stack,I.stkFree,I.hok,I.bare⟩
theorem Inv.after{Q:VK}{u:aj}(I:Inv X pins σ H s)(h:CE X.stack X.prog X.w H s Q u s'):EP X pins σ Q u s':=by obtain⟨v,H',os,bare,un,hok,r,q⟩:=h;obtain⟨hh,g,d,t,os'⟩:=s';obtain rfl:os'=s.os:=os;exact⟨v,H',I.call (h':=hh) (g':=g) (d':=d) (t':=t) (ch:=[]) un hok bare (λb z=>absurd z (by simp)),r,q⟩
end
noncomputable def Zle(sp:Sp)(dvs:List V)(E:XK)(t:TA):TE:=λσ H Q=>t σ H λvs H1=>sp (vs++dvs) H1 Q E
noncomputable def Wp(K:ah)(fd:cr)(ps:List Str)(ds:List aj):Prop:=
 ∀(s:aq) (us:List aj),K.In s.heap->(us++ds).length=ps.length->BindsTo s fd ⟨us,[]⟩ (ps.zip (us++ds))
theorem Wp.all{K:ah}{fd:cr}{ps:List Str}(h:∀us:List aj,us.length=ps.length->bindArgs fd ⟨us,[]⟩=pure (ps.zip us)):Wp K fd ps []:=λs us _ hl=>by rw[List.append_nil]at hl⊢;exact .of_eq (h us hl)
noncomputable def Xu(CX:CXT)(X:Cx)(E:XK):Prop:=∀(pins:List (au×Obj)) (σ:St) (H:Hp) (s:aq) (e:aj) (s':aq),Inv X pins σ H s->CX X.stack H s E e s'->X.xe e s'
section
variable{X:Cx}{CX:CXT}{k:Nat}{f C:au}{fd:cr}{ps:List Str}{sp:Sp}{dvs:List V}{ds:List aj}{E:XK}{x m:Str}{p pos apos:Pos}{e o:c5}{es:List c5}{ta:TE}{t:TA}
theorem Zm6{pins:List (au×Obj)}{σ:St}{H:Hp}{s:aq}{Q:VK}{us:List aj}{vs:List V}(F:FnOk X.prog X.w X.K X.mg X.base CX k f fd ps sp)(hr:Room k X.A)(hb:Wp X.K fd ps ds)(hd:Z3 dvs ds)(hx:Xu CX X E)
  (I:Inv X pins σ H s) (r:Z3 vs us) (h:sp (vs++dvs) H Q E):bd (bz X.prog X.w) X.A (call (.ref f) us) (EP X pins σ Q) X.xe s:=by
 have r2:Z3 (vs++dvs) (us++ds):=r.append hd;have hl:(us++ds).length=ps.length:=by rw[<-r2.length];exact F.len _ _ _ _ h
 refine wpAny_call (codeAny_mono (F.run X.A X.stack s H ⟨us,[]⟩ (us++ds) (vs++dvs) Q E hr I.env0 (hb s us I.kIn hl) r2 h) λr s' hq=>?_);cases r with
 |error e=>exact hx pins σ H s e s' I hq
 |ok fl=>
  cases fl with
  |ret u=>exact I.after hq
  |next=>exact False.elim hq
  |brk=>exact False.elim hq
  |cont=>exact False.elim hq
theorem Zio(F:FnOk X.prog X.w X.K X.mg X.base CX k f fd ps sp)(hr:Room k X.A)(hg:Gl X x)(hm:X.mg x=aA (.ref f))(hk:bn X.K (.ref f)=aC)(hb:Wp X.K fd ps ds)(hd:Z3 dvs ds)(hx:Xu CX X E)
  (ha:PA X (e::es) t) (hdb:(x==("__debug__":Str))=aD:=by decide) (he:ba (e::es) X.env=(aD,gw e X.env)::ba es X.env:=by rfl) (hpl:(gp pos (ba es X.env)).any (·.1)=aD:=by rfl):
  PE X (.Call (.Name x p) (e::es) [] pos) (Zle sp dvs E t):=by
 intro pins s σ H Q I h;refine wpAny_Call_Name_kw (Zic I hg hm ?_ hdb);refine PySem.W.callWith_K (h₀:=X.base) I.ok.mod.kin hk (Wv (ha pos pins s σ H _ I h) λus s1 ⟨vs,H1,I1,r,q⟩=>⟨I1.kIn,?_⟩) he hpl;exact Zm6 F hr hb hd hx I1 r q
end
structure FnScope(N P:List Str)(sc:Scope):Prop where
 kind:sc.kind= .function
 co:sc.isCoroutine=aD
 gen:sc.isGenerator=aD
 nd:N.Nodup
 pre:N.take P.length=P
 par:∀x∈P,sc.names.lookup x=aA .local\/sc.names.lookup x=aA .cell
 nofree:∀y∈sc.names,y.2≠.free
theorem Kk{kindOf:Str->Option NameKind}{x:Str}:∀{binds:List (Str×aj)} {m:Str->Option aj},(∀v,(x,v)∉binds)->bindL kindOf binds m x=m x
  | [],_,_=>rfl
  | (n,v)::r,m,h=>by
    unfold bindL;rw[Kk λw hw=>h w (am _ hw)];split
    · have:x≠n:=by rintro rfl;exact h v ad
      simp[this]
    · rfl
theorem Kl{kindOf:Str->Option NameKind}{x:Str}:∀{binds:List (Str×aj)} {m:Str->Option aj},(∀v,(x,v)∉binds)->bindC kindOf binds m x=m x
  | [],_,_=>rfl
  | (n,v)::r,m,h=>by
    unfold bindC;rw[Kl λw hw=>h w (am _ hw)];split
    · rfl
    · have:x≠n:=by rintro rfl;exact h v ad
      simp[this]
theorem Km{kindOf:Str->Option NameKind}{x:Str}{v:aj}:∀{P:List Str} {vs:List aj} {i:Nat} {m:Str->Option aj},P.Nodup->P[i]? =aA x->vs[i]? =aA v->kindOf x=aA .local->
  bindL kindOf (P.zip vs) m x=aA v
 | [],_,_,_,_,h,_,_=>by simp at h
 |_::_,[],_,_,_,_,h,_=>by simp at h
 |p::P,w::vs,0,m,nd,h1,h2,hk=>by simp at h1 h2;subst h1;subst h2;show bindL kindOf ((p,w)::P.zip vs) m p=_;unfold bindL;rw[Kk λv hv=>(d3.mp nd).1 (List.of_mem_zip hv).1,if_pos hk];simp
 |p::P,w::vs,i+1,m,nd,h1,h2,hk=>by show bindL kindOf ((p,w)::P.zip vs) m x=_;unfold bindL;exact Km (i:=i) (d3.mp nd).2 (by simpa using h1) (by simpa using h2) hk
theorem Kn{kindOf:Str->Option NameKind}{x:Str}{v:aj}:∀{P:List Str} {vs:List aj} {i:Nat} {m:Str->Option aj},P.Nodup->P[i]? =aA x->vs[i]? =aA v->kindOf x≠aA .local->
  bindC kindOf (P.zip vs) m x=aA v
 | [],_,_,_,_,h,_,_=>by simp at h
 |_::_,[],_,_,_,_,h,_=>by simp at h
 |p::P,w::vs,0,m,nd,h1,h2,hk=>by simp at h1 h2;subst h1;subst h2;show bindC kindOf ((p,w)::P.zip vs) m p=_;unfold bindC;rw[Kl λv hv=>(d3.mp nd).1 (List.of_mem_zip hv).1,if_neg hk];simp
 |p::P,w::vs,i+1,m,nd,h1,h2,hk=>by show bindC kindOf ((p,w)::P.zip vs) m x=_;unfold bindC;exact Kn (i:=i) (d3.mp nd).2 (by simpa using h1) (by simpa using h2) hk
noncomputable def Cl(N:List Str)(vs:List V):St:=vs.map aA++List.replicate (N.length- vs.length) aB
noncomputable def Xv(CX:CXT)(P:bv)(w:c6)(K:ah)(mg:Str->Option aj)(base:f8)(N:List Str)(qual:Str)(scope:Scope)(f:au)(cd:aj)(A:di)(outer:List Env)(s:aq)(H:Hp)(E:XK):Cx where
 prog:=P
 w:=w
 K:=K
 mg:=mg
 base:=base
 A:=A.deeper (envOfC qual scope s.heap.objs.size f cd)
 N:=N
 s₀:=s
 H₀:=H
 env:=envOfC qual scope s.heap.objs.size f cd
 outer:=outer
 stack:=envOfC qual scope s.heap.objs.size f cd::outer
 ex:=[]
 calm:=aC
 fn:=λ_=>aC
 pn:=[]
 xe:=λe s'=>bd (bz P w) (A.deeper (envOfC qual scope s.heap.objs.size f cd)) (leaving (envOfC qual scope s.heap.objs.size f cd) e) (λ_ s''=>CX outer H s E e s'') (λe' s''=>CX outer H s E e' s'') s'
theorem Sr{sc:Scope}{n:Nat}{x:Str}(h:sc.names.lookup x=aA .cell):∃c,(cellsFrom n sc.names []).lookup x=aA c:=by have q:=PySem.W.cellsFrom_some sc.names n [] (.inl h);exact Option.isSome_iff_exists.mp q
theorem Zb9{CX:CXT}{P:bv}{w:c6}{K:ah}{mg:Str->Option aj}{base:f8}{N ps:List Str}{qual:Str}{scope:Scope}{f:au}{cd:aj}{A:di}{outer:List Env}{s s1:aq}{H:Hp}{E:XK}{us:List aj}{vs:List V}
  (S:FnScope N ps scope) (hd:A.handled=aB) (e0:Env0 P w K mg base A outer s H) (hl:vs.length=ps.length) (r:Z3 vs us)
  (x:InCallC s s.heap.objs.size (bindL (envOfC qual scope s.heap.objs.size f cd).kindOf (ps.zip us) λ_=>aB) (cellsFrom (s.heap.objs.size+1) scope.names []) (bindC (envOfC qual scope s.heap.objs.size f cd).kindOf (ps.zip us) λ_=>aB) s1):
  Inv (Xv CX P w K mg base N qual scope f cd A outer s H E) [] (Cl N vs) H s1:=by
 have hpl:ps.length<=N.length:=by have:=congrArg List.length S.pre;rw[List.length_take]at this;omega
 obtain⟨h1,tk,rfl,hk⟩:=x.done;have noA:∀b:au,b∉(Xv CX P w K mg base N qual scope f cd A outer s H E).ex:=λb z=>absurd (show b∈([]:List au)from z) (by simp);refine⟨⟨e0.mod,S.kind,rfl,rfl,az _,λy z c h1 h2=>?_,λy hy=>?_,λy c _ h=>?_,λ_=>hd,Around.frames_deeper e0.frames,.inr ⟨rfl,rfl⟩,λb z=>absurd z (noA b),e0.bs,e0.bsz,λb _ _=>noA b,λb z=>absurd z (noA b),e0.funs,e0.frf⟩,
  rfl,e0.bare,Un.kept hk,⟨_,x.toInCall.ns,λi y v h1 h2 h3=>?_⟩,λy c h=>⟨_,x.cell y c h⟩,e0.hok.fresh (az _),λy c h=>?_,λp hp=>absurd (show p∈([]:List (au×Obj))from hp) (by simp),e0.hok.kept hk,?_⟩
 ·exact name_of_addr x.apart (PySem.mem_of_lookup h1) (PySem.mem_of_lookup h2)
 ·have hy:scope.names.lookup y=aA .cell\/scope.names.lookup y=aA .free:=hy;rcases hy with hy|hy
  ·exact Sr hy
  ·exact absurd rfl (S.nofree _ (PySem.mem_of_lookup hy))
 ·exact Nat.le_of_lt (x.above y c (PySem.mem_of_lookup h))
 ·have hi:i<vs.length:=by
   unfold Cl at h2;by_cases hi:i<vs.length
   ·exact hi
   ·rw[gc (by simpa using hi)]at h2;rw[List.getElem?_replicate]at h2;split at h2<;> cases h2
  have ha:vs[i]? =aA v:=by
   unfold Cl at h2;rw[dh (by simpa using hi),a8]at h2;cases e:vs[i]? with
   |none=>rw[e]at h2;cases h2
   |some a=>rw[e]at h2;cases h2;rfl
  obtain⟨u,hu,rv⟩:=r.get ha;have hp:ps[i]? =aA y:=by rw[<-S.pre,List.getElem?_take_of_lt (by omega)];exact h1
  have ndP:ps.Nodup:=by rw[<-S.pre];exact S.nd.sublist (List.take_sublist _ _)
  refine⟨u,rv,?_⟩;rcases S.par y (b6 hp)with k|k
  ·exact .inl ⟨k,Km ndP hp hu k⟩
  ·obtain⟨c,e⟩:=Sr (n:=s.heap.objs.size+1) k;refine .inr ⟨.inl k,c,e,?_⟩;have q:=x.cell y c e;rw[Kn ndP hp hu (by show scope.names.lookup y≠_;rw[k];decide)]at q;exact q
 ·exact e0.hok.fresh (Nat.le_of_lt (x.above y c (PySem.mem_of_lookup h)))
 ·unfold Cl;show _=N.length;rw[ay,ag,List.length_replicate];omega
theorem Zp7{CX:CXT}{P:bv}{w:c6}{K:ah}{mg:Str->Option aj}{base:f8}{k:Nat}{f:au}{name qual:Str}{params:Arguments}{body:List Stmt}{scope:Scope}{dV kV doc pm cdv ct oc:aj}{an od:Option au}
  {osl:Array (Option aj)} {N ps:List Str} {sp:Sp} (lk:K.lookup f=aA ⟨oc,od,.func (PySem.W.fnOf name qual params body scope dV kV doc pm an cdv ct),osl⟩) (hcd:PySem.W.codeIn K cdv qual=aC) (S:FnScope N ps scope)
  (len:∀vs H Q E,sp vs H Q E->vs.length=ps.length)
  (hbody:∀(A:di) (outer:List Env) (s:aq) (H:Hp) (vs:List V) (Q:VK) (E:XK),Room k (A.deeper (envOfC qual scope s.heap.objs.size f cdv))->sp vs H Q E->
   ∃t,Tt (Xv CX P w K mg base N qual scope f cdv A outer s H E) body t/\t {nx:=λ_ H'=>Q .non H',rt:=Q} (Cl N vs) H):
  FnOk P w K mg base CX (k+1) f (PySem.W.fnOf name qual params body scope dV kV doc pm an cdv ct) ps sp:=by
 refine⟨len,λA outer s H args us vs Q E hr e0 hb r hsp=>?_⟩;have hl:=len _ _ _ _ hsp;have KX:K.In s.heap:=e0.mod.kin.keeps λb o e=>(e0.bs b o e).1;have lim:s.heap.NoLimit:=e0.mod.nolimit.keeps λb o e=>(e0.bs b o e).1;have hkind:∀y∈ps.zip us,scope.names.lookup y.1=aA .local\/(scope.names.lookup y.1=aA .cell/\((cellsFrom (s.heap.objs.size+1) scope.names []).lookup y.1).isSome=aC):=λ⟨n,v⟩ hy=>by
  rcases S.par n (List.of_mem_zip hy).1 with q|q
  ·exact .inl q
  ·exact .inr ⟨q,PySem.W.cellsFrom_some _ _ _ (.inl q)⟩
 refine codeAny_call_function hr.depth (KX _ _ lk) rfl S.co S.gen rfl (PySem.W.codeRec_of KX hcd) (hb _ _ _ _ ?_);refine wpAny_newFunctionEnv_cells S.kind hkind λenv he s1 x=>?_;subst he;refine⟨lim.keeps x.toInCall.keep,codeAny_func ?_⟩;obtain⟨t,ht,hq⟩:=hbody A outer s H vs Q E (hr.deeper _) hsp;have I:Inv (Xv CX P w K mg base N qual scope f cdv A outer s H E) [] (Cl N vs) H s1:=Zb9 S hr.hd e0 hl r x;refine wpAny_mono (ht [] s1 (Cl N vs) H _ I hq) (λfl s' hs=>?_) λe s' hs=>hs;have fin:∀{σ':St} {H':Hp} {v:V} {u:aj},Inv (Xv CX P w K mg base N qual scope f cdv A outer s H E) [] σ' H' s'->Zz v u->Q v H'->CE outer P w H s Q u s':=
  fun{σ' H' v u} J rv q=>⟨v,H',J.os,J.bare,J.base,J.hok,rv,q⟩
 cases fl with
 |ret u=>obtain⟨v,σ',H',J,rv,q⟩:=hs;exact fin J rv q
 |next=>obtain⟨σ',H',J,q⟩:=hs;exact fin (v:=V.non) (u:=ci) J rfl q
 |brk=>obtain⟨_,_,_,q⟩:=hs;exact False.elim q
 |cont=>obtain⟨_,_,_,q⟩:=hs;exact False.elim q
section
variable{X:Cx}{x:Str}{p pos:Pos}{e:c5}{es:List c5}{t:TA}{id T:String}{r:List V->Hp->VK->Prop}
noncomputable def tCB(r:List V->Hp->VK->Prop)(t:TA):TE:=λσ H Q=>t σ H λvs H1=>r vs H1 Q
theorem Ss(hc:Q4 X (.builtin id) r)(hg:Gl X x)(hm:X.mg x=aB)(hv:bootBuiltins x=aA (.builtin id))(ha:PA X (e::es) t)(hn:x≠"__name__":=by decide)(hdb:(x==("__debug__":Str))=aD:=by decide)
  (he:ba (e::es) X.env=(aD,gw e X.env)::ba es X.env:=by rfl) (hpl:(gp pos (ba es X.env)).any (·.1)=aD:=by rfl):PE X (.Call (.Name x p) (e::es) [] pos) (tCB r t):=by
 intro pins s σ H Q I h;refine wpAny_Call_Name_kw (Bo I hg hm hv ?_ hn hdb);exact PyProof.Rows.callWith_builtin1 (Wv (ha pos pins s σ H _ I h) λus s1 ⟨vs,H1,I1,r1,q1⟩=>hc pins s1 σ H1 vs us Q I1 r1 q1) he hpl
theorem Zca(hc:Q4 X (.type T) r)(hg:Gl X x)(hm:X.mg x=aB)(hv:bootBuiltins x=aA (.type T))(ha:PA X (e::es) t)(hn:x≠"__name__":=by decide)(hdb:(x==("__debug__":Str))=aD:=by decide)
  (he:ba (e::es) X.env=(aD,gw e X.env)::ba es X.env:=by rfl) (hpl:(gp pos (ba es X.env)).any (·.1)=aD:=by rfl):PE X (.Call (.Name x p) (e::es) [] pos) (tCB r t):=by
 intro pins s σ H Q I h;refine wpAny_Call_Name_kw (Bo I hg hm hv ?_ hn hdb);exact PyProof.Rows.callWith_type1 (Wv (ha pos pins s σ H _ I h) λus s1 ⟨vs,H1,I1,r1,q1⟩=>hc pins s1 σ H1 vs us Q I1 r1 q1) he hpl
end
end L2
namespace HT
open PySem PyProof.Rows
noncomputable def Ko:List Int->List Int->Bool
 | [],[]=>aD
 | [],_::_=>aC
 |_::_,[]=>aD
 |x::xs,y::ys=>if x=y then Ko xs ys else decide (x<y)
theorem Zm7(x y:Int)(xs ys:List Int):Ko (x::xs) (y::ys)=if x=y then Ko xs ys else decide (x<y):=rfl
theorem Zh7:Ko [] []=aD:=rfl
theorem Zeb(y:Int)(ys:List Int):Ko [] (y::ys)=aC:=rfl
theorem Zec(x:Int)(xs:List Int):Ko (x::xs) []=aD:=rfl
section
variable{prog:bv}{w:c6}{A:di}{E:aj->aq->Prop}{s:aq}
noncomputable def sIx(n d:Nat):Option Int->Nat
 |none=>d
 |some v=>if v<0 then(v+(n:Int)).toNat else min v.toNat n
theorem Zp8(n d:Nat):sIx n d aB=d:=rfl
theorem sIx_nat(n d k:Nat):sIx n d (aA (k:Int))=min k n:=by show(if(k:Int)<0 then((k:Int)+(n:Int)).toNat else min (k:Int).toNat n)=min k n;rw[if_neg (by omega),gy]
end
end HT
namespace L2
open PySem PySem.Spec PyProof.Rows
noncomputable abbrev TO:=St->Hp->(Option Int->Hp->Prop)->Prop
noncomputable def PO(X:Cx)(e:Option c5)(t:TO):Prop:=
 ∀(pins:List (au×Obj)) (s:aq) (σ:St) (H:Hp) (Q:Option Int->Hp->Prop),Inv X pins σ H s->t σ H Q->
  bd (bz X.prog X.w) X.A (evalPart e X.env) (λu s'=>∃o H',Inv X pins σ H' s'/\IsPart u o/\Q o H') X.xe s
noncomputable def Zlf(t:TE):TO:=λσ H Q=>t σ H λx H1=>∃i,x= .int i/\Q (aA i) H1
section
variable{X:Cx}{e:c5}{te:TE}{lo hi:Option c5}{tl th:TO}{pos p2:Pos}
theorem Zip(h:PE X e te):PO X (aA e) (Zlf te):=by intro pins s σ H Q I hw;rw[evalPart_some];refine Wv (h pins s σ H _ I hw) λu s1 zq9=>?_;obtain⟨x,H1,I1,r1,q1⟩:=zq9;obtain⟨i,rfl,q⟩:=q1;obtain⟨t,rfl⟩:=r1;exact⟨aA i,H1,I1,.int i t,q⟩
noncomputable def SlR(X:Cx)(r:V->Option Int->Option Int->Hp->VK->Prop):Prop:=
 ∀(pins:List (au×Obj)) (s:aq) (σ:St) (H:Hp) (x:V) (v vl vu:aj) (lo hi:Option Int) (sl:au) (Q:VK),Inv X pins σ H s->Zz x v->s.heap.IsSliceOf sl vl vu .none->IsPart vl lo->IsPart vu hi->r x lo hi H Q->
  ∃T id,typeLookup (.type T) "__getitem__"=pure (aA (.builtin id))/\s.TypeIs v T/\bd (bz X.prog X.w) X.A (getItem v (.ref sl)) (EP X pins σ Q) X.xe s
theorem SlR.or{r r':V->Option Int->Option Int->Hp->VK->Prop}(h:SlR X r)(h':SlR X r'):SlR X (λx lo hi H Q=>r x lo hi H Q\/r' x lo hi H Q):=by
 intro pins s σ H x v vl vu lo hi sl Q I rx hs pl pu q;rcases q with q|q
 ·exact h pins s σ H x v vl vu lo hi sl Q I rx hs pl pu q
 ·exact h' pins s σ H x v vl vu lo hi sl Q I rx hs pl pu q
noncomputable def tSl(r:V->Option Int->Option Int->Hp->VK->Prop)(te:TE)(tl th:TO):TE:=λσ H Q=>te σ H λx H1=>tl σ H1 λl H2=>th σ H2 λu H3=>r x l u H3 Q
theorem Zed{r:V->Option Int->Option Int->Hp->VK->Prop}(hr:SlR X r)(he:PE X e te)(hl:PO X lo tl)(hu:PO X hi th):PE X (.Subscript e (.Slice lo hi aB p2) pos) (tSl r te tl th):=by intro pins s σ H Q I h;refine Subscript_ (Wv (he pins s σ H _ I h) λv s1 zq9=>?_);obtain⟨x,H1,I1,r1,q1⟩:=zq9;refine wpAny_Slice (Wv (hl pins s1 σ H1 _ I1 q1) λvl s2 ⟨l,H2,I2,pl,q2⟩=>Wv (hu pins s2 σ H2 _ I2 q2) λvu s3 zq9=>?_);obtain⟨u,H3,I3,pu,q3⟩:=zq9;rw[evalPart_none];refine af ?_;have I4:Inv X pins σ H3 {s3 with heap:=s3.heap.push {cls:=.type "slice",data:=.fields #[vl,vu,.none]}}:=I3.kept (t':=s3.toks) λb ob q=>ar _ q;obtain⟨T,id,hT,ht,hg⟩:=hr pins {s3 with heap:=s3.heap.push {cls:=.type "slice",data:=.fields #[vl,vu,.none]}} σ H3 x v vl vu l u s3.heap.objs.size Q I4 r1 (Heap.IsSliceOf.new ..) pl pu q3;show bd (bz X.prog X.w) X.A (subscriptTail e (.Slice lo hi aB p2) v (.ref s3.heap.objs.size)) (EP X pins σ Q) X.xe {s3 with heap:=s3.heap.push {cls:=.type "slice",data:=.fields #[vl,vu,.none]}};exact tail_any (ops:=[.ref s3.heap.objs.size,v]) ht hT hg (by with_unfolding_all rfl)
noncomputable def Zcb(xs:List V)(lo hi:Option Int):List V:=(xs.drop (HT.sIx xs.length 0 lo)).take (HT.sIx xs.length xs.length hi- HT.sIx xs.length 0 lo)
theorem Su(xs:List V)(lo hi:Option Int):(Zcb xs lo hi).length<=xs.length:=by unfold Zcb;rw[List.length_take,List.length_drop];omega
end
noncomputable def ixN(n:Nat)(i:Int):Option Nat:=if 0<=i then(if i<n then aA i.toNat else aB)else if-(n:Int)<=i then aA (i+n).toNat else aB
noncomputable def atI{α:Type}(xs:List α)(i:Int):Option α:=(ixN xs.length i).bind λj=>xs[j]?
theorem Ziq{n:Nat}{i:Int}{j:Nat}(h:ixN n i=aA j):seqIndex? i n=aA j/\j<n/\-(n:Int)<=i/\i<n:=by
 unfold ixN at h;by_cases h0:0<=i
 ·rw[if_pos h0]at h;by_cases h1:i<n
  ·rw[if_pos h1]at h;have e:i.toNat=j:=df.inj h;exact⟨by rw[seqIndex_of h0 h1,e],by omega,by omega,h1⟩
  ·rw[if_neg h1]at h;cases h
 ·rw[if_neg h0]at h;by_cases h1:-(n:Int)<=i
  ·rw[if_pos h1]at h;have e:(i+n).toNat=j:=df.inj h;exact⟨by rw[seqIndex_neg (by omega) h1,e],by omega,h1,by omega⟩
  ·rw[if_neg h1]at h;cases h
theorem Nq{α:Type}{xs:List α}{i:Int}{v:α}(h:atI xs i=aA v):∃j,seqIndex? i xs.length=aA j/\xs[j]? =aA v/\j<xs.length/\-(xs.length:Int)<=i/\i<xs.length:=by
 unfold atI at h;cases e:ixN xs.length i with
 |none=>rw[e]at h;cases h
 |some j=>rw[e]at h;obtain⟨h1,h2,h3,h4⟩:=Ziq e;exact⟨j,h1,h,h2,h3,h4⟩
noncomputable def Nr(b:c5):Prop:=∀o i,subscripted b aD o i=operate [o,i] (getItem o i)
noncomputable def IxR(X:Cx)(r:R2):Prop:=
 ∀(value slice:c5) (pins:List (au×Obj)) (s:aq) (σ:St) (H:Hp) (x y:V) (v u:aj) (Q:VK),Inv X pins σ H s->Zz x v->Zz y u->r x y H Q->
  subscripted slice aD v u=operate [v,u] (getItem v u)->bd (bz X.prog X.w) X.A (subscriptTail value slice v u) (EP X pins σ Q) X.xe s
noncomputable def MtR(X:Cx)(id:String)(r:V->List V->Hp->VK->Prop):Prop:=
 ∀(pins:List (au×Obj)) (s:aq) (σ:St) (H:Hp) (x:V) (xs:List V) (v:aj) (us:List aj) (Q:VK),Inv X pins σ H s->Zz x v->Z3 xs us->r x xs H Q->
  bd (bz X.prog X.w) X.A (call (.builtin id) (v::us)) (EP X pins σ Q) X.xe s
section
variable{X:Cx}{a b:c5}{ta tb:TE}{pos:Pos}
theorem IxR.or{r r':R2}(h:IxR X r)(h':IxR X r'):IxR X (λx y H Q=>r x y H Q\/r' x y H Q):=by
 intro value slice pins s σ H x y v u Q I rx ry q hs;rcases q with q|q
 ·exact h value slice pins s σ H x y v u Q I rx ry q hs
 ·exact h' value slice pins s σ H x y v u Q I rx ry q hs
theorem Zlg{r:R2}(hr:IxR X r)(ha:PE X a ta)(hb:PE X b tb)(hs:Nr b):PE X (.Subscript a b pos) (tOp r ta tb):=by intro pins s σ H Q I h;exact Subscript_ (Zm0 ha hb I h λv u s2 x y H2 I2 rx ry q=>hr a b pins s2 σ H2 x y v u Q I2 rx ry q (hs _ _))
noncomputable def Zp9(K:ah):R2:=λx y H Q=>∃p xs i v,x= .ref p/\y= .int i/\U0 K H p xs/\atI xs i=aA v/\Q v H
noncomputable def Zqa(K:ah):R2:=λx y H Q=>∃p xs i v,x= .ref p/\y= .int i/\Mw K H p xs/\atI xs i=aA v/\Q v H
noncomputable def Zqb:R2:=λx y H Q=>∃z i c,x= .str z/\y= .int i/\z.length<=sizeLine/\atI z.cps.toList i=aA c/\Q (.str ⟨#[c]⟩) H
theorem Zis:IxR X (Zp9 X.K):=by
 intro value slice pins s σ H x y v u Q I rx ry h hs;obtain⟨p,xs,i,z,rfl,rfl,hq,he,q⟩:=h;cases rx;obtain⟨t,rfl⟩:=ry;obtain⟨its,r,pl,hz⟩:=I.list hq;obtain⟨j,h1,h2,h3,h4,h5⟩:=Nq he;obtain⟨w,ew,rw'⟩:=r.get h2;have hl:=r.length;have hn:=Ee;have fin:EP X pins σ Q w s:=⟨z,H,I,rw',q⟩
 by_cases h0:0<=i
 ·have hj:i.toNat=j:=by rw[seqIndex_of h0 h5]at h1;exact df.inj h1
  exact item_listR pl.isList h0 (by omega) (by rw[hj];simpa using ew) fin hs
 ·have hj:(i+(its.toArray.size:Int)).toNat=j:=by rw[seqIndex_neg (by omega) h4]at h1;rw[bp,<-hl];exact df.inj h1
  exact subscriptTail_builtinR (x:=w) pl.isList.typeIs slot_list_getitem.lookup
   (wpAny_getItem_list_neg (Q:=λr s'=>r=w/\EP X pins σ Q r s') pl.isList (by omega) (by rw[bp]<;> omega) (by omega) (by rw[hj];simpa using ew) ⟨rfl,fin⟩) hs
theorem Zna:IxR X (Zqa X.K):=by
 intro value slice pins s σ H x y v u Q I rx ry h hs;obtain⟨p,xs,i,z,rfl,rfl,hq,he,q⟩:=h;cases rx;obtain⟨t,rfl⟩:=ry;obtain⟨its,r,pl,hz⟩:=I.tuple hq;obtain⟨j,h1,h2,h3,h4,h5⟩:=Nq he;obtain⟨w,ew,rw'⟩:=r.get h2;have hl:=r.length;have hn:=Ee;have fin:EP X pins σ Q w s:=⟨z,H,I,rw',q⟩
 exact subscriptTail_builtinR (x:=w) pl.typeIs slot_tuple_getitem.lookup
  (getItem_tuple (j:=j) (Q:=λr s'=>r=w/\EP X pins σ Q r s') pl (by omega) (by omega) (by rw[bp,<-hl];exact h1) (by simpa using ew) ⟨rfl,fin⟩) hs
theorem Znb:IxR X Zqb:=by
 intro value slice pins s σ H x y v u Q I rx ry h hs;obtain⟨z,i,c,rfl,rfl,hz,he,q⟩:=h;obtain⟨t,rfl⟩:=rx;obtain⟨t',rfl⟩:=ry;obtain⟨j,h1,h2,h3,h4,h5⟩:=Nq he;have hl:z.cps.toList.length=z.length:=by simp[Str.length]
 rw[hl]at h1 h4 h5;have hn:=Ee;exact tail_any (typeIs_str s z t) slot_str_getitem.lookup (getItem_str (c:=c) (by
  have e1:decide (i< -(2^63:Int))=aD:=decide_eq_false (by omega);have e2:decide (i>=2^63)=aD:=decide_eq_false (by omega);rw[e1,e2,Bool.or_false]) (by rw[h1];simpa using h2) ⟨.str ⟨#[c]⟩,H,I.tok _,⟨_,rfl⟩,q⟩) hs
noncomputable def rIx(K:ah):R2:=λx y H Q=>Zp9 K x y H Q\/Zqa K x y H Q\/Zqb x y H Q
theorem Zee:IxR X (rIx X.K):=Zis.or (Zna.or Znb)
theorem Nt(lo hi:Option Int)(n:Nat):(sliceBounds lo hi aB n).1=((HT.sIx n 0 lo:Nat):Int)/\(sliceBounds lo hi aB n).2.1=((HT.sIx n n hi:Nat):Int)/\(sliceBounds lo hi aB n).2.2=1:=by
 refine⟨?_,?_,rfl⟩
 ·cases lo with
  |none=>simp[sliceBounds,HT.sIx]
  |some i=>
   simp only[sliceBounds,HT.sIx,Option.getD_none,show(1:Int) > 0 by decide,if_true];by_cases h:i<0
   ·simp only[h,if_true]<;> omega
   ·simp only[h,if_false]<;> omega
 ·cases hi with
  |none=>simp[sliceBounds,HT.sIx]
  |some i=>
   simp only[sliceBounds,HT.sIx,Option.getD_none,show(1:Int) > 0 by decide,if_true];by_cases h:i<0
   ·simp only[h,if_true]<;> omega
   ·simp only[h,if_false]<;> omega
theorem Fp(its:List aj)(lo hi:Option Int):slicePick its.toArray lo hi aB=((its.drop (HT.sIx its.length 0 lo)).take (HT.sIx its.length its.length hi- HT.sIx its.length 0 lo)).toArray:=by obtain⟨h1,h2,h3⟩:=Nt lo hi its.toArray.size;unfold slicePick;rw[h1,h2,h3];simp only[sliceRange_one,pick_run,bp]<;> rfl
noncomputable def Zqc(K:ah):V->Option Int->Option Int->Hp->VK->Prop:=λx lo hi H Q=>∃a xs,x= .ref a/\U0 K H a xs/\∀p,H p=aB->Q (.ref p) (Y0 H p (.lst (Zcb xs lo hi)))
theorem Zit:SlR X (Zqc X.K):=by intro pins s σ H x v vl vu lo hi sl Q I rx hs pl pu h;obtain⟨a,xs,rfl,hx,q⟩:=h;cases rx;obtain⟨its,r,ht,hz⟩:=I.list hx;have hlen:=r.length;refine⟨"list",_,slot_list_getitem.lookup,ht.isList.typeIs,?_⟩;refine wpAny_getItem_list_slice ht.isList hs pl pu .none (by simp) ?_ (by rw[bp]<;> omega);rw[Fp,<-hlen];refine⟨.ref s.heap.objs.size,_,I.laid (t':=s.toks) (o:=.lst (Zcb xs lo hi)) (λb ob q=>ar _ q) (az _) ?_,rfl,q _ (I.hok.fresh (az _))⟩;exact⟨dk (Su xs lo hi) hz,_,0,(r.drop (HT.sIx xs.length 0 lo)).take (HT.sIx xs.length xs.length hi- HT.sIx xs.length 0 lo),a9 _ rfl⟩
noncomputable def Wt:V->Bool
 | .non=>aC
 | .bl _=>aC
 | .int _=>aC
 | .str _=>aC
 |_=>aD
noncomputable def Xw:V->V->Bool
 | .non,.non=>aC
 | .bl a,.bl b=>a==b
 | .bl a,.int b=>(if a then 1 else 0)==b
 | .int a,.bl b=>a==(if b then 1 else 0)
 | .int a,.int b=>a==b
 | .str a,.str b=>a==b
 |_,_=>aD
theorem Zef{A:di}{s:aq}{y x:V}{u v:aj}(ry:Zz y u)(rx:Zz x v)(fy:Wt y=aC)(fx:Wt x=aC):SeqAt.EqAt A s u v (Xw y x):=by
 cases y with
 |non=>
  cases ry;cases x with
  |non=>cases rx;exact SeqAt.EqAt.same _
  |bl b=>cases rx;exact SeqAt.EqAt.none_bool b
  |int b=>obtain⟨t,rfl⟩:=rx;exact SeqAt.EqAt.none_int b t
  |str b=>obtain⟨t,rfl⟩:=rx;exact SeqAt.EqAt.none_str b t
  |_=>exact absurd (show aD=aC from fx) bj
 |bl a=>
  cases ry;cases x with
  |non=>cases rx;exact SeqAt.EqAt.bool_none a
  |bl b=>cases rx;exact SeqAt.EqAt.bool_bool a b
  |int b=>obtain⟨t,rfl⟩:=rx;exact SeqAt.EqAt.bool_int a b t
  |str b=>obtain⟨t,rfl⟩:=rx;exact SeqAt.EqAt.bool_str a b t
  |_=>exact absurd (show aD=aC from fx) bj
 |int a=>
  obtain⟨t',rfl⟩:=ry;cases x with
  |non=>cases rx;exact SeqAt.EqAt.int_none a t'
  |bl b=>cases rx;exact SeqAt.EqAt.int_bool a t' b
  |int b=>obtain⟨t,rfl⟩:=rx;exact SeqAt.EqAt.int_int a t' b t
  |str b=>obtain⟨t,rfl⟩:=rx;exact SeqAt.EqAt.int_str a t' b t
  |_=>exact absurd (show aD=aC from fx) bj
 |str a=>
  obtain⟨t',rfl⟩:=ry;cases x with
  |non=>cases rx;exact SeqAt.EqAt.str_none a t'
  |bl b=>cases rx;exact SeqAt.EqAt.str_bool a t' b
  |int b=>obtain⟨t,rfl⟩:=rx;exact SeqAt.EqAt.str_int a t' b t
  |str b=>obtain⟨t,rfl⟩:=rx;exact SeqAt.EqAt.str_str a t' b t
  |_=>exact absurd (show aD=aC from fx) bj
 |_=>exact absurd (show aD=aC from fy) bj
noncomputable def Xx(x:V)(u:aj):Bool:=match u with
 | .none=>Xw .non x
 | .bool b=>Xw (.bl b) x
 | .int i _=>Xw (.int i) x
 | .str z _=>Xw (.str z) x
 |_=>aD
theorem Zeg{x y:V}{u:aj}(r:Zz y u)(f:Wt y=aC):Xx x u=Xw y x:=by
 cases y with
 |non=>cases r;rfl
 |bl b=>cases r;rfl
 |int i=>obtain⟨t,rfl⟩:=r;rfl
 |str z=>obtain⟨t,rfl⟩:=r;rfl
 |_=>exact absurd (show aD=aC from f) bj
theorem Rz{x:V}:∀{xs:List V} {us:List aj},Z3 xs us->xs.all Wt=aC->us.any (Xx x)=xs.any λy=>Xw y x
 |_,_,.nil,_=>rfl
 |y::xs,u::us,.cons r t,f=>by rw[List.all_cons,Bool.and_eq_true]at f;rw[List.any_cons,List.any_cons,Zeg r f.1,Rz t f.2]
theorem Cr{A:di}{s:aq}{x:V}{v:aj}(rx:Zz x v)(fx:Wt x=aC):∀{xs:List V} {us:List aj},Z3 xs us->xs.all Wt=aC->∀u∈us,SeqAt.EqAt A s u v (Xx x u)
 |_,_,.nil,_=>λu hu=>by cases hu
 |y::xs,u::us,.cons r t,f=>λu' hu=>by
  rw[List.all_cons,Bool.and_eq_true]at f;rcases bo.mp hu with rfl|hu
  ·rw[Zeg r f.1];exact Zef r rx f.1 fx
  ·exact Cr rx fx t f.2 u' hu
noncomputable def inV(x:V)(xs:List V):Bool:=xs.any λy=>Xw y x
noncomputable def rIn(K:ah)(neg:Bool):R2:=λx y H Q=>∃p xs,y= .ref p/\(U0 K H p xs\/Mw K H p xs)/\Wt x=aC/\xs.all Wt=aC/\Q (.bl (if neg then !inV x xs else inV x xs)) H
theorem Zcc:Cq X (g6 .In) (rIn X.K aD):=by
 intro pins s σ H x y v u Q I rx ry h;obtain⟨p,xs,rfl,hq,fx,fs,q⟩:=h;cases ry;rcases hq with hq|hq
 ·obtain⟨its,r,pl,hz⟩:=I.list hq;refine SeqAt.in_listAt (Xx x) pl.isList (λw hw=>Cr rx fx r fs w (by simpa using hw)) ⟨.bl _,H,I,rfl,?_⟩;rw[show its.toArray.any (Xx x)=its.any (Xx x) by simp,Rz r fs];exact q
 ·obtain⟨its,r,pl,hz⟩:=I.tuple hq;refine SeqAt.in_tupleAt (Xx x) pl (λw hw=>Cr rx fx r fs w (by simpa using hw)) ⟨.bl _,H,I,rfl,?_⟩;rw[show its.toArray.any (Xx x)=its.any (Xx x) by simp,Rz r fs];exact q
theorem Nu:Cq X (g6 .NotIn) (rIn X.K aC):=by
 intro pins s σ H x y v u Q I rx ry h;obtain⟨p,xs,rfl,hq,fx,fs,q⟩:=h;cases ry;rcases hq with hq|hq
 ·obtain⟨its,r,pl,hz⟩:=I.list hq;refine SeqAt.notIn_listAt (Xx x) pl.isList (λw hw=>Cr rx fx r fs w (by simpa using hw)) ⟨.bl _,H,I,rfl,?_⟩;rw[show its.toArray.any (Xx x)=its.any (Xx x) by simp,Rz r fs];exact q
 ·obtain⟨its,r,pl,hz⟩:=I.tuple hq;refine SeqAt.notIn_tupleAt (Xx x) pl (λw hw=>Cr rx fx r fs w (by simpa using hw)) ⟨.bl _,H,I,rfl,?_⟩;rw[show its.toArray.any (Xx x)=its.any (Xx x) by simp,Rz r fs];exact q
theorem Nv:Cq X (g6 .NotIn) (λx y H Q=>∃i j,x= .str i/\y= .str j/\Q (.bl (!(!(dw j i 0 j.length 1).isEmpty))) H):=by intro pins s σ H x y v u Q I rx ry h;obtain⟨i,j,rfl,rfl,q⟩:=h;obtain⟨t,rfl⟩:=rx;obtain⟨t',rfl⟩:=ry;exact notIn_str ⟨.bl _,H,I,rfl,q⟩
theorem Nw:Q4 X (.builtin "len") (λxs H Q=>∃p ys,xs=[.ref p]/\(U0 X.K H p ys\/Mw X.K H p ys)/\Q (.int ys.length) H):=by
 intro pins s σ H xs us Q I r h;obtain⟨p,ys,rfl,hq,q⟩:=h;obtain⟨u,rfl,rx⟩:=Ui r;cases rx;have hn:=Ee;rcases hq with hq|hq
 ·obtain⟨its,r',pl,hz⟩:=I.list hq;have hlen:=r'.length;exact Calls.call_len_list pl.isList (by simp only[bp]<;> omega) ⟨.int ys.length,H,I.tok _,⟨s.toks+1,by rw[bp,hlen]⟩,q⟩
 ·obtain⟨its,r',pl,hz⟩:=I.tuple hq;have hlen:=r'.length;exact len_tuple pl (by simp only[bp]<;> omega) ⟨.int ys.length,H,I.tok _,⟨s.toks+1,by rw[bp,hlen]⟩,q⟩
theorem Nx:Q4 X (.builtin "len") (λxs H Q=>∃z,xs=[.str z]/\z.length<=sizeLine/\Q (.int z.length) H):=by intro pins s σ H xs us Q I r h;obtain⟨z,rfl,hz,q⟩:=h;obtain⟨u,rfl,t,rfl⟩:=Ui r;have hn:=Ee;exact len_str (by omega) ⟨.int z.length,H,I.tok _,⟨_,rfl⟩,q⟩
theorem Q4.or{f:aj}{r r':List V->Hp->VK->Prop}(h:Q4 X f r)(h':Q4 X f r'):Q4 X f (λxs H Q=>r xs H Q\/r' xs H Q):=by
 intro pins s σ H xs us Q I rs q;rcases q with q|q
 ·exact h pins s σ H xs us Q I rs q
 ·exact h' pins s σ H xs us Q I rs q
theorem Fq:Q4 X (.type "tuple") (λxs H Q=>∃p ys,xs=[.ref p]/\((U0 X.K H p ys/\∀l,H l=aB->Q (.ref l) (Y0 H l (.tup ys)))\/(Mw X.K H p ys/\Q (.ref p) H))):=by
 intro pins s σ H xs us Q I r h;obtain⟨p,ys,rfl,h⟩:=h;obtain⟨u,rfl,rx⟩:=Ui r;cases rx;rcases h with⟨hq,q⟩|⟨hq,q⟩
 ·obtain⟨its,r',pl,hz⟩:=I.list hq;have hlen:=r'.length;refine call_tuple_list pl.isList (λh' kp=>?_) (by simp only[bp]<;> omega);have I1:Inv X pins σ H {s with heap:=h'}:=I.kept (t':=s.toks) kp;have I2:Inv X pins σ (Y0 H h'.objs.size (.tup ys)) {s with heap:=h'.push {cls:=.type "tuple",data:=.seq its.toArray}}:=
   I1.laid (t':=s.toks) (λb o e=>ar _ e) (az _) (show Yb X.prog X.w _ _ _ (.tup ys)from⟨hz,its,r',IsTup.new _ _⟩)
  exact⟨.ref h'.objs.size,_,I2,rfl,q _ (I1.hok.fresh (az _))⟩
 ·obtain⟨its,r',pl,hz⟩:=I.tuple hq;exact call_tuple_same pl ⟨.ref p,H,I,rfl,q⟩
noncomputable def tyV(K:ah)(T:String)(x:V)(H:Hp):Prop:=match x with
 | .str _=>T="str"
 | .int _=>T="int"
 | .ref p=>(T="list"/\∃xs,U0 K H p xs)\/(T="tuple"/\∃o,K.lookup p=aA o/\o.cls= .type "tuple"/\o.dict=aB)\/
   (T="dict"/\((∃kvs,HK H p kvs)\/∃kvs,HTt H p kvs))\/(T="set"/\∃S n,H p=aA (.set S n))
 |_=>False
theorem Zeh{pins:List (au×Obj)}{σ:St}{H:Hp}{s:aq}{T:String}{x:V}{v:aj}(I:Inv X pins σ H s)(r:Zz x v)(ty:tyV X.K T x H):
  s.TypeIs v T/\∀a,v= .ref a->∃ob,s.heap.get? a=aA ob/\ob.dict=aB:=by
 cases x with
 |str z=>obtain⟨t,rfl⟩:=r;cases(show T="str"from ty);exact⟨typeIs_str s z t,λ_ e=>nomatch e⟩
 |int i=>obtain⟨t,rfl⟩:=r;cases(show T="int"from ty);exact⟨typeIs_int s i t,λ_ e=>nomatch e⟩
 |ref p=>
  cases r;rcases ty with⟨rfl,xs,hq⟩|⟨rfl,o,hk,hc,hd⟩|⟨rfl,hk⟩|⟨rfl,S,n,hk⟩
  ·obtain⟨its,_,pl,_⟩:=I.list hq;refine⟨pl.isList.typeIs,λa e=>?_⟩;cases e;obtain⟨o,n,e,c,hd,_⟩:=pl;exact⟨o,e,hd⟩
  ·refine⟨⟨o,I.kIn p o hk,hc⟩,λa e=>?_⟩;cases e;exact⟨o,I.kIn _ o hk,hd⟩
  ·have z:∃o,s.heap.get? p=aA o/\o.ExactDict:=by
    rcases hk with⟨kvs,ep,hk⟩|⟨kvs,ep,bs,hk⟩
    ·obtain⟨_,_,_,_,o,_,e,ex,_⟩:=I.hok p _ hk;exact⟨o,e,ex⟩
    ·obtain⟨_,_,_,_,o,_,e,ex,_⟩:=I.hok p _ hk;exact⟨o,e,ex⟩
   obtain⟨o,e,ex⟩:=z;refine⟨⟨o,e,ex.1⟩,λa e2=>?_⟩;cases e2;exact⟨o,e,ex.2.1⟩
  ·obtain⟨o,_,_,_,e,ex,_⟩:=I.hok p _ hk;refine⟨⟨o,e,ex.1⟩,λa e2=>?_⟩;cases e2;exact⟨o,e,ex.2.1⟩
 |_=>exact False.elim ty
noncomputable def Zqd(K:ah)(T:String)(r:V->List V->Hp->VK->Prop)(to:TE):TE:=λσ H Q=>to σ H λx H1=>tyV K T x H1/\r x [] H1 Q
noncomputable def tBM(K:ah)(T:String)(r:V->List V->Hp->VK->Prop)(to:TE)(t:TA):TE:=λσ H Q=>to σ H λx H1=>tyV K T x H1/\t σ H1 λxs H2=>r x xs H2 Q
variable{o e:c5}{es:List c5}{to:TE}{t:TA}{name:Str}{apos cpos:Pos}{T id:String}{r:V->List V->Hp->VK->Prop}
theorem Znc(pa:PlainAttrs T)(slot:Slot T name id)(hty:typeOf (.builtin id)=pure (.type "method_descriptor"))(hm:MtR X id r)(ho:PE X o to)
  (hbase:attributeBase o name X.env (gw o X.env)=gw o X.env:=by rfl) (hline:(apos.endLine==cpos.line)=aC:=by rfl):PE X (.Call (.Attribute o name apos) [] [] cpos) (Zqd X.K T r to):=by
 intro pins s σ H Q I h;refine wpAny_Call_method0_late hbase hline (Wv (ho pins s σ H _ I h) λv s1 zq9=>?_);obtain⟨x,H1,I1,r1,ty,q1⟩:=zq9;obtain⟨h1,h2⟩:=Zeh I1 r1 ty;exact⟨T,id,pa,slot,hty,h1,h2,Calls.callWith_builtin rfl (PySem.evalArgs_none (hm pins s1 σ H1 x [] v [] Q I1 r1 .nil q1))⟩
theorem Sv(pa:PlainAttrs T)(slot:Slot T name id)(hty:typeOf (.builtin id)=pure (.type "method_descriptor"))(hm:MtR X id r)(ho:PE X o to)(ha:PA X (e::es) t)
  (hbase:attributeBase o name X.env (gw o X.env)=gw o X.env:=by rfl)
  (hfew:((gp cpos (ba (e::es) X.env)).all (λx=>!x.1)&&(backToKw cpos (keywordEach [] X.env)).all (λx=>x.1.isSome)
   &&decide ((e::es).length+([]:List Keyword).length+(if([]:List Keyword).isEmpty then 0 else 1)<30))=aC:=by rfl)
  (hline:(apos.endLine==cpos.line)=aC:=by rfl) (hs:ba (e::es) X.env=(aD,gw e X.env)::ba es X.env:=by rfl) (hplain:(gp cpos (ba es X.env)).any (·.1)=aD:=by rfl):
  PE X (.Call (.Attribute o name apos) (e::es) [] cpos) (tBM X.K T r to t):=by
 intro pins s σ H Q I h;refine wpAny_Call_method_late hbase hfew hline rfl (Wv (ho pins s σ H _ I h) λv s1 zq9=>?_);obtain⟨x,H1,I1,r1,ty,q1⟩:=zq9;obtain⟨h1,h2⟩:=Zeh I1 r1 ty;refine⟨T,id,pa,slot,hty,h1,h2,?_⟩;have hA:=ha cpos pins s1 σ H1 _ I1 q1;rw[hs]at hA⊢;refine Calls.callWith_builtin (by show(aD|| (gp cpos (ba es X.env)).any (·.1))=aD;rw[hplain]<;> rfl) (Calls.evalArgs_plain ?_);exact Wv hA λus s2 ⟨vs,H2,I2,r2,q2⟩=>hm pins s2 σ H2 x vs v us Q I2 r1 r2 q2
end
noncomputable def MtM(X:Cx)(id:String)(r:V->List V->Hp->VK->Prop):Prop:=
 ∀(pins:List (au×Obj)) (s:aq) (σ:St) (H:Hp) (x:V) (xs:List V) (v:aj) (us:List aj) (Q:VK),Inv X pins σ H s->Zz x v->Z3 xs us->r x xs H Q->
  bd (bz X.prog X.w) X.A (call (.builtin id) (v::us)) (EP X pins σ Q) X.xe s
theorem Z3.one{x:V}{us:List aj}(h:Z3 [x] us):∃u,us=[u]/\Zz x u:=by
 cases h with
 |cons r t=>cases t;exact⟨_,rfl,r⟩
theorem Z3.zero:∀{us:List aj},Z3 [] us->us=[]
 |_,.nil=>rfl
theorem Z3.dropLast{xs:List V}{us:List aj}(h:Z3 xs us):Z3 xs.dropLast us.dropLast:=by
 induction h with
 |nil=>exact .nil
 |cons r t ih=>
  cases t with
  |nil=>exact .nil
  |cons q t'=>exact .cons r ih
theorem Xy{α:Type}(l:List α):l.eraseIdx (l.length- 1)=l.dropLast:=by
 induction l with
 |nil=>rfl
 |cons a r ih=>
  cases r with
  |nil=>rfl
  |cons b r=>
   have e:(a::b::r).length- 1=((b::r).length- 1)+1:=by have h1:(a::b::r).length=r.length+2:=rfl;have h2:(b::r).length=r.length+1:=rfl;omega
   rw[e,List.eraseIdx_cons_succ,ih]
   all_goals rfl
section
variable{X:Cx}{pins:List (au×Obj)}{σ:St}{H:Hp}{s:aq}{l b:au}{xs ys zs:List V}
theorem Inv.lset{its its':List aj}{n:Nat}{f:Array aj->Array aj}{t':Nat}(I:Inv X pins σ H s)(hH:H l=aA (.lst xs))
  (e:s.heap.get? l=aA {cls:=.type "list",data:=.seq its.toArray n}) (hf:f its.toArray=its'.toArray) (hv:Z3 ys its') (hz:ys.length<=sizeLine):
  Inv X pins σ (Y0 H l (.lst ys)) {s with heap:=s.heap.update l (dm f),toks:=t'}:=by
 have q:=PySem.IsL.update e f;rw[hf]at q;refine I.write (x:=l) (e:=l) (by rw[hH];exact trivial) (.inl rfl) (λb' u hb hu=>(Heap.get?_update_other s.heap (dm f) (Ne.symm hb)).trans hu) ⟨_,q⟩ ?_;exact⟨hz,its',_,hv,q⟩
theorem Inv.lnew{its:List aj}{t':Nat}(I:Inv X pins σ H s)(hv:Z3 ys its)(hz:ys.length<=sizeLine):
  Inv X pins σ (Y0 H s.heap.objs.size (.lst ys)) {s with heap:=s.heap.push {cls:=.type "list",data:=.seq its.toArray},toks:=t'}:=
 I.laid (λ_ _ q=>ar _ q) (az _) ⟨hz,its,0,hv,a9 _ rfl⟩
theorem Inv.fresh(I:Inv X pins σ H s):H s.heap.objs.size=aB:=I.hok.fresh (az _)
theorem Inv.lstM(I:Inv X pins σ H s)(hH:H l=aA (.lst xs)):xs.length<=sizeLine/\∃(its:List aj) (n:Nat),Z3 xs its/\xs.length=its.length/\s.heap.get? l=aA {cls:=.type "list",data:=.seq its.toArray n}:=by obtain⟨z,its,n,r,e⟩:=I.hok l _ hH;exact⟨z,its,n,r,r.length,e⟩
theorem Zei{n:Nat}(h:n<=sizeLine):Builtin.List.listTooLong n=aD:=by unfold Builtin.List.listTooLong;exact decide_eq_false (by omega)
end
section
variable{X:Cx}
noncomputable def Gp:V->List V->Hp->VK->Prop:=λx vs H Q=>∃l xs y,x= .ref l/\vs=[y]/\H l=aA (.lst xs)/\xs.length<sizeLine/\Q .non (Y0 H l (.lst (xs++[y])))
theorem M0:MtM X "list.append" Gp:=by intro pins s σ H x vs v us Q I rx rv h;obtain⟨l,xs,y,rfl,rfl,hH,hz,q⟩:=h;cases rx;obtain⟨u,rfl,ru⟩:=rv.one;obtain⟨z,its,n,r,hl,e⟩:=I.lstM hH;refine call_meets F.slot_list_append ⟨_,e,rfl⟩ F.entry_list_append (F.args_list_append_2 _ _) (PySem.list_append l its.toArray n u (by rw[bp];omega)) ⟨e,?_⟩;refine⟨.non,_,I.lset (its':=its++[u]) hH e (by simp) (r.append (.cons ru .nil)) ?_,rfl,q⟩;rw[ay,d8];omega
noncomputable def Zqf:V->List V->Hp->VK->Prop:=λx vs H Q=>∃l xs y,x= .ref l/\vs=[]/\H l=aA (.lst xs)/\xs[xs.length- 1]? =aA y/\Q y (Y0 H l (.lst xs.dropLast))
theorem Znd:MtM X "list.pop" Zqf:=by
 intro pins s σ H x vs v us Q I rx rv h;obtain⟨l,xs,y,rfl,rfl,hH,hy,q⟩:=h;cases rx;have hus:=rv.zero;subst hus;obtain⟨z,its,n,r,hl,e⟩:=I.lstM hH;obtain⟨u,hu,ru⟩:=r.get hy;have hy':its.toArray[its.toArray.size- 1]? =aA u:=by show its.toArray[its.length- 1]? =aA u;rw[<-cp,<-hl];exact hu
 refine call_meets F.slot_list_pop ⟨_,e,rfl⟩ F.entry_list_pop (F.args_list_pop_1 _) (MeetsSeq.list_pop_last l its.toArray n u hy' (by rw[bp];omega)) ⟨e,?_⟩;refine⟨y,_,I.lset (its':=its.dropLast) hH e ?_ r.dropLast ?_,ru,q⟩
 ·show its.toArray.eraseIdxIfInBounds (its.toArray.size- 1)=its.dropLast.toArray;rw[bp,List.eraseIdxIfInBounds_toArray,Xy]
 ·rw[List.length_dropLast];omega
end
section
variable{κ:Type}[DecidableEq κ]
noncomputable def Jd(kvs:List (κ×V))(k:κ):Option V:=(kvs.find? λkv=>decide (kv.1=k)).map (·.2)
noncomputable def Q2(kvs:List (κ×V))(k:κ)(v:V):List (κ×V):=
 if(kvs.any λkv=>decide (kv.1=k))=aC then kvs.map (λkv=>if kv.1=k then(kv.1,v)else kv)else kvs++[(k,v)]
theorem Zej{k:κ}:Jd ([]:List (κ×V)) k=aB:=rfl
theorem Be{p:κ×V}{r:List (κ×V)}{k:κ}(e:p.1=k):Jd (p::r) k=aA p.2:=by simp[Jd,List.find?_cons,e]
theorem U1{p:κ×V}{r:List (κ×V)}{k:κ}(e:¬p.1=k):Jd (p::r) k=Jd r k:=by simp[Jd,List.find?_cons,e]
theorem Ef(k:κ):∀kvs:List (κ×V),(kvs.any λkv=>decide (kv.1=k))=(Jd kvs k).isSome
 | []=>rfl
 |p::r=>by
  rw[List.any_cons];by_cases e:p.1=k
  ·simp only[Be e,decide_eq_true e,Bool.true_or,Option.isSome_some]
  ·rw[U1 e,decide_eq_false e,Bool.false_or];exact Ef k r
theorem Cs(kvs:List (κ×V))(k:κ)(v:V):(Q2 kvs k v).length<=kvs.length+1:=by
 unfold Q2;split
 ·rw[ag];omega
 ·rw[ay,bc,List.length_nil];omega
theorem Ry.isSome_eq{o:Option V}{u:Option aj}(r:Ry o u):o.isSome=u.isSome:=by
 cases o with
 |none=>cases u with
  |none=>rfl
  |some _=>exact(show False from r).elim
 |some _=>cases u with
  |none=>exact(show False from r).elim
  |some _=>rfl
theorem Ry.getD{o:Option V}{u:Option aj}{d:V}{d':aj}(r:Ry o u)(rd:Zz d d'):Zz (o.getD d) (u.getD d'):=by
 cases o with
 |none=>cases u with
  |none=>exact rd
  |some _=>exact(show False from r).elim
 |some _=>cases u with
  |none=>exact(show False from r).elim
  |some _=>exact r
theorem KV.val{kvs:List (κ×V)}{vs:List (κ×aj)}(r:KV kvs vs)(k:κ):Ry (Jd kvs k) (valueAt vs k):=by
 unfold KV at r;induction r with
 |nil=>exact True.intro
 | @cons p q ps qs h t ih=>
  obtain⟨h1,h2⟩:=h;by_cases e:p.1=k
  ·have e':q.1=k:=h1.symm.trans e;have b:valueAt (q::qs) k=aA q.2:=by simp[valueAt,List.find?_cons,e']
   rw[Be e,b];exact h2
  ·have e':¬q.1=k:=λz=>e (h1.trans z);have b:valueAt (q::qs) k=valueAt qs k:=by simp[valueAt,List.find?_cons,e']
   rw[U1 e,b];exact ih
theorem KV.any{kvs:List (κ×V)}{vs:List (κ×aj)}(r:KV kvs vs)(k:κ):(kvs.any λkv=>decide (kv.1=k))=vs.any λkv=>decide (kv.1=k):=by
 unfold KV at r;induction r with
 |nil=>rfl
 |cons h t ih=>rw[List.any_cons,List.any_cons,ih,h.1]
theorem KV.repl{kvs:List (κ×V)}{vs:List (κ×aj)}(r:KV kvs vs)(k:κ){y:V}{u:aj}(ry:Zz y u):
  KV (kvs.map λkv=>if kv.1=k then(kv.1,y)else kv) (vs.map λkv=>if kv.1=k then(kv.1,u)else kv):=by
 unfold KV at r⊢;induction r with
 |nil=>exact .nil
 | @cons p q ps qs h t ih=>
  rw[a7,a7];refine .cons ?_ ih;obtain⟨h1,h2⟩:=h;by_cases e:p.1=k
  ·rw[if_pos e,if_pos (h1.symm.trans e)];exact⟨h1,ry⟩
  ·rw[if_neg e,if_neg (λz=>e (h1.trans z))];exact⟨h1,h2⟩
theorem KV.put{kvs:List (κ×V)}{vs:List (κ×aj)}(r:KV kvs vs)(k:κ){y:V}{u:aj}(ry:Zz y u):KV (Q2 kvs k y) (stored vs k u):=by
 unfold Q2 stored;rw[r.any k];by_cases e:(vs.any λkv=>decide (kv.1=k))=aC
 ·rw[if_pos e,if_pos e];exact r.repl k ry
 ·rw[if_neg e,if_neg e];exact Paired.snoc r ⟨rfl,ry⟩
theorem KV.length{kvs:List (κ×V)}{vs:List (κ×aj)}(r:KV kvs vs):kvs.length=vs.length:=gq r
end
theorem Tv{P:bv}{w:c6}{k:Key}{u:aj}(r:Zz (kV k) u):(Zp P w).is k u=aC:=by
 cases k with
 |inl i=>obtain⟨t,e⟩:=(show∃t,u=Value.int i t from r);subst e;exact Sk P w i t
 |inr x=>obtain⟨t,e⟩:=(show∃t,u=Value.str x t from r);subst e;exact Sl P w x t
theorem Kq{P:bv}{w:c6}:∀{ks:List Key} {us:List aj},Z3 (ks.map kV) us->ItemsAre (Zp P w) ks us
 | [],_,r=>by rw[List.map_nil]at r;cases r;exact .nil
 |k::ks,_,r=>by
  rw[a7]at r;cases r with
  |cons h t=>exact .cons (Tv h) (Kq t)
noncomputable abbrev KT(H:Hp):List (List Key×V)->List (List Key×au×aj)->Prop:=Paired λp q=>p.1=q.1/\H q.2.1=aA (.tup (p.1.map kV))/\Zz p.2 q.2.2
theorem KT.val{H:Hp}{kvs:List (List Key×V)}{xs:List (List Key×au×aj)}(r:KT H kvs xs)(k:List Key):Ry (Jd kvs k) ((atKey xs k).map (·.2)):=by
 induction r with
 |nil=>exact True.intro
 | @cons p q ps qs h t ih=>
  obtain⟨h1,_,h2⟩:=h;by_cases e:p.1=k
  ·have e':q.1=k:=h1.symm.trans e;have b:atKey (q::qs) k=aA q.2:=by simp[atKey,List.find?_cons,e']
   rw[Be e,b];exact h2
  ·have e':¬q.1=k:=λz=>e (h1.trans z);have b:atKey (q::qs) k=atKey qs k:=by simp[atKey,List.find?_cons,e']
   rw[U1 e,b];exact ih
theorem KT.repl{H:Hp}{kvs:List (List Key×V)}{xs:List (List Key×au×aj)}(r:KT H kvs xs)(k:List Key){y:V}{u:aj}(ry:Zz y u):
  KT H (kvs.map λkv=>if kv.1=k then(kv.1,y)else kv) (xs.map (putAt k u)):=by
 induction r with
 |nil=>exact .nil
 | @cons p q ps qs h t ih=>
  rw[a7,a7];refine .cons ?_ ih;obtain⟨h1,h2,h3⟩:=h;unfold putAt;by_cases e:p.1=k
  ·rw[if_pos e,if_pos (h1.symm.trans e)];exact⟨h1,h2,ry⟩
  ·rw[if_neg e,if_neg (λz=>e (h1.trans z))];exact⟨h1,h2,h3⟩
theorem KT.put{H:Hp}{kvs:List (List Key×V)}{xs:List (List Key×au×aj)}(r:KT H kvs xs)(k:List Key){b:au}{y:V}{u:aj}(hb:H b=aA (.tup (k.map kV)))(ry:Zz y u):
  KT H (Q2 kvs k y) (storedH xs k b u):=by
 have e:(kvs.any λkv=>decide (kv.1=k))=(atKey xs k).isSome:=by rw[Ef,(r.val k).isSome_eq,Option.isSome_map]
 unfold Q2 storedH;rw[e];by_cases q:(atKey xs k).isSome=aC
 ·rw[if_pos q,if_pos q];exact r.repl k ry
 ·rw[if_neg q,if_neg q];exact Paired.snoc r ⟨rfl,hb,ry⟩
theorem KT.keeps{H H':Hp}{kvs:List (List Key×V)}{xs:List (List Key×au×aj)}(r:KT H kvs xs)(ht:∀b ys,H b=aA (.tup ys)->H' b=aA (.tup ys)):KT H' kvs xs:=
 Paired.mapP r λ_ _ z=>⟨z.1,ht _ _ z.2.1,z.2.2⟩
section
variable{P:bv}{w:c6}{H:Hp}{h:f8}{a:au}
theorem Zek{u:HO}(ok:Re P w H h)(e:Rd H a u):Yb P w H h a u:=e.ok ok
theorem G5{kvs:List (Key×V)}(ok:Re P w H h)(e:RdK H a kvs):kvs.length<=sizeLine/\(a==sysModules)=aD/\∃vs,KV kvs vs/\h.DictOf (Zp P w) a vs:=
 let⟨ep,e⟩:=e;let⟨z,y,vs,r,d⟩:=(show Yb P w H h a (.dK kvs ep)from Zek ok e);⟨z,y,vs,r,d.dictOf⟩
theorem Zlh{kvs:List (Key×V)}(ok:Re P w H h)(e:HK H a kvs):kvs.length<=sizeLine/\(a==sysModules)=aD/\∃vs,KV kvs vs/\h.DictOf (Zp P w) a vs:=G5 ok e.rd
theorem Br{ks:List Key}(ok:Re P w H h)(e:H a=aA (.tup (ks.map kV))):(tupleKind (Zp P w)).is h ks a:=by
 obtain⟨_,its,r,o,h1,h2,n,h3⟩:=(show Yb P w H h a (.tup (ks.map kV))from ok a _ e)
 exact⟨o,its.toArray,n,h1,h2,h3,by simpa using Kq r⟩
theorem Eg{kvs:List (List Key×V)}(ok:Re P w H h)(e:RdT H a kvs):kvs.length<=sizeLine/\(a==sysModules)=aD/\
  ∃xs,KT H kvs xs/\h.DictOfH (tupleKind (Zp P w)) a xs:=by
 obtain⟨ep,bs,e⟩:=e;obtain⟨z,y,xs,r,o,es,h1,h2,h3,h4,h5,_⟩:=(show Yb P w H h a (.dT kvs ep bs)from Zek ok e)
 refine⟨z,y,xs,r,o,es,ep,h1,h2,h3,h4,λx hx=>?_,h5⟩;have all:∀{l:List (List Key×V)} {m:List (List Key×au×aj)},KT H l m->∀x∈m,(tupleKind (Zp P w)).is h x.1 x.2.1:=by
  intro l m q;induction q with
  |nil=>intro x hx;exact nomatch hx
  | @cons p q ps qs hq t ih=>
   intro x hx;rcases bo.mp hx with e|hx
   ·subst e;exact Br ok (by rw[<-hq.1];exact hq.2.1)
   ·exact ih x hx
 exact all r x hx
theorem Zqg{kvs:List (List Key×V)}(ok:Re P w H h)(e:HTt H a kvs):kvs.length<=sizeLine/\(a==sysModules)=aD/\
  ∃xs,KT H kvs xs/\h.DictOfH (tupleKind (Zp P w)) a xs:=Eg ok e.rd
end
noncomputable def Bf(H:Hp)(a:au)(y:V)(r:Option V):Prop:=
 (∃kvs k,RdK H a kvs/\y=kV k/\r=Jd kvs k)\/∃kvs k b,RdT H a kvs/\y= .ref b/\H b=aA (.tup (k.map kV))/\r=Jd kvs k
noncomputable def Ny(H:Hp)(a:au)(y v:V)(R:Hp->Prop):Prop:=
 (∃kvs k,HK H a kvs/\y=kV k/\kvs.length<sizeLine/\∀ep,R (Y0 H a (.dK (Q2 kvs k v) ep)))\/
 ∃kvs k b,HTt H a kvs/\y= .ref b/\H b=aA (.tup (k.map kV))/\kvs.length<sizeLine/\∀ep ep0 bs,H a=aA (.dT kvs ep0 bs)->R (Y0 H a (.dT (Q2 kvs k v) ep (Sm kvs bs k b)))
theorem Bf.k{H:Hp}{a:au}{kvs:List (Key×V)}{k:Key}(e:HK H a kvs):Bf H a (kV k) (Jd kvs k):=.inl ⟨kvs,k,e.rd,rfl,rfl⟩
theorem Bf.t{H:Hp}{a b:au}{kvs:List (List Key×V)}{k:List Key}(e:HTt H a kvs)(eb:H b=aA (.tup (k.map kV))):Bf H a (.ref b) (Jd kvs k):=.inr ⟨kvs,k,b,e.rd,rfl,eb,rfl⟩
theorem Ny.k{H:Hp}{a:au}{kvs:List (Key×V)}{k:Key}{v:V}{R:Hp->Prop}(e:HK H a kvs)(hl:kvs.length<sizeLine)(h:∀ep,R (Y0 H a (.dK (Q2 kvs k v) ep))):Ny H a (kV k) v R:=.inl ⟨kvs,k,e,rfl,hl,h⟩
theorem Ny.t{H:Hp}{a b:au}{kvs:List (List Key×V)}{k:List Key}{v:V}{R:Hp->Prop}(e:HTt H a kvs)(eb:H b=aA (.tup (k.map kV)))(hl:kvs.length<sizeLine)(h:∀ep ep0 bs,H a=aA (.dT kvs ep0 bs)->R (Y0 H a (.dT (Q2 kvs k v) ep (Sm kvs bs k b)))):
  Ny H a (.ref b) v R:=.inr ⟨kvs,k,b,e,rfl,eb,hl,h⟩
section
variable{X:Cx}{pins:List (au×Obj)}{σ:St}{H:Hp}{s:aq}{a:au}{y v:V}{u r:aj}{o:Option V}{A:di}{E:aj->aq->Prop}
theorem Inv.big(I:Inv X pins σ H s):sysModules<s.heap.objs.size:=by have h:b5<s.heap.objs.size:=(I.mod.glob.keeps I.bk).lt;exact Nat.lt_trans (by decide) h
theorem Zcd{Q:aj->aq->Prop}(hu:A.units+1<fg)(I:Inv X pins σ H s)(g:Bf H a y (aA v))(ry:Zz y u)(h:∀w' s',Inv X pins σ H s'->Zz v w'->Q w' s'):
  bd (bz X.prog X.w) A (getItem (.ref a) u) Q E s:=by
 rcases g with⟨kvs,k,e,ey,l⟩|⟨kvs,k,b,e,ey,eb,l⟩
 ·subst ey;obtain⟨z,hd,vs,rel,dd⟩:=G5 I.hok e;obtain⟨w',hw,rw'⟩:=Ry.some_of (v:=v) (o:=valueAt vs k) (by rw[l];exact rel.val k);exact wpAny_getItem_of (Tv ry) dd.mapOf hw (h w' _ (I.tok _) rw')
 ·subst ey;cases(show u=bu b from ry);obtain⟨z,hd,xs,rel,dd⟩:=Eg I.hok e;obtain⟨w',hw,rw'⟩:=Ry.some_of (v:=v) (o:=(atKey xs k).map (·.2)) (by rw[l];exact rel.val k);obtain⟨p,hp,hp2⟩:=cq.mp hw;refine wpAny_getItem_heap (tupleKind_room_in1 hu) (Br I.hok eb) dd hp ?_;rw[hp2];exact h w' _ (I.tok _) rw'
theorem Ztx{Q:aj->aq->Prop}(hu:A.units+1<fg)(I:Inv X pins σ H s)(g:Bf H a y o)(ry:Zz y u)(h:∀s',Inv X pins σ H s'->Q (.bool o.isSome) s'):
  bd (bz X.prog X.w) A (g6 .In u (.ref a)) Q E s:=by
 rcases g with⟨kvs,k,e,ey,l⟩|⟨kvs,k,b,e,ey,eb,l⟩
 ·subst ey;obtain⟨z,hd,vs,rel,dd⟩:=G5 I.hok e;refine wpAny_in_of (Tv ry) hd dd.mapOf ?_;rw[<-(rel.val k).isSome_eq,<-l];exact h _ (I.tok _)
 ·subst ey;cases(show u=bu b from ry);obtain⟨z,hd,xs,rel,dd⟩:=Eg I.hok e;refine wpAny_in_heap (tupleKind_room_in1 hu) (Br I.hok eb) hd dd ?_;have q:=(rel.val k).isSome_eq;rw[Option.isSome_map]at q;rw[<-q,<-l];exact h _ (I.tok _)
theorem Ziu{Q:aj->aq->Prop}(hu:A.units+1<fg)(I:Inv X pins σ H s)(g:Bf H a y o)(ry:Zz y u)(h:∀s',Inv X pins σ H s'->Q (.bool (!o.isSome)) s'):
  bd (bz X.prog X.w) A (g6 .NotIn u (.ref a)) Q E s:=by
 rcases g with⟨kvs,k,e,ey,l⟩|⟨kvs,k,b,e,ey,eb,l⟩
 ·subst ey;obtain⟨z,hd,vs,rel,dd⟩:=G5 I.hok e;refine wpAny_notIn_of (Tv ry) hd dd.mapOf ?_;rw[<-(rel.val k).isSome_eq,<-l];exact h _ (I.tok _)
 ·subst ey;cases(show u=bu b from ry);obtain⟨z,hd,xs,rel,dd⟩:=Eg I.hok e;refine wpAny_notIn_heap (tupleKind_room_in1 hu) (Br I.hok eb) hd dd ?_;have q:=(rel.val k).isSome_eq;rw[Option.isSome_map]at q;rw[<-q,<-l];exact h _ (I.tok _)
theorem Af{h':f8}{t':Nat}{ob:HO}(I:Inv X pins σ H s)(mu:Mut (H a))(hs:gz a s.heap h')(he:∃q,h'.get? a=aA q)(new:Yb X.prog X.w (Y0 H a ob) h' a ob):
  Inv X pins σ (Y0 H a ob) {s with heap:=h',toks:=t'}:=
 I.write (x:=a) (e:=a) mu (.inl rfl) (λb q hb z=>(hs.2 b hb).trans z) he new
theorem Xz{P:bv}{w:c6}{h':f8}{kvs:List (Key×V)}{vs:List (Key×aj)}(z:kvs.length<=sizeLine)(hd:(a==sysModules)=aD)(rel:KV kvs vs)(dd:h'.DictOf (Zp P w) a vs):
  ∃ep,∀H':Hp,Yb P w H' h' a (.dK kvs ep):=let⟨ep,dd⟩:=dd.dictAt;⟨ep,λ_=>⟨z,hd,vs,rel,dd⟩⟩
theorem Zce{R:Hp->Prop}{Q:Unit->aq->Prop}(hu:A.units+1<fg)(I:Inv X pins σ H s)(g:Ny H a y v R)(ry:Zz y u)(rv:Zz v r)(h:∀H' s',R H'->Inv X pins σ H' s'->Q () s'):
  bd (bz X.prog X.w) A (setItem (.ref a) u r) Q E s:=by
 rcases g with⟨kvs,k,e,ey,l,eH⟩|⟨kvs,k,b,e,ey,eb,l,eH⟩
 ·subst ey;obtain⟨z,hd,vs,rel,dd⟩:=Zlh I.hok e;have hz:vs.length<=sizeLine:=by rw[<-rel.length];exact z
  have hl:(Q2 kvs k v).length<=sizeLine:=by have:=Cs kvs k v;omega
  refine wpAny_setItem_pairs (hsz:=hz) (Tv ry) dd λh' dd' hs=>?_;have he:∃q,h'.get? a=aA q:=let⟨q,_,_,hq,_⟩:=dd';⟨q,hq⟩
  obtain⟨ep,ok⟩:=Xz hl hd (rel.put k rv) dd';exact h _ _ (eH ep) (Af I (by obtain⟨e0,e⟩:=e;rw[e];exact True.intro) hs he (ok _))
 ·subst ey;cases(show u=bu b from ry);obtain⟨z,hd,xs,rel,dd⟩:=Zqg I.hok e;have hz:xs.length<=sizeLine:=by rw[<-gq rel];exact z
  have hl:(Q2 kvs k v).length<=sizeLine:=by have:=Cs kvs k v;omega
  refine wpAny_setItem_heap (hsz:=hz) (tupleKind_room_in1 hu) (Br I.hok eb) dd λh' dd' hs=>?_;obtain⟨q,es,ep,hq,h2,h3,h4,_,h5⟩:=dd';obtain⟨e0,bs,e⟩:=e;have hb:(xs.map λx=>x.2.1)=bs:=by
   obtain⟨_,_,xs',r',_,_,w1,_,w3,w4,_,w6⟩:=(show Yb X.prog X.w H s.heap a (.dT kvs e0 bs)from I.hok a _ e)
   obtain⟨_,_,_,y1,_,y3,y4,_⟩:=dd;rw[w1]at y1;cases y1;rw[w3]at y3;cases y3;have:xs'.map (λx=>x.2.1)=xs.map λx=>x.2.1:=by
    have z:=congrArg (List.map DictEntry.key) (w4.symm.trans y4);rw[bi,bi]at z;have inj:∀{l m:List (List Key×au×aj)},l.map (DictEntry.key∘entryOfKey (tupleKind (Zp X.prog X.w)))=m.map (DictEntry.key∘entryOfKey (tupleKind (Zp X.prog X.w)))->(l.map λx=>x.2.1)=m.map λx=>x.2.1:=by
     intro l;induction l with
     |nil=>intro m z;cases m with
      |nil=>rfl
      |cons _ _=>cases z
     |cons x l ih=>intro m z;cases m with
      |nil=>cases z
      |cons y m=>rw[a7,a7]at z⊢;injection z with z1 z2;have z1':bu x.2.1=bu y.2.1:=z1;injection z1' with z1';rw[z1',ih z2]
    exact inj z
   rw[<-this];exact w6
  have hb2:((storedH xs k b r).map λx=>x.2.1)=Sm kvs bs k b:=by
   have ee:(kvs.any λkv=>decide (kv.1=k))=(atKey xs k).isSome:=by rw[Ef,(rel.val k).isSome_eq,Option.isSome_map]
   unfold Sm storedH;rw[ee];by_cases qq:(atKey xs k).isSome=aC
   ·rw[if_pos qq,if_pos qq,bi,<-hb];refine fj λx _=>?_;show(putAt k r x).2.1=x.2.1;unfold putAt;split<;> rfl
   ·rw[if_neg qq,if_neg qq,b4,hb];rfl
  refine h _ _ (eH ep e0 bs e) (Af I (by rw[e];exact True.intro) hs ⟨q,hq⟩ ⟨hl,hd,_,(rel.put k eb rv).keeps λc ys ec=>?_,q,es,hq,h2,h3,h4,h5,hb2⟩);rw[Zv (Ea ec e (λz=>nomatch z))];exact ec
end
noncomputable def Zne(i:c5):Prop:=∀ov iv,subscripted i aD ov iv=operate [ov,iv] (getItem ov iv)
theorem D7{prog:bv}{w:c6}{A:di}{E:aj->aq->Prop}{s:aq}{env:Env}{value slice:c5}{pos:Pos}{T id:String}{Q:aj->aq->Prop}
  (hl:typeLookup (.type T) "__getitem__"=pure (aA (.builtin id))) (hs:Zne slice)
  (h:bd (bz prog w) A (gw value env) (λo s₁=>bd (bz prog w) A (gw slice env) (λi s₂=>s₂.TypeIs o T/\bd (bz prog w) A (getItem o i) Q E s₂) E s₁) E s):
  bd (bz prog w) A (gw (.Subscript value slice pos) env) Q E s:=by
 refine Subscript_ (wpAny_mono h (λo s₁ h₁=>wpAny_mono h₁ (λi s₂ h₂=>?_) λ_ _ x=>x) λ_ _ x=>x);obtain⟨hT,h₂⟩:=h₂;unfold subscriptTail;refine ab ?_;rw[getitemInPython_of_ne hT.not_modules];refine ab (wpAny_specialOf hT hl ?_);have fin:bd (bz prog w) A (subscripted slice aD o i) (λr s₃=>bd (bz prog w) A (letTemporaryGo value o r >>=λ_=>pure r) Q E s₃) E s₂:=by rw[hs o i];exact wpAny_operating (wpAny_mono h₂ (λr s₃ h₃=>ab (wpAny_letTemporaryGo (af h₃))) λ_ _ x=>x)
 first
  |exact af (ab fin)
  |exact ab (af (ab fin))
  |exact ab fin
theorem Sw{X:Cx}{pins:List (au×Obj)}{σ:St}{H:Hp}{s:aq}{a:au}{y:V}{o:Option V}(I:Inv X pins σ H s)(g:Bf H a y o):s.TypeIs (.ref a) "dict":=by
 rcases g with⟨kvs,k,e,_,_⟩|⟨kvs,k,b,e,_,_,_⟩
 ·obtain⟨_,_,vs,_,dd⟩:=G5 I.hok e;exact dd.typeIs
 ·obtain⟨_,_,xs,_,dd⟩:=Eg I.hok e;exact dd.typeIs
noncomputable def Zqh(td ty:TE):TE:=λσ H Q=>td σ H λx H1=>ty σ H1 λy H2=>∃a v,x= .ref a/\Bf H2 a y (aA v)/\Q v H2
noncomputable def Zli(td ty tv:TE):TS:=λD σ H=>tv σ H λv H1=>td σ H1 λx H2=>ty σ H2 λy H3=>∃a,x= .ref a/\Ny H3 a y v (D.nx σ)
section
variable{X:Cx}{o i e value:c5}{pos pos' tpos:Pos}{td ty tv:TE}
theorem Ziv(hu:X.A.units+1<fg)(ho:PE X o td)(hi:PE X i ty)(hs:Zne i):PE X (.Subscript o i pos) (Zqh td ty):=by intro pins s σ H Q I h;refine D7 PySem.F.slot_dict_getitem.lookup hs (Wv (ho pins s σ H _ I h) λu s1 ⟨x,H1,I1,rx,q1⟩=>Wv (hi pins s1 σ H1 _ I1 q1) λiv s2 zq9=>?_);obtain⟨y,H2,I2,ry,a,v,ex,g,q2⟩:=zq9;subst ex;obtain rfl:u=bu a:=rx;exact⟨Sw I2 g,Zcd hu I2 g ry λw' s3 I3 rw'=>⟨v,H2,I3,rw',q2⟩⟩
theorem Ziw(hu:X.A.units+1<fg)(ho:PE X o td)(hi:PE X i ty)(hv:PE X value tv)(hs:swapsWith value (aA (.Subscript o i pos')) pos.line X.env=pure aD):
  PS X (.Assign [.Subscript o i pos'] value pos) (Zli td ty tv):=by
 intro pins s σ H D I h;refine wpAny_Assign_Subscript (Wv (hv pins s σ H _ I h) λr s1 ⟨v,H1,I1,rv,q1⟩=>Wv (ho pins s1 σ H1 _ I1 q1) λu s2 ⟨x,H2,I2,rx,q2⟩=>Wv (hi pins s2 σ H2 _ I2 q2) λiv s3 ⟨y,H3,I3,ry,a,ex,g⟩=>?_) hs;subst ex;obtain rfl:u=bu a:=rx;exact Zce hu I3 g ry rv λH4 s4 q3 I4=>⟨σ,H4,I4,q3⟩
end
theorem Sx{P:bv}{w:c6}{H:Hp}(h:f8)(hb:sysModules<h.objs.size):Yb P w H (h.push {cls:=.type "dict",data:=.dict #[]}) h.objs.size (.dK [] 0):=
 ⟨fu _,beq_eq_false_iff_ne.mpr (Ne.symm (b9 hb)),[],.nil,_, #[],a9 _ rfl,⟨rfl,rfl,rfl⟩,rfl,λ_ he=>by simp at he,Pairs.nil,cm⟩
theorem Zel{P:bv}{w:c6}{H:Hp}(h:f8)(hb:sysModules<h.objs.size):Yb P w H (h.push {cls:=.type "dict",data:=.dict #[]}) h.objs.size (.dT [] 0 []):=
 ⟨fu _,beq_eq_false_iff_ne.mpr (Ne.symm (b9 hb)),[],.nil,_, #[],a9 _ rfl,⟨rfl,rfl,rfl⟩,rfl,rfl,cm,rfl⟩
noncomputable def Zem:TE:=λ_ H Q=>∀p,H p=aB->Q (.ref p) (Y0 H p (.dK [] 0))
noncomputable def Zen:TE:=λ_ H Q=>∀p,H p=aB->Q (.ref p) (Y0 H p (.dT [] 0 []))
section
variable{X:Cx}{pos:Pos}
theorem Zeo:PE X (.Dict [] [] pos) Zem:=λpins s σ H Q I h=>
 wpAny_Dict_empty ⟨.ref s.heap.objs.size,_,I.laid (a:=s.heap.objs.size) (o:=.dK [] 0) (t':=s.toks) (λ_ _ q=>ar _ q) (az _) (Sx s.heap I.big),rfl,h _ (I.hok.fresh (az _))⟩
theorem Zep:PE X (.Dict [] [] pos) Zen:=λpins s σ H Q I h=>
 wpAny_Dict_empty ⟨.ref s.heap.objs.size,_,I.laid (a:=s.heap.objs.size) (o:=.dT [] 0 []) (t':=s.toks) (λ_ _ q=>ar _ q) (az _) (Zel s.heap I.big),rfl,h _ (I.hok.fresh (az _))⟩
end
noncomputable def X3:List (TE×TE)->St->Hp->(List (V×V)->Hp->Prop)->Prop
  | [],_,H,Q=>Q [] H
  | (tk,tv)::r,σ,H,Q=>tk σ H λx H1=>tv σ H1 λy H2=>X3 r σ H2 λps H3=>Q ((x,y)::ps) H3
noncomputable abbrev VV:List (V×V)->List (aj×aj)->Prop:=Paired λp q=>Zz p.1 q.1/\Zz p.2 q.2
noncomputable def PPs(X:Cx)(pos:Pos)(keys:List (Option c5))(values:List c5)(trs:List (TE×TE)):Prop:=
 ∀(pins:List (au×Obj)) (s:aq) (σ:St) (H:Hp) (Q:List (V×V)->Hp->Prop),Inv X pins σ H s->X3 trs σ H Q->
  bd (bz X.prog X.w) X.A (evalPairs (pairTrees keys values X.env pos)) (λvs s'=>∃ps H',Inv X pins σ H' s'/\VV ps vs/\Q ps H') X.xe s
theorem Zix{X:Cx}{pos:Pos}:PPs X pos [] [] []:=λpins s σ H Q I h=>pairTrees_nil_walk ⟨[],H,I,.nil,h⟩
theorem Zeq{X:Cx}{pos:Pos}{k v:c5}{ks:List (Option c5)}{vs:List c5}{tk tv:TE}{trs:List (TE×TE)}(hk:PE X k tk)(hv:PE X v tv)(hr:PPs X pos ks vs trs):
  PPs X pos (aA k::ks) (v::vs) ((tk,tv)::trs):=λpins s σ H Q I h=>
 pairTrees_cons_walk (Wv (hk pins s σ H _ I h) λu s1 ⟨x,H1,I1,rx,q1⟩=>Wv (hv pins s1 σ H1 _ I1 q1) λw2 s2 ⟨y,H2,I2,ry,q2⟩=>
  Wv (hr pins s2 σ H2 _ I2 q2) λws s3 ⟨ps,H3,I3,rel,q3⟩=>⟨(x,y)::ps,H3,I3,.cons ⟨rx,ry⟩ rel,q3⟩)
noncomputable def Bt(kvs more:List (Key×V)):List (Key×V):=more.foldl (λacc kv=>Q2 acc kv.1 kv.2) kvs
theorem KV.merge:∀{more:List (Key×V)} {rs:List (Key×aj)} {kvs:List (Key×V)} {vs:List (Key×aj)},KV more rs->KV kvs vs->KV (Bt kvs more) (merged vs rs):=by
 intro more rs kvs vs r;unfold KV at r;induction r generalizing kvs vs with
 |nil=>intro q;exact q
 | @cons p q ps qs h t ih=>
  intro r0;have e:KV (Q2 kvs p.1 p.2) (stored vs q.1 q.2):=by have:=r0.put p.1 h.2;rw[<-h.1];exact this
  exact ih e
theorem G6:∀(more kvs:List (Key×V)),(Bt kvs more).length<=kvs.length+more.length
 | [],kvs=>by show kvs.length<=kvs.length+0;omega
 |p::r,kvs=>by have h1:=G6 r (Q2 kvs p.1 p.2);have h2:=Cs kvs p.1 p.2;show(Bt (Q2 kvs p.1 p.2) r).length<=_;rw[bc];omega
theorem Eh{P:bv}{w:c6}:∀{kvs:List (Key×V)} {ws:List (aj×aj)},VV (kvs.map λkv=>(kV kv.1,kv.2)) ws->∃rs,Carries (Zp P w) ws rs/\KV kvs rs
 | [],_,r=>by rw[List.map_nil]at r;cases r;exact⟨[],True.intro,.nil⟩
 |p::kvs,_,r=>by
  rw[a7]at r;cases r with
  | @cons a b as bs h t=>obtain⟨rs,c,q⟩:=Eh (P:=P) (w:=w) t;obtain⟨b1,b2⟩:=b;exact⟨(p.1,b2)::rs,⟨Tv h.1,rfl,c⟩,.cons ⟨rfl,h.2⟩ q⟩
structure M1(X:Cx)(o:c5)(m:Str)(apos:Pos)(e:c5)(cpos:Pos):Prop where
 base:attributeBase o m X.env (gw o X.env)=gw o X.env
 few:((gp cpos (ba [e] X.env)).all (λx=>!x.1)&&(backToKw cpos (keywordEach [] X.env)).all (λx=>x.1.isSome)
  &&decide (([e]:List c5).length+([]:List Keyword).length+(if([]:List Keyword).isEmpty then 0 else 1)<30))=aC
 line:(apos.endLine==cpos.line)=aC
 trees:gp cpos (ba [e] X.env)=[(aD,gw e X.env)]
structure M2(X:Cx)(o:c5)(m:Str)(apos:Pos)(e f:c5)(cpos:Pos):Prop where
 base:attributeBase o m X.env (gw o X.env)=gw o X.env
 few:((gp cpos (ba [e,f] X.env)).all (λx=>!x.1)&&(backToKw cpos (keywordEach [] X.env)).all (λx=>x.1.isSome)
  &&decide (([e,f]:List c5).length+([]:List Keyword).length+(if([]:List Keyword).isEmpty then 0 else 1)<30))=aC
 line:(apos.endLine==cpos.line)=aC
 trees:gp cpos (ba [e,f] X.env)=[(aD,gw e X.env),(aD,gw f X.env)]
noncomputable def IsD(H:Hp)(a:au):Prop:=(∃kvs,RdK H a kvs)\/∃kvs,RdT H a kvs
section
variable{X:Cx}{pins:List (au×Obj)}{σ:St}{H:Hp}{s:aq}{a:au}{y d:V}{u r:aj}{o:Option V}{A:di}{E:aj->aq->Prop}
theorem Znf{Q:aj->aq->Prop}(hu:A.units+1<fg)(I:Inv X pins σ H s)(g:Bf H a y o)(ry:Zz y u)(h:∀w' s',Inv X pins σ H s'->Zz (o.getD .non) w'->Q w' s'):
  bd (bz X.prog X.w) A (call (.builtin "dict.get") [.ref a,u]) Q E s:=by
 rcases g with⟨kvs,k,e,ey,l⟩|⟨kvs,k,b,e,ey,eb,l⟩
 ·subst ey;obtain⟨z,hd,vs,rel,dd⟩:=G5 I.hok e;refine call_meetsIn PySem.F.slot_dict_get dd.typeIs PySem.F.entry_dict_get (PySem.F.args_dict_get_2 _ _) (meets_dict_get (Zp X.prog X.w) a (Tv ry) hd) ⟨_,dd.mapOf,h _ _ (I.tok _) ?_⟩;rw[l];exact(rel.val k).getD rfl
 ·subst ey;cases(show u=bu b from ry);obtain⟨z,hd,xs,rel,dd⟩:=Eg I.hok e;refine call_meetsIn PySem.F.slot_dict_get dd.typeIs PySem.F.entry_dict_get (PySem.F.args_dict_get_2 _ _) (meetsH_dict_get (tupleKind (Zp X.prog X.w)) a b hd) ⟨tupleKind_room_in1 hu,k,xs,Br I.hok eb,dd,h _ _ (I.tok _) ?_⟩;rw[l];exact(rel.val k).getD rfl
theorem Zng{Q:aj->aq->Prop}(hu:A.units+1<fg)(I:Inv X pins σ H s)(g:Bf H a y o)(ry:Zz y u)(rd:Zz d r)(h:∀w' s',Inv X pins σ H s'->Zz (o.getD d) w'->Q w' s'):
  bd (bz X.prog X.w) A (call (.builtin "dict.get") [.ref a,u,r]) Q E s:=by
 rcases g with⟨kvs,k,e,ey,l⟩|⟨kvs,k,b,e,ey,eb,l⟩
 ·subst ey;obtain⟨z,hd,vs,rel,dd⟩:=G5 I.hok e;refine call_meetsIn PySem.F.slot_dict_get dd.typeIs PySem.F.entry_dict_get (PySem.F.args_dict_get_3 _ _ _) (meets_dict_get_default (Zp X.prog X.w) a (Tv ry) hd r) ⟨_,dd.mapOf,h _ _ (I.tok _) ?_⟩;rw[l];exact(rel.val k).getD rd
 ·subst ey;cases(show u=bu b from ry);obtain⟨z,hd,xs,rel,dd⟩:=Eg I.hok e;refine call_meetsIn PySem.F.slot_dict_get dd.typeIs PySem.F.entry_dict_get (PySem.F.args_dict_get_3 _ _ _) (meetsH_dict_get_default (tupleKind (Zp X.prog X.w)) a b hd r) ⟨tupleKind_room_in1 hu,k,xs,Br I.hok eb,dd,h _ _ (I.tok _) ?_⟩;rw[l];exact(rel.val k).getD rd
end
section
variable{X:Cx}{pins:List (au×Obj)}{σ:St}{H:Hp}{s:aq}{a:au}{kvs:List (Key×V)}{A:di}{E:aj->aq->Prop}
theorem Zer{Q:aj->aq->Prop}(I:Inv X pins σ H s)(e:RdK H a kvs)(h:∀p ep s',H p=aB->Inv X pins σ (Y0 H p (.dK kvs ep)) s'->Q (.ref p) s'):bd (bz X.prog X.w) A (call (.type "dict") [.ref a]) Q E s:=by obtain⟨z,hd,vs,rel,dd⟩:=G5 I.hok e;refine kt_call_dict hd dd (by rw[<-rel.length];exact z) λh' dd' hs=>?_;obtain⟨ep,ok⟩:=Xz z (beq_eq_false_iff_ne.mpr (Ne.symm (b9 I.big))) rel dd';refine h _ ep _ (I.hok.fresh (az _)) (I.laid (a:=s.heap.objs.size) (o:=.dK kvs ep) (t':=s.toks) (λb q hq=>?_) (az _) (ok _));exact(hs.2 b (b9 (bf hq))).trans (ar _ hq)
end
end L2
namespace Att
open PySem PySem.W PySem.Calls PyProof.Rows
theorem T6{P:Params}{h:f8}:∀(ns:List Int) (vs:List aj),WellAll P h vs (ns.map WData.int)->IntsAre vs ns:=by
 intro ns;induction ns with
 |nil=>intro vs w;rw[List.map_nil]at w;cases w;exact .nil
 |cons n ns ih=>
  intro vs w;rw[a7]at w;cases w with
  |cons a b=>cases a;exact .cons _ _ (ih _ b)
theorem Zcf{l:OpenLaw}{n:Nat}(hn:l.most=aA n){P:Params}{h:f8}{args:List WData}{vals:List aj}
  (hpre:l.row.toRowW.claim.pre args=aC) (hwl:WellAll P h vals args):
  ∃a vs ns,vals=[bu a]/\args=[WData.list (ns.map WData.int)]/\h.get? a=aA {cls:=.type "list",data:=.seq vs.toArray}/\IntsAre vs ns/\ns.length<=n:=by
 have hsh:WShape.hasAll [] args [.list .int]=aC:=(pre_splitW hpre).1;have hc:l.pre.holds [] {args:=args}=aC:=(pre_splitW hpre).2;obtain⟨d,r,rfl,h1,h2⟩:=hasAllW_cons hsh;obtain rfl:=hasAllW_nil h2;obtain⟨xs,rfl,h3⟩:=hasW_list h1;obtain⟨ns,rfl⟩:=items_int h3;have hlen:ns.length<=n:=by
  unfold OpenLaw.pre at hc;have h4:(WTm.not (.lt (.lit (.int (n:Int))) (.len (.arg 0)))).holds [] {args:=[.list (ns.map .int)]}=aC:=by have h4:=(holds_andW hc).1;rw[hn]at h4;exact h4
  have h5:=condW_of h4 (w_not (w_lt w_lit (w_len_list (w_arg rfl))));rw[ag]at h5;refine Nat.le_of_not_lt λq=>?_;have q':(n:Int)<((ns.length:Nat):Int):=by omega
  first
   | (rw[decide_eq_true q']at h5;exact absurd h5 (by decide))
   | (simp at h5;omega)
 cases hwl with
 |cons w1 w2=>
  cases w2;cases w1 with
  |list ho hall=>exact⟨_,_,ns,rfl,rfl,ho,T6 ns _ hall,hlen⟩
theorem Zcg(l:OpenLaw)(args:List WData):l.row.toRowW.claim.post args (.bool aC) args=aC:=
 postW_of (r:=l.row.toRowW) (X:=(aC==aC))
  (show WShape.has [] (.bool aC) .bool=aC by first|rfl|decide|simp[WShape.has,WShape.arms,WShape.armsAll])
  (show(WTm.eq .res (.lit (.bool aC))).value [] {args:=args,res:=aA (.bool aC),after:=args}=aA (.bool (aC==aC))from w_eq_bool (w_res rfl) w_lit) rfl
theorem attach_call{l:OpenLaw}{n:Nat}{q:bv}{loose:List Str}{XP:(Str->Option aj)->f8->Prop}{YP:c6->f8->Prop}{d:DefRec}
  (hn:l.most=aA n) (hdf:d.params.defaults=[])
  (call:∀(w:c6) (s₀ s₁:aq) (mg mb:Str->Option aj) (fa:au) (o:Obj) (pm cd doc:aj) (a:au) (vs:List aj) (ns:List Int),
   Ground q loose [] XP w s₀ mg mb s₁.heap->YP w s₁.heap->
   s₁.heap.get? fa=aA o->o.data= .func (docDef d.name d.params d.body d.scope pm cd doc)->s₁.heap.CodeRec cd d.name->mg d.name=aA (.ref fa)->
   s₁.heap.get? a=aA {cls:=.type "list",data:=.seq vs.toArray}->IntsAre vs ns->ns.length<=n->s₁.gens= #[]->
   codeAny (bz l.prog w) callerA (.call (.ref fa) ⟨[.ref a],[]⟩) (λr s'=>r= .ok (.ret (.bool aC))/\OldK s₁.heap s'.heap/\s'.os=s₁.os/\AllBare s'.gens) s₁):
  WalkO q loose XP YP l.row.toRowW d [] (λf vs=>PySem.call f vs):=by
 intro w s₀ s₁ mg mb G Y fa o pm cd doc dV kV ho hd hcd hD hmg hg args vals as hpre hlay hrd hwl hlo;obtain rfl:dV= .none:=Dflts.none hD hdf;obtain rfl:kV= .none:=Dflts.noKw hD;obtain⟨a,vs,ns,rfl,rfl,hobj,hints,hlen⟩:=Zcf hn hpre hwl;refine enter_call (codeAny_mono (call w s₀ s₁ mg mb fa o pm cd doc a vs ns G Y ho (fd_plain hd) hcd hmg hobj hints hlen hg) λr s' hq=>?_);obtain⟨rfl,h2,h3,h4⟩:=hq;exact⟨.inl ⟨.bool aC,.bool aC,[],rfl,λ_=>rfl,.bool aC,Zcg l _,λ_=>⟨List.Pairwise.nil,λ_ hm=>(nomatch hm)⟩⟩,h2,h3,h4⟩
end Att
namespace L2
open PySem PySem.Spec PyProof.Rows
theorem Kr:∀{vs:List aj} {ns:List Int},IntsAre vs ns->Z3 (ns.map V.int) vs
 |_,_,.nil=>.nil
 |_,_,.cons n t h=>.cons ⟨t,rfl⟩ (Kr h)
noncomputable def Zes(H:Hp):Prop:=∀b,H b=aB\/∃o xs,H b=aA (.frz o (.lst xs))
theorem Zet {P : bv} {w : c6} {K : ah} {mg mb : Str -> Option aj} {CX : CXT} {k : Nat} {fa a : au} {fd : cr} {x : Str} {sp : Sp} {s₁ : aq} {vs : List aj} {ns : List Int}
    (KX : K.In s₁.heap) (hns : s₁.heap.Ns b5 mg) (hb : s₁.heap.Ns builtinsNs mb) (hbb : ∀ x : Str, x ≠ "__name__" -> mb x = bootBuiltins x) (hlim : s₁.heap.NoLimit) (hg : s₁.gens = #[])
    (ha : s₁.heap.get? a = aA { cls := .type "list", data := .seq vs.toArray }) (hi : IntsAre vs ns) (hl : ns.length <= sizeLine) (hr : Room k callerA)
    (F : ∀ base : f8, K.In base -> base.Ns b5 mg -> FnOk P w K mg base CX k fa fd [x] sp) (hbind : ∀ (s : aq) (u : aj), BindsTo s fd ⟨[u], []⟩ [(x, u)])
    (hsp : ∀ H : Hp, Zes H -> U0 K H a (ns.map V.int) -> sp [.ref a] H (λv _ => v = .bl aC) λ_ _ _ => False)
    (hCX : ∀ H e s', CX [] H s₁ (λ_ _ _ => False) e s' -> False) :
    codeAny (bz P w) callerA (.call (.ref fa) ⟨[.ref a], []⟩) (λr s' => r = .ok (.ret (.bool aC)) /\ OldK s₁.heap s'.heap /\ s'.os = s₁.os /\ AllBare s'.gens) s₁ := by
  have rv := Kr hi;have lenV := hi.length
  -- from an abstract heap in which nothing but the script may be tracked
  have core : ∀ H : Hp, Zes H -> U0 K H a (ns.map V.int) -> Re P w H s₁.heap -> (∀ b, H b ≠ aB -> b = a) -> (H a ≠ aB -> K.lookup a = aB) ->
      codeAny (bz P w) callerA (.call (.ref fa) ⟨[.ref a], []⟩) (λr s' => r = .ok (.ret (.bool aC)) /\ OldK s₁.heap s'.heap /\ s'.os = s₁.os /\ AllBare s'.gens) s₁ := by
    intro H hO hS hok hA hK;have base_of : ∀ {b : au} {o : Obj}, s₁.heap.get? b = aA o -> H b = aB -> (Nn s₁.heap H).get? b = aA o := λe n => Zdy e n;have noA : ∀ {b : au} {o : Obj} {es : Array DictEntry} {ep : Nat}, s₁.heap.get? b = aA o -> o.data = .dict es ep -> H b = aB := λ{b o es ep} e d => by
      cases q : H b with
      | none => rfl
      | some u =>have e' : b = a := hA b (by rw [q]; simp);subst e';rw [ha] at e; cases e;have d' : Data.seq vs.toArray _ = Data.dict es ep := d;cases d'
    have nsK : ∀ {b : au} {m : Str -> Option aj}, s₁.heap.Ns b m -> (Nn s₁.heap H).Ns b m := λ{b m} ⟨o, es, ep, e, d, r⟩ => ⟨o, es, ep, base_of e (noA e d), d, r⟩
    have hKb : K.In (Nn s₁.heap H) := λb o e => base_of (KX b o e) (by
      cases q : H b with
      | none => rfl
      | some u =>
        have e' : b = a := hA b (by rw [q]; simp);subst e';rw [hK (by rw [q]; simp)] at e; cases e)
    have hM : Mod K mg (Nn s₁.heap H) := ⟨hKb, nsK hns, ⟨mb, nsK hb, hbb⟩, let ⟨mc, h1, h2⟩ := hlim; ⟨mc, nsK h1, h2⟩⟩
    have e0 : Env0 P w K mg (Nn s₁.heap H) callerA [] s₁ H := ⟨rfl, hM, λb o e => Zia e, Nat.le_of_eq (Zb2 _ _), trivial, λb hb => absurd (show b ∈ ([] : List au) from hb) (by simp), hok, .of_eq hg⟩
    refine codeAny_mono ((F _ hKb (nsK hns)).run callerA [] s₁ H ⟨[.ref a], []⟩ [.ref a] [.ref a] _ _ hr e0 (hbind s₁ (.ref a)) (.cons rfl .nil) (hsp H hO hS)) λr s' h => ?_;cases r with
    | error e => exact (hCX H e s' h).elim
    | ok fl =>
      cases fl with
      | next => exact False.elim h
      | brk => exact False.elim h
      | cont => exact False.elim h
      | ret u =>
        obtain ⟨v, H', os, bare, un, hok', r', q⟩ := h;have q' : v = .bl aC := q;subst q';obtain rfl : u = Value.bool aC := r';refine ⟨rfl, OldK.of_keep λb o e => ?_, os, bare⟩;cases q : H b with
        | none => exact un.keep b o e q (by intro z; exact absurd (show b ∈ ([] : List au) from z) (by simp)) (by simp)
        | some u =>
          rcases hO b with z | ⟨ob, xs, z⟩
          · rw [q] at z; cases z
          · have z2 := un.frzs b ob _ z
            obtain ⟨e1, _⟩ := hok b _ z;obtain ⟨e2, _⟩ := hok' b _ z2;rw [e] at e1; cases e1;exact e2
  cases hk : K.lookup a with
  | some o =>
    -- the script is one of the module's own objects
    have e := KX a o hk;rw [ha] at e;cases e;refine core (λ_ => aB) (λ_ => .inl rfl) (.inr ⟨_, vs.toArray, _, hk, rfl, rfl, rfl, by rw [bp, lenV]; exact hl, by simpa using rv⟩) (λb u z => by have z' : (aB : Option HO) = aA u := z; cases z') (λb z => absurd rfl z) λz => absurd rfl z
  | none =>
    refine core (λb => if b = a then aA (.frz { cls := .type "list", data := .seq vs.toArray } (.lst (ns.map V.int))) else aB) (λb => ?_) (.inl (.inr ⟨{ cls := .type "list", data := .seq vs.toArray }, if_pos rfl⟩)) (λb u z => ?_) (λb z => ?_) λ_ => hk
    · by_cases hb : b = a
      · exact .inr ⟨_, _, if_pos hb⟩
      · exact .inl (if_neg hb)
    · by_cases hb : b = a
      · have z' := (if_pos hb).symm.trans z
        cases z';subst hb;exact ⟨ha, by rw [ag]; exact hl, vs, _, rv, ha⟩
      · have z' := (if_neg hb).symm.trans z
        cases z'
    · by_cases hb : b = a
      · exact hb
      · exact absurd (if_neg hb) z
theorem Ziy{l:PySem.W.OpenLaw}{n k:Nat}{q:bv}{loose:List Str}{XP:(Str->Option aj)->f8->Prop}{YP:c6->f8->Prop}{d:DefRec}{K:Params->ah}{CX:c6->CXT}{sp:c6->Sp}{x:Str}
  (hn:l.most=aA n) (hn2:n<=sizeLine) (hdf:d.params.defaults=[]) (hr:Room k callerA)
  (hY:∀(w:c6) (h:f8),YP w h->(K w.params).In h)
  (F:∀(w:c6) (mg:Str->Option aj) (fa:au) (h:f8),(K w.params).In h->h.Ns b5 mg->mg d.name=aA (.ref fa)->
   ∃fd:cr,(∀(s:aq) (u:aj),BindsTo s fd ⟨[u],[]⟩ [(x,u)])/\
    ∀base:f8,(K w.params).In base->base.Ns b5 mg->FnOk l.prog w (K w.params) mg base (CX w) k fa fd [x] (sp w))
  (hsp:∀(w:c6) (H:Hp) (a:au) (ns:List Int),ns.length<=n->Zes H->U0 (K w.params) H a (ns.map V.int)->sp w [.ref a] H (λv _=>v= .bl aC) λ_ _ _=>False)
  (hCX:∀(w:c6) (H:Hp) (s:aq) (e:aj) (s':aq),CX w [] H s (λ_ _ _=>False) e s'->False):
  PySem.W.WalkO q loose XP YP l.row.toRowW d [] (λf vs=>PySem.call f vs):=by
 refine Att.attach_call hn hdf λw s₀ s₁ mg mb fa o pm cd doc a vs ns G Y ho hd hcd hmg hobj hints hlen hg=>?_;have KX:=hY w _ Y;obtain⟨fd,hb,hF⟩:=F w mg fa _ KX G.T.g hmg;exact Zet KX G.T.g G.T.b G.T.builtins G.T.nolimit hg hobj hints (dk hlen hn2) hr hF hb (λH hO hS=>hsp w H a ns hlen hO hS) λH e s'=>hCX w H s₁ e s'
theorem Zeu{l:PySem.W.OpenLaw}{n k:Nat}{q:bv}{loose:List Str}{XP:(Str->Option aj)->f8->Prop}{YP:c6->f8->Prop}{d:DefRec}{K:Params->ah}{CX:CXT}{sp:ah->Sp}{x:Str}
  (hn:l.most=aA n) (hn2:n<=sizeLine) (hdf:d.params.defaults=[]) (hr:Room k callerA)
  (hY:∀(w:c6) (h:f8),YP w h->(K w.params).In h)
  (F:∀(w:c6) (mg:Str->Option aj) (fa:au) (h:f8),(K w.params).In h->h.Ns b5 mg->mg d.name=aA (.ref fa)->
   ∃fd:cr,(∀(s:aq) (u:aj),BindsTo s fd ⟨[u],[]⟩ [(x,u)])/\
    ∀base:f8,(K w.params).In base->base.Ns b5 mg->FnOk l.prog w (K w.params) mg base CX k fa fd [x] (sp (K w.params)))
  (hsp:∀(K:ah) (H:Hp) (a:au) (ns:List Int),ns.length<=n->Zes H->U0 K H a (ns.map V.int)->sp K [.ref a] H (λv _=>v= .bl aC) λ_ _ _=>False)
  (hCX:∀(H:Hp) (s:aq) (e:aj) (s':aq),CX [] H s (λ_ _ _=>False) e s'->False):
  PySem.W.WalkO q loose XP YP l.row.toRowW d [] (λf vs=>PySem.call f vs):=
 Ziy (K:=K) (CX:=λ_=>CX) (sp:=λw=>sp (K w.params)) hn hn2 hdf hr hY F (λw H a ns h1 h2 h3=>hsp (K w.params) H a ns h1 h2 h3) λ_ H s e s'=>hCX H s e s'
noncomputable def Gq(s:Stmt):Arguments:=match s with
 | .FunctionDef _ a _ _ _ _ _ _ _ _=>a
 |_=>{posonlyargs:=[],args:=[],vararg:=aB,kwonlyargs:=[],kw_defaults:=[],kwarg:=aB,defaults:=[]}
noncomputable def Oq(s:Stmt):List Stmt:=match s with
 | .FunctionDef _ _ b _ _ _ _ _ _ _=>b
 |_=>[]
noncomputable def Zw(s:Stmt):Scope:=match s with
 | .FunctionDef _ _ _ _ _ _ sc _ _ _=>sc
 |_=>{kind:=.function,names:=[],isGenerator:=aD,isCoroutine:=aD}
noncomputable abbrev Uo:CXT:=λ_ _ _ _ _ _=>False
noncomputable abbrev E0:XK:=λ_ _ _=>False
theorem Zqi{X:Cx}:Xu Uo X E0:=λ_ _ _ _ _ _ _ h=>h.elim
structure Fun(K:ah)(x qual:Str)(st:Stmt)(f:au)(fd:cr):Prop where
 ex:∃(oc:aj) (od:Option au) (kV doc pm:aj) (an:Option au) (cdv ct:aj) (osl:Array (Option aj)),
  fd=PySem.W.fnOf x qual (Gq st) (Oq st) (Zw st) .none kV doc pm an cdv ct/\K.lookup f=aA ⟨oc,od,.func fd,osl⟩/\PySem.W.codeIn K cdv qual=aC
 kp:bn K (.ref f)=aC
section
variable{P:bv}{w:c6}{K:ah}{mg:Str->Option aj}{base:f8}
theorem Fun.ok{x qual:Str}{st:Stmt}{f:au}{fd:cr}{N ps:List Str}{k:Nat}{sp:Sp}(F:Fun K x qual st f fd)(S:FnScope N ps (Zw st))(len:∀vs H Q E,sp vs H Q E->vs.length=ps.length)
  (hbody:∀(cdv:aj) (A:di) (outer:List Env) (s:aq) (H:Hp) (vs:List V) (Q:VK) (E:XK),Room k (A.deeper (envOfC qual (Zw st) s.heap.objs.size f cdv))->sp vs H Q E->
   ∃t,Tt (Xv Uo P w K mg base N qual (Zw st) f cdv A outer s H E).nox (Oq st) t/\t {nx:=λ_ H'=>Q .non H',rt:=Q} (Cl N vs) H):FnOk P w K mg base Uo (k+1) f fd ps sp:=by
 obtain⟨oc,od,kV,doc,pm,an,cdv,ct,osl,rfl,lk,hcd⟩:=F.ex;refine Zp7 lk hcd S len λA outer s H vs Q E hr hsp=>?_;obtain⟨t,h,q⟩:=hbody cdv A outer s H vs Q E hr hsp;exact⟨t,h.nox,q⟩
theorem Fun.binds{x qual:Str}{st:Stmt}{f:au}{fd:cr}{ps:List Str}(F:Fun K x qual st f fd)
  (h:∀(kV doc pm:aj) (an:Option au) (cdv ct:aj) (us:List aj),us.length=ps.length->bindArgs (PySem.W.fnOf x qual (Gq st) (Oq st) (Zw st) .none kV doc pm an cdv ct) ⟨us,[]⟩=pure (ps.zip us)):Wp K fd ps []:=by
 obtain⟨oc,od,kV,doc,pm,an,cdv,ct,osl,rfl,lk,hcd⟩:=F.ex;exact .all (h kV doc pm an cdv ct)
theorem Wm{x qual:Str}{st:Stmt}{f:au}{oc:aj}{od an:Option au}{osl:Array (Option aj)}{kV doc pm cdv ct:aj}(l:K.lookup f=aA ⟨oc,od,.func (PySem.W.fnOf x qual (Gq st) (Oq st) (Zw st) .none kV doc pm an cdv ct),osl⟩)
  (c:PySem.W.codeIn K cdv qual=aC) (k:bn K (.ref f)=aC):Fun K x qual st f (PySem.W.fnOf x qual (Gq st) (Oq st) (Zw st) .none kV doc pm an cdv ct):=⟨⟨oc,od,kV,doc,pm,an,cdv,ct,osl,rfl,l,c⟩,k⟩
end
theorem Zqj{A:di}{k:Nat}(hr:Room k A):A.units+1<cLine:=gm (Nat.add_le_add_left (by decide:1<=64) _) hr.units
noncomputable def Zl(H H':Hp):Prop:=∀b o,H b=aA o->H' b=aA o
theorem Zl.refl(H:Hp):Zl H H:=λ_ _ h=>h
theorem Zl.trans{H H1 H2:Hp}(a:Zl H H1)(b:Zl H1 H2):Zl H H2:=λc o h=>b c o (a c o h)
theorem Zl.free{H H':Hp}(e:Zl H H'){l:au}(h:H' l=Option.none):H l=Option.none:=by
 cases q:H l with
 |none=>rfl
 |some o=>rw[e l o q]at h;cases h
theorem PE.imp{X:Cx}{e:c5}{t t':TE}(h:PE X e t)(w:∀σ H Q,t' σ H Q->t σ H Q):PE X e t':=λpins s σ H Q I q=>h pins s σ H Q I (w σ H Q q)
theorem PT.imp{X:Cx}{e:c5}{t t':TT}(h:PT X e t)(w:∀σ H Q,t' σ H Q->t σ H Q):PT X e t':=λpins s σ H Q I q=>h pins s σ H Q I (w σ H Q q)
theorem PW.imp{X:Cx}{e:c5}{t t':TT}(h:PW X e t)(w:∀σ H Q,t' σ H Q->t σ H Q):PW X e t':=λwh pins s σ H Q I q=>h wh pins s σ H Q I (w σ H Q q)
theorem PA.imp{X:Cx}{e:List c5}{t t':TA}(h:PA X e t)(w:∀σ H Q,t' σ H Q->t σ H Q):PA X e t':=λpos pins s σ H Q I q=>h pos pins s σ H Q I (w σ H Q q)
theorem PS.imp{X:Cx}{e:Stmt}{t t':TS}(h:PS X e t)(w:∀D σ H,t' D σ H->t D σ H):PS X e t':=λpins s σ H D I q=>h pins s σ H D I (w D σ H q)
theorem Tt.imp{X:Cx}{e:List Stmt}{t t':TS}(h:Tt X e t)(w:∀D σ H,t' D σ H->t D σ H):Tt X e t':=λpins s σ H D I q=>h pins s σ H D I (w D σ H q)
theorem PG.imp{X:Cx}{e:c5}{t t':TG}(h:PG X e t)(w:∀v σ H Q,t' v σ H Q->t v σ H Q):PG X e t':=λpins s σ H v u Q I r q=>h pins s σ H v u Q I r (w v σ H Q q)
theorem PGs.imp{X:Cx}{e:List c5}{t t':TGs}(h:PGs X e t)(w:∀v σ H Q,t' v σ H Q->t v σ H Q):PGs X e t':=λpins s σ H vs us Q I r q=>h pins s σ H vs us Q I r (w vs σ H Q q)
theorem PI.imp{X:Cx}{tg e:c5}{t t':TI}(h:PI X tg e t)(w:∀σ H R,t' σ H R->t σ H R):PI X tg e t':=λpins s σ H R I q=>h pins s σ H R I (w σ H R q)
noncomputable def T7(cells:List (Str×au)):List (Str×NameKind)->List (Str×au)->List (Str×au)
 | [],cs=>cs
 | (n,k)::r,cs=>T7 cells r (if k= .free then(n,(cells.lookup n).getD 0)::cs else cs)
theorem Rf{env:Env}:∀(names:List (Str×NameKind)) (cs:List (Str×au)),(∀y∈names,y.2= .free->∃c,env.cells.lookup y.1=aA c)->
    (forIn names cs (λx r=>if(x.2==ib)=aC then do let a<-cellOf env x.1;pure (ForInStep.yield ((x.1,a)::r))else pure (ForInStep.yield r)):Sem (List (Str×au)))=pure (T7 env.cells names cs)
  | [],cs,_=>by rw[List.forIn_nil];rfl
  | (n,k)::r,cs,h=>by
    rw[List.forIn_cons];by_cases hk:k= .free
    · obtain⟨c,hc⟩:=h (n,k) ad hk
      subst hk;have e1:cellOf env n=pure c:=by unfold cellOf;rw[hc]
      show((if(ib==ib)=aC then(cellOf env n >>=λa=>pure (ForInStep.yield ((n,a)::cs)))else pure (ForInStep.yield cs)) >>=λs=>_)=_;rw[if_pos (show(ib==ib)=aC by decide),e1];show(forIn r ((n,c)::cs) _:Sem (List (Str×au)))=_;rw[Rf r _ λy hy=>h y (am _ hy)];show _=pure (T7 env.cells r (if ib=ib then(n,(env.cells.lookup n).getD 0)::cs else cs));rw[if_pos rfl,hc];rfl
    · have hb:(k==ib)=aD:=by simpa using hk
      show((if(k==ib)=aC then(cellOf env n >>=λa=>pure (ForInStep.yield ((n,a)::cs)))else pure (ForInStep.yield cs)) >>=λs=>_)=_;rw[hb,if_neg bj];show(forIn r cs _:Sem (List (Str×au)))=_;rw[Rf r _ λy hy=>h y (am _ hy)];show _=pure (T7 env.cells r (if k=ib then _ else cs));rw[if_neg hk]
theorem G7{scope:Scope}{env:Env}(h:∀y∈scope.names,y.2= .free->∃c,env.cells.lookup y.1=aA c):closureFor scope env=pure (T7 env.cells scope.names []):=by simp only[closureFor];rw[Rf scope.names [] h];rfl
theorem Sy{cells:List (Str×au)}{x:Str}{c:au}:∀{names:List (Str×NameKind)} {cs:List (Str×au)},(∀y∈names,y.2= .free->∃c,cells.lookup y.1=aA c)->
    (cs.lookup x=aA c->cells.lookup x=aA c)->(T7 cells names cs).lookup x=aA c->cells.lookup x=aA c
  | [],_,_,h0,e=>h0 e
  | (n,k)::r,cs,h,h0,e=>by
    refine Sy (names:=r) (λy hy=>h y (am _ hy)) ?_ e;intro e';by_cases hk:k= .free
    · rw[if_pos hk]at e'
      obtain⟨c',hc⟩:=h (n,k) ad hk;rw[hc]at e';by_cases hx:x==n
      · simp only[List.lookup_cons,hx]at e'
        cases e';have:x=n:=by simpa using hx
        rw[this];exact hc
      · have hx':(x==n)=aD:=by simpa using hx
        simp only[List.lookup_cons,hx']at e';exact h0 e'
    · rw[if_neg hk]at e';exact h0 e'
theorem Kt{cells:List (Str×au)}{x:Str}:∀{names:List (Str×NameKind)} {cs:List (Str×au)},(∃c,cs.lookup x=aA c)->∃c,(T7 cells names cs).lookup x=aA c
  | [],_,h=>h
  | (n,k)::r,cs,⟨c,h⟩=>by
    refine Kt (names:=r) ?_;by_cases hk:k= .free
    · rw[if_pos hk]
      by_cases hx:x==n
      · exact⟨(cells.lookup n).getD 0,by simp only[List.lookup_cons,hx]⟩
      · have hx':(x==n)=aD:=by simpa using hx
        exact⟨c,by simp only[List.lookup_cons,hx'];exact h⟩
    · rw[if_neg hk];exact⟨c,h⟩
theorem R0{cells:List (Str×au)}{x:Str}:∀{names:List (Str×NameKind)} {cs:List (Str×au)},(x,ib)∈names->∃c,(T7 cells names cs).lookup x=aA c
  | [],_,h=>nomatch h
  | (n,k)::r,cs,h=>by
    rcases bo.mp h with e|e
    · cases e
      refine Kt (names:=r) ⟨(cells.lookup x).getD 0,?_⟩;rw[if_pos rfl];simp[List.lookup_cons]
    · exact R0 (names:=r) e
noncomputable def rlF(env:Env):Str×NameKind->Str×NameKind:=λ(n,k)=>if(k==ib&&env.scope.kind== .function&&env.kindOf n==aA .cell)then(n,NameKind.cell)else(n,k)
theorem Nz(env:Env)(p:Str×NameKind):(rlF env p).1=p.1:=by obtain⟨n,k⟩:=p;unfold rlF;dsimp only;split<;> rfl
theorem Os{f:Str×NameKind->Str×NameKind}(h:∀p,(f p).1=p.1)(x:Str):∀names:List (Str×NameKind),(names.map f).lookup x=(names.lookup x).map λk=>(f (x,k)).2
  | []=>rfl
  | (n,k)::r=>by
    have ih:=Os h x r;have e:f (n,k)=(n,(f (n,k)).2):=Prod.ext (h (n,k)) rfl;rw[a7,e,List.lookup_cons,List.lookup_cons];cases hx:x==n with
    |true=>
      have:x=n:=by simpa using hx
      subst this;rfl
    |false=>exact ih
theorem Ei{x:Str}{k:NameKind}:∀{names:List (Str×NameKind)},names.lookup x=aA k->(x,k)∈names
  | [],h=>by simp at h
  | (n,k')::r,h=>by
    rw[List.lookup_cons]at h;cases hx:x==n with
    |true=>
      rw[hx]at h;have:x=n:=by simpa using hx
      subst this;cases h;exact ad
    |false=>rw[hx]at h;exact am _ (Ei h)
theorem Bu{env:Env}{names:List (Str×NameKind)}{x:Str}{kk:NameKind}(hn:∀y∈names,y.2≠.cell)(hk:kk= .cell\/kk= .free)(h:(names.map (rlF env)).lookup x=aA kk):(x,ib)∈names:=by
 rw[Os (Nz env)]at h;obtain⟨k,h1,h2⟩:=cq.mp h;have hm:=Ei h1;have hc:k≠.cell:=hn _ hm;by_cases hf:k= .free
 ·subst hf;exact hm
 ·exfalso;have hb:(k==ib)=aD:=by simpa using hf
  unfold rlF at h2;simp only[hb,Bool.false_and,bm,if_false]at h2;rcases hk with e|e
  ·exact hc (h2.trans e)
  ·exact hf (h2.trans e)
inductive BSrc where
 |own|cap (j:Nat)|acc
noncomputable def Zlk(σ:St)(acc:au):BSrc->Option V
 | .own=>aB
 | .cap j=>(σ[j]?).join
 | .acc=>aA (.ref acc)
noncomputable def X4(src:List BSrc)(σ:St)(acc:au):St:=src.map (Zlk σ acc)
noncomputable abbrev Cx.block(X:Cx)(N':List Str)(scope:Scope)(C:au)(s₀:aq)(H₀:Hp)(ex:List au):Cx:=
 {X with N:=N',env:=compEnvC scope (T7 X.env.cells scope.names []) C X.env,s₀:=s₀,H₀:=H₀,outer:=X.stack,stack:=X.stack,ex:=ex,fn:=λ_=>aD,pn:=[],xe:=λ_ _=>False}
structure CompScope(X:Cx)(N':List Str)(scope:Scope)(src:List BSrc):Prop where
 kind:scope.kind= .function
 nocell:∀y∈scope.names,y.2≠.cell
 names:∀y∈scope.names,y.2= .local->scope.names.lookup y.1=aA .local
 free:∀y∈scope.names,y.2= .free->X.env.kindOf y.1=aA .cell\/X.env.kindOf y.1=aA .free
 len:src.length=N'.length
 cap:∀(k j:Nat) (x:Str),src[k]? =aA (.cap j)->N'[k]? =aA x->X.N[j]? =aA x/\(X.env.kindOf x=aA .cell\/X.env.kindOf x=aA .free)/\scope.names.lookup x=aA .free
 acc:∀(k:Nat) (x:Str),src[k]? =aA .acc->N'[k]? =aA x->scope.names.lookup x=aB
theorem G0{env:Env}{names:List (Str×NameKind)}{x:Str}(h:names.lookup x=aB):(names.map (rlF env)).lookup x=aB:=by rw[Os (Nz env),h];rfl
theorem G1{env:Env}{names:List (Str×NameKind)}{x:Str}(h:names.lookup x=aA .free):(names.map (rlF env)).lookup x=aA .cell\/(names.map (rlF env)).lookup x=aA .free:=by
 rw[Os (Nz env),h];unfold rlF;dsimp only[Option.map];split
 ·exact .inl rfl
 ·exact .inr rfl
section
variable{X:Cx}{N':List Str}{scope:Scope}{src:List BSrc}{pins:List (au×Obj)}{σ:St}{H:Hp}{s:aq}{C acc:au}{fp:List au}
theorem Sz{h1:f8}{tk:Nat}(S:CompScope X N' scope src)(I:Inv X pins σ H s)(hC:C=s.heap.objs.size)(hf:∀b∈fp,Bd X pins H b)(hfo:∀b∈fp,∃o,s.heap.get? b=aA o)
  (hns:h1.Ns C λ_=>aB) (hk:∀b o,s.heap.get? b=aA o->h1.get? b=aA o):
  Inv (X.block N' scope C s H fp) [] (X4 src σ acc) H {s with heap:=h1,toks:=tk}:=by
 have cellf:∀y∈scope.names,y.2= .free->∃c,X.env.cells.lookup y.1=aA c:=λy hy e=>I.ok.has y.1 (S.free y hy e);have sub:∀x c,(T7 X.env.cells scope.names []).lookup x=aA c->X.env.cells.lookup x=aA c:=λx c e=>Sy cellf (λh=>by simp at h) e;have gt:∀b,b<s.heap.objs.size->b≠C:=λb hb e=>by rw[e,hC]at hb;exact g9 _ hb
 refine⟨⟨I.ok.mod,S.kind,I.ok.glob,I.ok.blt,by rw[hC];exact az _,λx y c h1 h2=>I.ok.inj x y c (sub x c h1) (sub y c h2),λx hx=>?_,λx c h=>absurd h bj,I.ok.hd,I.ok.frames,.inl rfl,λb hb=>?_,I.bs,
  dk I.ok.bsz I.sz,λb o e hb=>?_,λb hb hs=>?_,I.stack,I.stkFree⟩,rfl,I.bare,Un.kept hk,⟨_,hns,λi x v e1 e2 e3=>?_⟩,λx c e=>?_,?_,λx c e=>I.freeC x c (sub x c e),λp hp=>?_,I.hok.kept hk,?_⟩
 ·rcases hx with hx|hx
  ·exact R0 (Bu S.nocell (.inl rfl) hx)
  ·exact R0 (Bu S.nocell (.inr rfl) hx)
 ·obtain⟨f0,f1,f2,f3,f4,f5⟩:=hf b hb;refine⟨?_,λx c e=>f4 x c (sub x c e)⟩;show b≠C;obtain⟨o,ho⟩:=hfo b hb;exact gt b (bf ho)
 ·obtain⟨f0,f1,f2,f3,f4,f5⟩:=hf b hb;rcases f3 with z|z
  ·exact I.ok.noex b o e z
  ·exact absurd (c9 (bf e) (dk I.ok.bsz z)) (g9 _)
 ·obtain⟨f0,f1,f2,f3,f4,f5⟩:=hf b hb;rcases bo.mp (I.stkSub b hs)with z|z
  ·exact f1 z
  ·exact f2 z
 ·have hsrc:∃q,src[i]? =aA q:=by
   cases q:src[i]? with
   |some q0=>exact⟨q0,rfl⟩
   |none=>have e2':(X4 src σ acc)[i]? =aA (aA v):=e2;unfold X4 at e2';rw[a8,q]at e2';cases e2'
  obtain⟨q,hq⟩:=hsrc;have e2':(X4 src σ acc)[i]? =aA (aA v):=e2;unfold X4 at e2';rw[a8,hq]at e2';have e2'':Zlk σ acc q=aA v:=df.inj e2';cases q with
  |own=>cases e2''
  |acc=>
   exfalso;have hno:=G0 (env:=X.env) (S.acc i x hq e1);have hno':(relabel scope X.env).names.lookup x=aB:=hno;have e3':D2 (relabel scope X.env) x:=e3;rcases e3' with z|z|z
   ·rw[hno']at z;cases z
   ·rw[hno']at z;cases z
   ·rw[hno']at z;cases z
  |cap j=>
   obtain⟨hj,hkind,hfr⟩:=S.cap i j x hq e1;have hσ:σ[j]? =aA (aA v):=by
    have e4:(σ[j]?).join=aA v:=e2'';cases r:σ[j]? with
    |none=>rw[r]at e4;cases e4
    |some o=>rw[r]at e4;cases o with
     |none=>cases e4
     |some w'=>cases e4;rfl
   obtain⟨m,hn,hl⟩:=I.loc;obtain⟨u,ru,l⟩:=hl j x v hj hσ (by rcases hkind with z|z;exact .inr (.inl z);exact .inr (.inr z));refine⟨u,ru,?_⟩;rcases l with⟨z,_⟩|⟨_,c,hc,hcell⟩
   ·rcases hkind with y|y
    ·rw[y]at z;cases z
    ·rw[y]at z;cases z
   ·have e3':D2 (relabel scope X.env) x:=e3;have fin:∀kk,kk= .cell\/kk= .free->(relabel scope X.env).names.lookup x=aA kk->Zpm (X.block N' scope C s H fp).env h1 (λ_=>aB) x u:=λkk hkk hx=>by
     obtain⟨c',hc'⟩:=R0 (cells:=X.env.cells) (cs:=[]) (Bu S.nocell hkk hx);have:=sub x c' hc';rw[hc]at this;cases this;obtain⟨oc,hoc,hocd⟩:=hcell;refine .inr ⟨?_,c,hc',oc,hk c oc hoc,hocd⟩;rcases hkk with y|y
     ·subst y;exact .inl hx
     ·subst y;exact .inr hx
    rcases e3' with z|z|z
    ·exfalso;have z':(relabel scope X.env).names.lookup x=aA .local:=z;rcases G1 (env:=X.env) hfr with y|y
     ·have y':(relabel scope X.env).names.lookup x=aA .cell:=y;rw[z']at y';cases y'
     ·have y':(relabel scope X.env).names.lookup x=aA .free:=y;rw[z']at y';cases y'
    ·exact fin .cell (.inl rfl) z
    ·exact fin .free (.inr rfl) z
 ·obtain⟨v,oc,hoc,hocd⟩:=I.cell x c (sub x c e);exact⟨v,oc,hk c oc hoc,hocd⟩
 ·show H C=aB;rw[hC];exact I.hok.fresh (az _)
 ·have hp':p∈([]:List (au×Obj)):=by simpa using hp
  exact nomatch hp'
 ·show(X4 src σ acc).length=N'.length;unfold X4;rw[ag];exact S.len
noncomputable def Zev(src:List BSrc)(wi:TI)(g:TG)(tt:TT)(te:TE):TE:=λσ H Q=>wi σ H λJ H1=>∀acc,H1 acc=aB->
 ∃W:Nat->Nat->St->Hp->Prop,(∃m,W 0 m (X4 src σ acc) (Y0 H1 acc (.lst [])))/\∀i m σ' H,W i m σ' H->(J.stop i H/\Q (.ref acc) H)\/
  (J.go i H/\∀x H',J.yld i H x H'->g x σ' H' λσ2 H2=>tt σ2 H2 λb H3=>if b=aC then te σ2 H3 λy H4=>Gp (.ref acc) [y] H4 λ_ H5=>∃m',m'<m/\W (i+1) m' σ2 H5 else∃m',m'<m/\W (i+1) m' σ2 H3)
noncomputable def PTs(X:Cx)(ifs:List c5)(t:TT):Prop:=
 ∀(pins:List (au×Obj)) (s:aq) (σ:St) (H:Hp) (Q:Bool->Hp->Prop),Inv X pins σ H s->t σ H Q->
  bd (bz X.prog X.w) X.A (forIn ifs aC λc r=>if r=aC then do let ok<-isTrue c X.env (gw c X.env);pure (ForInStep.yield ok)else pure (ForInStep.yield r)) (TP X pins σ Q) X.xe s
noncomputable def Zqk:TT:=λ_ H Q=>Q aC H
theorem Zi0:PTs X [] Zqk:=λ_ s σ H Q I h=>wpAny_tests_nil ⟨H,I,h⟩
theorem Zi1{c:c5}{t:TT}(h:PT X c t):PTs X [c] t:=λpins s σ H Q I q=>wpAny_tests_one (h pins s σ H Q I q)
theorem Zch{prog:bv}{w:c6}{A:di}{s:aq}{elt target iter:c5}{ifs:List c5}{scope:Scope}{pos:Pos}{it acc:aj}{env:Env}{R:Result->aq->Prop}(I:Nat->aq->Prop)
  (turn:∀n s,I n s->bd (bz prog w) A (pyNext it) (λr s₁=>match r with
   |none=>R (.ok .next) s₁
   |some v=>bd (bz prog w) A (letOwnedTupleGo target it v) (λ_ s₀=>bd (bz prog w) A (assign target env v) (λ_ s₂=>
     bd (bz prog w) A (forIn ifs aC λc r=>if r=aC then do let ok<-isTrue c env (gw c env);pure (ForInStep.yield ok)else pure (ForInStep.yield r)) (λok s₃=>if ok=aC then bd (bz prog w) A (gw elt env) (λx s₄=>
      bd (bz prog w) A (call (.builtin "list.append") [acc,x]) (λ_ s₅=>∃m,m<n/\I m s₅) (λ_ _=>False) s₄) (λ_ _=>False) s₃
      else∃m,m<n/\I m s₃) (λ_ _=>False) s₂)
     (λ_ _=>False) s₀) (λ_ _=>False) s₁) (λ_ _=>False) s)
  (n:Nat) (h:I n s):codeAny (bz prog w) A (.compLoop (.ListComp elt [⟨target,iter,ifs,0⟩] scope pos) 0 it acc env) R s:=by
 refine codeAny_loop rfl I (λn s hI=>?_) n h;show bd _ A ((compTurn (.ListComp elt [⟨target,iter,ifs,0⟩] scope pos) 0 it acc env).onRaise (λx=>do noteFrame x env;theTreesLotGoes x)) _ _ s;refine wpAny_noted ?_;rw[compTurn_list];refine ab (wpAny_standAt (ab (wpAny_mono (turn n s hI) (λr s₁ h₁=>?_) λ_ _ f=>f.elim)));cases r with
 |none=>exact af h₁
 |some v=>
  refine ab (wpAny_mono h₁ (λ_ s₀ h₀'=>?_) λ_ _ f=>f.elim);refine ab (wpAny_mono h₀' (λ_ s₂ h₂=>?_) λ_ _ f=>f.elim);refine ab (wpAny_mono h₂ (λokb s₃ h₃=>?_) λ_ _ f=>f.elim);cases okb with
  |false=>exact af ⟨rfl,h₃⟩
  |true=>exact ab (ab (wpAny_mono h₃ (λx s₄ h₄=>ab (wpAny_mono h₄ (λ_ s₅ h₅=>af (af ⟨rfl,h₅⟩)) λ_ _ f=>f.elim)) λ_ _ f=>f.elim))
theorem Ej{tg elt iter:c5}{ifs:List c5}{pos:Pos}{g:TG}{tt:TT}{te:TE}{it:au}{tn:Nat->f8->Prop}{J:It}{Q:VK}{RR:aj->au->Result->aq->Prop}{E:aj->aq->Prop}
  (hc:X.calm=aC) (S:CompScope X N' scope src)
  (hg:∀(C:au) (s₀:aq) (H₀:Hp) (ex:List au),PG (X.block N' scope C s₀ H₀ ex) tg g)
  (ht:∀(C:au) (s₀:aq) (H₀:Hp) (ex:List au),PTs (X.block N' scope C s₀ H₀ ex) ifs tt)
  (he:∀(C:au) (s₀:aq) (H₀:Hp) (ex:List au),PE (X.block N' scope C s₀ H₀ ex) elt te)
  (I:Inv X pins σ H s) (T:Turn X.prog X.w X.K tg J fp it tn) (st:tn 0 s.heap) (hf:∀b∈fp,Bd X pins H b)
  (q:∀acc,H acc=aB->∃W:Nat->Nat->St->Hp->Prop,(∃m,W 0 m (X4 src σ acc) (Y0 H acc (.lst [])))/\∀i m σ' H,W i m σ' H->(J.stop i H/\Q (.ref acc) H)\/
   (J.go i H/\∀x H',J.yld i H x H'->g x σ' H' λσ2 H2=>tt σ2 H2 λb H3=>if b=aC then te σ2 H3 λy H4=>Gp (.ref acc) [y] H4 λ_ H5=>∃m',m'<m/\W (i+1) m' σ2 H5 else∃m',m'<m/\W (i+1) m' σ2 H3))
  (hRR:∀(acc C:au) (s':aq) (H':Hp) (m:Str->Option aj),Inv X pins σ H' s'->Q (.ref acc) H'->s'.heap.Ns C m->H' C=aB->C≠X.env.locals->X.s₀.heap.objs.size<=C->(∀x c,X.env.cells.lookup x=aA c->c≠C)->(∀p∈X.pn++pins,p.1≠C)->
   RR (.ref acc) C (.ok .next) s'):
  bd (bz X.prog X.w) X.A (newList []) (λacc s₃=>bd (bz X.prog X.w) X.A (newFunctionEnv scope X.env.globals (T7 X.env.cells scope.names []) [] X.env.qual aB .none (aA X.env)) (λcenv s₄=>
   codeAny (bz X.prog X.w) X.A (.compStart (.ListComp elt [⟨tg,iter,ifs,0⟩] scope pos) 0 (.ref it) acc {cenv with scope:=relabel scope X.env}) (RR acc cenv.locals) s₄) E s₃) E s:=by
 have hfo:∀b∈fp,∃o,s.heap.get? b=aA o:=λb hb=>let⟨o,e,_⟩:=T.obj 0 _ st b hb;⟨o,e⟩
 refine dn (wpAny_newFunctionEnv S.nocell (by intro y hy;simp at hy) (λh₁ hns₁ hsb₁=>?_) S.kind);dsimp only at hns₁ hsb₁⊢;have hacc:H s.heap.objs.size=aB:=I.hok.fresh (az _);have I3:Inv X pins σ (Y0 H s.heap.objs.size (.lst [])) {s with heap:=s.heap.push {cls:=.type "list",dict:=aB,data:=.seq ([]:List aj).toArray}}:=I.lnew (t':=s.toks) (its:=[]) (ys:=[]) .nil (fu _);have hf3:∀b∈fp,Bd X pins (Y0 H s.heap.objs.size (.lst [])) b:=λb hb=>by obtain⟨f0,f⟩:=hf b hb;obtain⟨o,ho⟩:=hfo b hb;exact⟨by rw[Zv (b9 (bf ho))];exact f0,f⟩
 have hfo3:∀b∈fp,∃o,(s.heap.push {cls:=.type "list",dict:=aB,data:=.seq ([]:List aj).toArray}).get? b=aA o:=λb hb=>let⟨o,e⟩:=hfo b hb;⟨o,ar _ e⟩
 obtain⟨W,⟨m0,w0⟩,turn⟩:=q _ hacc;generalize hH2:s.heap.push {cls:=.type "list",dict:=aB,data:=.seq ([]:List aj).toArray}=H2 at hns₁ hsb₁ I3 hfo3⊢;have keep:∀b o,H2.get? b=aA o->h₁.get? b=aA o:=λb o e=>hsb₁.extBut b o (b9 (bf e)) (ar _ e);have J0:=Sz (N':=N') (scope:=scope) (src:=src) (acc:=s.heap.objs.size) (tk:=s.toks+([]:List (Str×aj)).length) (C:=H2.objs.size) S I3 rfl hf3 hfo3 (show h₁.Ns H2.objs.size (λ_=>aB)from hns₁) keep;have st1:tn 0 h₁:=T.keep 0 s.heap h₁ st λb hb o e=>keep b o (by rw[<-hH2];exact ar _ e);have cne:H2.objs.size≠X.env.locals:=Nat.ne_of_gt I3.lt;have csz:X.s₀.heap.objs.size<=H2.objs.size:=I3.sz;have ccell:∀x c,X.env.cells.lookup x=aA c->c≠H2.objs.size:=λx c e z=>by obtain⟨v,oc,hoc,_⟩:=I3.cell x c e;exact absurd (bf hoc) (by rw[z];exact g9 _)
 have cpin:∀p∈X.pn++pins,p.1≠H2.objs.size:=λp hp z=>absurd (bf (I3.pin p hp).1) (by rw[z];exact g9 _);have loop:∀s₃:aq,s₃={s with heap:=h₁,toks:=s.toks+([]:List (Str×aj)).length}->
   codeAny (bz X.prog X.w) X.A (.compLoop (.ListComp elt [⟨tg,iter,ifs,0⟩] scope pos) 0 (.ref it) (.ref s.heap.objs.size) (compEnvC scope (T7 X.env.cells scope.names []) H2.objs.size X.env)) (RR (.ref s.heap.objs.size) H2.objs.size) s₃:=by
  rintro s₃ rfl;refine Zch (λn s'=>∃i σ' H',Inv (X.block N' scope H2.objs.size {s with heap:=H2} (Y0 H s.heap.objs.size (.lst [])) fp) [] σ' H' s'/\tn i s'.heap/\(∀b∈fp,H' b=aB)/\W i n σ' H') ?_ m0 ⟨0,_,_,J0,st1,λb hb=>(hf3 b hb).1,w0⟩;rintro n s4 ⟨i,σ4,H4,J4,st4,fr4,w4⟩;have fok:∀{H':Hp},(∀b∈fp,H' b=aB)->∀b∈fp,Bd (X.block N' scope H2.objs.size {s with heap:=H2} (Y0 H s.heap.objs.size (.lst [])) fp) [] H' b:=fun{H'} hn b hb=>by
   obtain⟨f0,f1,f2,f3,f4,f5⟩:=hf3 b hb;refine⟨hn b hb,?_,λz=>J4.ok.exfs b hb z,.inl hb,λx c e=>(J4.ok.exf b hb).2 x c e,λp hp=>?_⟩
   ·exact(J4.ok.exf b hb).1
   ·have hp':p∈([]:List (au×Obj)):=by simpa using hp
    exact nomatch hp'
  rcases turn i n σ4 H4 w4 with⟨stop,qn⟩|⟨go,step⟩
  ·refine Wv (T.done (X.block N' scope H2.objs.size {s with heap:=H2} (Y0 H s.heap.objs.size (.lst [])) fp) rfl rfl rfl hc i [] s4 σ4 H4 _ J4 (fok fr4) st4 stop) λr s5 ⟨hr,J5⟩=>?_;subst hr;obtain⟨m5,hn5,_⟩:=J5.loc;have I5:Inv X pins σ H4 s5:=I3.call' (ch:=fp) J5.os J5.base J5.hok J5.bare λb hb=>by obtain⟨f0,f1,f2,f3,f4,f5⟩:=hf3 b hb;exact⟨f3,f1,f4,f5⟩
   exact hRR _ _ s5 H4 m5 I5 qn hn5 J5.free cne csz ccell cpin
  ·refine Wv (T.item (X.block N' scope H2.objs.size {s with heap:=H2} (Y0 H s.heap.objs.size (.lst [])) fp) rfl rfl rfl hc i [] s4 σ4 H4 _ J4 (fok fr4) st4 go) λr s5 ⟨u,hr,h5⟩=>?_;subst hr;refine Wv h5 λ_ s6 zq9=>?_;obtain⟨x,H6,J6,r6,y6,st6,fr6⟩:=zq9;have J6':=J6.pinned (fok fr6) (T.obj _ _ st6);have again:∀{σ7:St} {H7:Hp} {s7:aq},Inv (X.block N' scope H2.objs.size {s with heap:=H2} (Y0 H s.heap.objs.size (.lst [])) fp) ([]++Ec fp s6.heap) σ7 H7 s7->(∃m',m'<n/\W (i+1) m' σ7 H7)->
     ∃m,m<n/\∃i σ' H',Inv (X.block N' scope H2.objs.size {s with heap:=H2} (Y0 H s.heap.objs.size (.lst [])) fp) [] σ' H' s7/\tn i s7.heap/\(∀b∈fp,H' b=aB)/\W i m σ' H':=fun{σ7 H7 s7} J7 ⟨m',hm,w7⟩=>by
    refine⟨m',hm,i+1,σ7,H7,J7.unpinned,T.keep _ _ _ st6 λb hb o e=>(J7.pin (b,o) (bq _ (bq _ (Bp hb e)))).1,λb hb=>?_,w7⟩;obtain⟨o,e,d⟩:=T.obj _ _ st6 b hb;exact(J7.pin (b,o) (bq _ (bq _ (Bp hb e)))).2.1
   refine Wv (hg _ _ _ _ _ s6 σ4 H6 x u _ J6' r6 (step x H6 y6)) λ_ s7 zq9=>?_;obtain⟨σ7,H7,J7,q7⟩:=zq9;refine Wv (ht _ _ _ _ _ s7 σ7 H7 _ J7 q7) λb s8 zq9=>?_;obtain⟨H8,J8,q8⟩:=zq9;cases b with
   |false=>rw[if_neg bj]at q8⊢;exact again J8 q8
   |true=>rw[if_pos rfl]at q8⊢;refine Wv (he _ _ _ _ _ s8 σ7 H8 _ J8 q8) λy s9 zq9=>?_;obtain⟨vy,H9,J9,r9,q9⟩:=zq9;refine Wv (M0 _ s9 σ7 H9 (.ref s.heap.objs.size) [vy] (.ref s.heap.objs.size) [y] _ J9 rfl (.cons r9 .nil) q9) λ_ s10 ⟨_,H10,J10,_,q10⟩=>again J10 q10
 exact codeAny_compStart_list (loop _ rfl) (T.self X.A 0 _ _ _ st1 (loop _ rfl))
theorem Zi2{tg elt iter:c5}{ifs:List c5}{pos:Pos}{wi:TI}{g:TG}{tt:TT}{te:TE}(hc:X.calm=aC)(S:CompScope X N' scope src)(hi:PI X tg iter wi)
  (hg:∀(C:au) (s₀:aq) (H₀:Hp) (ex:List au),PG (X.block N' scope C s₀ H₀ ex) tg g)
  (ht:∀(C:au) (s₀:aq) (H₀:Hp) (ex:List au),PTs (X.block N' scope C s₀ H₀ ex) ifs tt)
  (he:∀(C:au) (s₀:aq) (H₀:Hp) (ex:List au),PE (X.block N' scope C s₀ H₀ ex) elt te)
  (hs:∀x,foldedSetIterable iter X.env x=pure x:=by intro _;rfl):PE X (.ListComp elt [⟨tg,iter,ifs,0⟩] scope pos) (Zev src wi g tt te):=by
 intro pins s σ H Q I h;rw[eval_ListComp];refine wpAny_comprehension_free (use:=aB) rfl hs (G7 λy hy e=>I.ok.has y.1 (S.free y hy e)) S.kind S.names (Wv (hi pins s σ H _ I h) λv s1 h1=>Wv h1 λitv s2 h2=>?_);obtain⟨it,fp,tn,J,H2,e,I2,T,st2,f2,q⟩:=h2;subst e;refine Ej hc S hg ht he I2 T st2 f2 q λacc C s' H' m I' q' hn hC c1 c2 c3 c4=>⟨m,hn,λh' hs'=>?_⟩
 exact⟨.ref acc,H',I'.turned (t':=s'.toks) (λb o hb e=>(hs'.2 b hb).trans e) hC c1 (.inr c2) c3 c4,rfl,q'⟩
theorem X5{tg elt iter:c5}{ifs:List c5}{pos spos py:Pos}{wi:TI}{g:TG}{tt:TT}{te:TE}{i:Nat}{y:Str}(hc:X.calm=aC)(S:CompScope X N' scope src)(hi:PI X tg iter wi)
  (hg:∀(C:au) (s₀:aq) (H₀:Hp) (ex:List au),PG (X.block N' scope C s₀ H₀ ex) tg g)
  (ht:∀(C:au) (s₀:aq) (H₀:Hp) (ex:List au),PTs (X.block N' scope C s₀ H₀ ex) ifs tt)
  (he:∀(C:au) (s₀:aq) (H₀:Hp) (ex:List au),PE (X.block N' scope C s₀ H₀ ex) elt te)
  (hN:X.N.Nodup) (hiy:X.N[i]? =aA y) (hx:X.env.scope.names.lookup y=aA .local)
  (hsw:swapsWith (.ListComp elt [⟨tg,iter,ifs,0⟩] scope pos) (aA (.Name y py)) spos.line X.env=pure aC)
  (hs:∀x,foldedSetIterable iter X.env x=pure x:=by intro _;rfl):PS X (.Assign [.Name y py] (.ListComp elt [⟨tg,iter,ifs,0⟩] scope pos) spos) (Zb3 (Zev src wi g tt te) (Eb i)):=by
 intro pins s σ H D I h;rw[exec_Assign_Name_used _ _ _ _ hsw];refine ab (wpAny_standAt (ab ?_));show bd _ X.A (do let _<-comprehension (.ListComp elt [⟨tg,iter,ifs,0⟩] scope pos) scope X.env _ (newList []) aD (gw iter X.env) (aA (assign (.Name y py) X.env))) _ _ s;refine ab (wpAny_mono (wpAny_comprehension_free (use:=aA (assign (.Name y py) X.env)) (Q:=λ_ s'=>SP X pins D .next s') rfl hs (G7 λy hy e=>I.ok.has y.1 (S.free y hy e)) S.kind S.names
  (Wv (hi pins s σ H _ I h) λv s1 h1=>Wv h1 λitv s2 h2=>?_)) (λ_ s' hq=>af (af hq)) λ_ _ e=>e)
 obtain⟨it,fp,tn,J,H2,e,I2,T,st2,f2,q⟩:=h2;subst e;refine Ej (Q:=λx H1=>Eb i x σ H1 D.nx) hc S hg ht he I2 T st2 f2 q λacc C s' H' m I' q' hn hC c1 c2 c3 c4=>?_;refine wpAny_assign_Name (Ki I' hN hiy (.inl hx) (v:=.ref acc) (u:=.ref acc) rfl (λs'' I'' ⟨a,hsb,ha⟩=>?_) (.inr hx));have hCa:C≠a:=by
  rcases ha with z|z
  ·rw[z];exact c1
  ·exact Ne.symm (c3 _ _ z)
 refine⟨m,hn.sameBut hsb hCa,λh' hs'=>?_⟩;exact⟨_,H',I''.turned (t':=s''.toks) (λb o hb e=>(hs'.2 b hb).trans e) hC c1 (.inr c2) c3 c4,q'⟩
end
noncomputable abbrev EXT:=aj->Option au->St->Hp->Prop
noncomputable abbrev Cx.inSuite(X:Cx)(a:au):Cx:={X with A:=X.A.mark (aA (.ref a)),calm:=aD,xe:=λ_ _=>False}
section
variable{X:Cx}{pins:List (au×Obj)}{σ:St}{H:Hp}{s:aq}{e T:au}{cls:aj}{dx:Option au}{xe:aj->aq->Prop}
noncomputable def Zew(a C:au)(dx:Option au):f8->Prop:=λh=>∃o,h.get? a=aA o/\o.cls= .ref C/\o.dict=dx/\PySem.W.notCls o=aC
end
set_option genInjectivity false in
structure Hd where
 x:Str
 np:Pos
 nm:Option (Str×Nat)
 b0:Stmt
 suite:List Stmt
 pos:Pos
 B:au
 t:TS
noncomputable def Ends.but(D:Ends)(i:Nat):Ends:={nx:=λσ H=>D.nx (σ.set i aB) H,bk:=λσ H=>D.bk (σ.set i aB) H,ct:=λσ H=>D.ct (σ.set i aB) H,rt:=D.rt}
noncomputable def Hd.run(h:Hd)(C:au)(dx:Option au)(D:Ends)(σ:St)(H:Hp):Prop:=match h.nm with
 |none=>h.t D σ H
 |some (_,i)=>∀a,H a=aB->h.t (D.but i) (σ.set i (aA (.ref a))) (Y0 H a (.ext (Zew a C dx)))
set_option genInjectivity false in
structure Hd.Ok(X:Cx)(h:Hd):Prop where
 gl:Gl X h.x
 mg:X.mg h.x=aA (.ref h.B)
 ty:PySem.W.typeIn X.K (.ref h.B)=aA (.type "type")
 cl:PySem.W.isClsIn X.K h.B=aC
 bs:PySem.W.mroIn X.K h.B (.type "BaseException")=aA aC
 db:(h.x==("__debug__":Str))=aD
 nm:∀n i,h.nm=aA (n,i)->X.N.Nodup/\X.N[i]? =aA n/\Loc X.env.scope n/\X.env.kindOf n=aA .local/\X.env.scope.names.lookup n=aA .local
 su:∀a,Tt (X.inSuite a) (h.b0::h.suite) h.t
end L2
namespace L2
open PySem PySem.Spec PySem.Calls PyProof.Rows Builtin.ObjectAttr Builtin.Getset_descriptor
section
variable{X:Cx}
theorem N0:∀{Bs:List au} {us:List aj},Z3 (Bs.map V.ref) us->us=Bs.map bu
 | [],_,r=>by rw[List.map_nil]at r;cases r;rfl
 |B::Bs,_,r=>by
  rw[a7]at r;cases r with
  |cons h t=>rw[show _=bu B from h,N0 t];rfl
end
end L2
namespace L2
open PySem PySem.Spec PyProof.Rows
end L2
namespace PySem
open Sem (wp)
end PySem
namespace L2
open PySem PySem.Spec PySem.Calls PyProof.Rows Builtin.ObjectAttr
end L2
namespace L2
open PySem PySem.Spec PyProof.Rows
noncomputable def drop(H:Hp)(e:au):Hp:=λb=>if b=e then aB else H b
end L2
namespace DL
open PySem L2
variable{K:ah}
inductive D where
 |non|bl (b:Bool)|int (i:Int)|str (x:Str)
 |tup (xs:List D)|lst (xs:List D)
 |dK (ks:List Key) (vs:List D)|dT (ks:List (List Key)) (vs:List D)|dX (ks:List Zk) (vs:List D)
 |exc (c:Str) (ks:List Str) (vs:List D)
noncomputable def Zex(K:ah)(c:Str)(C:au):Prop:=cj K b5 c=aA (aA (.ref C))
noncomputable def KB(F:Hp)(kvs:List (List Key×V))(bs:List au):Prop:=Paired (λ(p:List Key×V) (b:au)=>F b=aA (.tup (p.1.map kV))) kvs bs
noncomputable def KN(F:Hp)(kvs:List (Zk×V))(bs:List au):Prop:=Paired (λ(p:Zk×V) (b:au)=>Jh F p.1 b) kvs bs
mutual
inductive Rep(K:ah)(F:Hp):D->V->Prop where
 |non:Rep K F .non .non
 |bl (b:Bool):Rep K F (.bl b) (.bl b)
 |int (i:Int):Rep K F (.int i) (.int i)
 |str (x:Str):Rep K F (.str x) (.str x)
 |tup {a:au} {xs:List D} {vs:List V} (h:F a=aA (.tup vs)) (r:Reps K F xs vs):Rep K F (.tup xs) (.ref a)
 |lst {a:au} {xs:List D} {vs:List V} (h:U0 K F a vs) (o:F a=aA (.lst vs)\/∀d∈xs,∃i,d= .int i) (r:Reps K F xs vs):Rep K F (.lst xs) (.ref a)
 |dK {a:au} {ks:List Key} {ds:List D} {kvs:List (Key×V)} {ep:Nat} (h:F a=aA (.dK kvs ep)) (e:kvs.map (·.1)=ks) (r:Reps K F ds (kvs.map (·.2))):Rep K F (.dK ks ds) (.ref a)
 |dT {a:au} {ks:List (List Key)} {ds:List D} {kvs:List (List Key×V)} {ep:Nat} {bs:List au} (h:F a=aA (.dT kvs ep bs)) (kb:KB F kvs bs) (e:kvs.map (·.1)=ks) (r:Reps K F ds (kvs.map (·.2))):Rep K F (.dT ks ds) (.ref a)
 |dX {a:au} {ks:List Zk} {ds:List D} {kvs:List (Zk×V)} {ep:Nat} {bs:List au} (h:F a=aA (.dN kvs ep bs)) (kb:KN F kvs bs) (e:kvs.map (·.1)=ks) (r:Reps K F ds (kvs.map (·.2))):Rep K F (.dX ks ds) (.ref a)
 |exc {a C:au} {c:Str} (cl:Zex K c C) (h:F a=aA (.ext (Zew a C aB))):Rep K F (.exc c [] []) (.ref a)
 |exd {a C dx:au} {c:Str} {ks:List Str} {ds:List D} {fs:List (Str×V)} (cl:Zex K c C) (h:F a=aA (.ext (Zew a C (aA dx)))) (hx:F dx=aA (.xd fs)) (e:fs.map (·.1)=ks) (r:Reps K F ds (fs.map (·.2))):Rep K F (.exc c ks ds) (.ref a)
inductive Reps(K:ah)(F:Hp):List D->List V->Prop where
 |nil:Reps K F [] []
 |cons {d:D} {v:V} {ds:List D} {vs:List V} (h:Rep K F d v) (t:Reps K F ds vs):Reps K F (d::ds) (v::vs)
end
theorem KB.mono{F F':Hp}(s:Zl F F'){kvs:List (List Key×V)}{bs:List au}(h:KB F kvs bs):KB F' kvs bs:=Paired.mapP h λ_ _ z=>s _ _ z
theorem KN.mono{F F':Hp}(s:Zl F F'){kvs:List (Zk×V)}{bs:List au}(h:KN F kvs bs):KN F' kvs bs:=Paired.mapP h λ_ _ z=>z.mono λ_ _ q=>s _ _ q
theorem Zey{F F':Hp}(s:Zl F F'){a:au}{u:HO}(h:Rd F a u):Rd F' a u:=by
 rcases h with h|⟨o,h⟩
 ·exact .inl (s _ _ h)
 ·exact .inr ⟨o,s _ _ h⟩
theorem Wb{F F':Hp}(s:Zl F F'){a:au}{xs:List V}(h:U0 K F a xs):U0 K F' a xs:=by
 rcases h with h|h
 ·exact .inl (Zey s h)
 ·exact .inr h
theorem Qi{F F':Hp}(s:Zl F F'){a:au}{xs:List V}(h:Mw K F a xs):Mw K F' a xs:=by
 rcases h with h|h
 ·exact .inl (Zey s h)
 ·exact .inr h
theorem G8{F:Hp}{a:au}{vs:List V}(h:F a=aA (.tup vs)):Mw K F a vs:=.inl (.inl h)
mutual
theorem Rep.mono{F F':Hp}(s:Zl F F'):∀{d:D} {v:V},Rep K F d v->Rep K F' d v
 |_,_,.non=>.non
 |_,_,.bl b=>.bl b
 |_,_,.int i=>.int i
 |_,_,.str x=>.str x
 |_,_,.tup h r=>.tup (s _ _ h) (Reps.mono s r)
 |_,_,.lst h o r=>.lst (Wb s h) (o.imp (λz=>s _ _ z) id) (Reps.mono s r)
 |_,_,.dK h e r=>.dK (s _ _ h) e (Reps.mono s r)
 |_,_,.dT h kb e r=>.dT (s _ _ h) (kb.mono s) e (Reps.mono s r)
 |_,_,.dX h kb e r=>.dX (s _ _ h) (kb.mono s) e (Reps.mono s r)
 |_,_,.exc cl h=>.exc cl (s _ _ h)
 |_,_,.exd cl h hx e r=>.exd cl (s _ _ h) (s _ _ hx) e (Reps.mono s r)
theorem Reps.mono{F F':Hp}(s:Zl F F'):∀{ds:List D} {vs:List V},Reps K F ds vs->Reps K F' ds vs
 |_,_,.nil=>.nil
 |_,_,.cons h t=>.cons (Rep.mono s h) (Reps.mono s t)
end
theorem Reps.length{F:Hp}{ds:List D}:∀{vs:List V},Reps K F ds vs->ds.length=vs.length:=by
 induction ds with
 |nil=>intro vs h;cases h;rfl
 |cons d ds ih=>
  intro vs h;cases h with
  |cons _ t=>rw[bc,bc,ih t]
theorem Reps.append{F:Hp}{ds es:List D}{vs us:List V}(h:Reps K F ds vs)(q:Reps K F es us):Reps K F (ds++es) (vs++us):=by
 induction ds generalizing vs with
 |nil=>cases h;exact q
 |cons d ds ih=>
  cases h with
  |cons h t=>exact .cons h (ih t)
theorem Reps.snoc{F:Hp}{ds:List D}{vs:List V}{d:D}{v:V}(r:Reps K F ds vs)(h:Rep K F d v):Reps K F (ds++[d]) (vs++[v]):=r.append (.cons h .nil)
theorem Reps.get{F:Hp}:∀{ds:List D} {vs:List V} {i:Nat} {d:D},Reps K F ds vs->ds[i]? =aA d->∃v,vs[i]? =aA v/\Rep K F d v
 |_,_,_,_,.nil,e=>by simp at e
 |_,_,0,_,.cons h t,e=>by simp at e;subst e;exact⟨_,rfl,h⟩
 |_,_,i+1,d,.cons h t,e=>by obtain⟨v,h1,h2⟩:=Reps.get (i:=i) (d:=d) t (by simpa using e);exact⟨v,by simpa using h1,h2⟩
theorem Reps.take{F:Hp}:∀{ds:List D} {vs:List V} (n:Nat),Reps K F ds vs->Reps K F (ds.take n) (vs.take n)
 |_,_,0,_=>.nil
 |_,_,_+1,.nil=>.nil
 |_,_,n+1,.cons h t=>.cons h (t.take n)
theorem Reps.drop{F:Hp}:∀{ds:List D} {vs:List V} (n:Nat),Reps K F ds vs->Reps K F (ds.drop n) (vs.drop n)
 |_,_,0,r=>r
 |_,_,_+1,.nil=>.nil
 |_,_,n+1,.cons h t=>t.drop n
inductive SV where
 |fz (d:D)|ol (xs:List D)|oK (ks:List Key) (vs:List D)|oT (ks:List (List Key)) (vs:List D)|oN (ks:List Key) (xss:List (List D))|oL (pin:Option au) (xss:List (List D))|oQ (pin:au) (ks:List Key) (vs:List D)|oX (ks:List Zk) (xss:List (List D))|oD (dss:List (List Key×List D))|oM (ks:List Zk) (vs:List D)
@[simp]noncomputable def SV.toD:SV->D
 | .fz d=>d
 | .ol xs=>.lst xs
 | .oK ks vs=>.dK ks vs
 | .oT ks vs=>.dT ks vs
 | .oN ks xss=>.dK ks (xss.map D.lst)
 | .oL _ xss=>.lst (xss.map D.lst)
 | .oQ _ ks vs=>.dK ks vs
 | .oX ks xss=>.dX ks (xss.map D.lst)
 | .oD dss=>.lst (dss.map λp=>.dK p.1 p.2)
 | .oM ks vs=>.dX ks vs
noncomputable abbrev Zr:=List (au×HO)
inductive Kids(K:ah)(F:Hp):List (List D)->List V->Zr->Prop where
 |nil:Kids K F [] [] []
 |cons {xs:List D} {xss:List (List D)} {b:au} {vs:List V} {ws:List V} {ns:Zr} (r:Reps K F xs vs) (t:Kids K F xss ws ns):Kids K F (xs::xss) (.ref b::ws) ((b,.lst vs)::ns)
inductive KidD(K:ah)(F:Hp):List (List Key×List D)->List V->Zr->Prop where
 |nil:KidD K F [] [] []
 |cons {ds:List D} {dss:List (List Key×List D)} {b:au} {kvs:List (Key×V)} {ep:Nat} {ws:List V} {ns:Zr} (r:Reps K F ds (kvs.map (·.2))) (t:KidD K F dss ws ns):KidD K F ((kvs.map (·.1),ds)::dss) (.ref b::ws) ((b,.dK kvs ep)::ns)
inductive Shape(K:ah)(F:Hp):SV->V->Zr->Prop where
 |fz {d:D} {v:V} (h:Rep K F d v):Shape K F (.fz d) v []
 |ol {a:au} {xs:List D} {vs:List V} (r:Reps K F xs vs):Shape K F (.ol xs) (.ref a) [(a,.lst vs)]
 |oK {a:au} {ks:List Key} {ds:List D} {kvs:List (Key×V)} {ep:Nat} (e:kvs.map (·.1)=ks) (r:Reps K F ds (kvs.map (·.2))):Shape K F (.oK ks ds) (.ref a) [(a,.dK kvs ep)]
 |oT {a:au} {ks:List (List Key)} {ds:List D} {kvs:List (List Key×V)} {ep:Nat} {bs:List au} (kb:KB F kvs bs) (e:kvs.map (·.1)=ks) (r:Reps K F ds (kvs.map (·.2))):Shape K F (.oT ks ds) (.ref a) [(a,.dT kvs ep bs)]
 |oN {a:au} {ks:List Key} {xss:List (List D)} {kvs:List (Key×V)} {ns:Zr} {ep:Nat} (e:kvs.map (·.1)=ks) (r:Kids K F xss (kvs.map (·.2)) ns):Shape K F (.oN ks xss) (.ref a) ((a,.dK kvs ep)::ns)
 |oL {pin:Option au} {a:au} {xss:List (List D)} {ws:List V} {ns:Zr} (hp:∀b,pin=aA b->b=a) (r:Kids K F xss ws ns):Shape K F (.oL pin xss) (.ref a) ((a,.lst ws)::ns)
 |oQ {a:au} {ks:List Key} {ds:List D} {kvs:List (Key×V)} {ep:Nat} (e:kvs.map (·.1)=ks) (r:Reps K F ds (kvs.map (·.2))):Shape K F (.oQ a ks ds) (.ref a) [(a,.dK kvs ep)]
 |oX {a:au} {ks:List Zk} {xss:List (List D)} {kvs:List (Zk×V)} {ns:Zr} {ep:Nat} {bs:List au} (kb:KN F kvs bs) (e:kvs.map (·.1)=ks) (r:Kids K F xss (kvs.map (·.2)) ns):Shape K F (.oX ks xss) (.ref a) ((a,.dN kvs ep bs)::ns)
 |oD {a:au} {dss:List (List Key×List D)} {ws:List V} {ns:Zr} (r:KidD K F dss ws ns):Shape K F (.oD dss) (.ref a) ((a,.lst ws)::ns)
 |oM {a:au} {ks:List Zk} {ds:List D} {kvs:List (Zk×V)} {ep:Nat} {bs:List au} (kb:KN F kvs bs) (e:kvs.map (·.1)=ks) (r:Reps K F ds (kvs.map (·.2))):Shape K F (.oM ks ds) (.ref a) [(a,.dN kvs ep bs)]
theorem KidD.mono{F F':Hp}(s:Zl F F'):∀{dss:List (List Key×List D)} {ws:List V} {ns:Zr},KidD K F dss ws ns->KidD K F' dss ws ns
 |_,_,_,.nil=>.nil
 |_,_,_,.cons r t=>.cons (r.mono s) (t.mono s)
theorem Kids.mono{F F':Hp}(s:Zl F F'){xss:List (List D)}{ws:List V}{ns:Zr}(h:Kids K F xss ws ns):Kids K F' xss ws ns:=by
 induction h with
 |nil=>exact .nil
 |cons r _ ih=>exact .cons (r.mono s) ih
theorem Shape.mono{F F':Hp}(s:Zl F F'){sv:SV}{v:V}{ns:Zr}(h:Shape K F sv v ns):Shape K F' sv v ns:=by
 cases h with
 |fz h=>exact .fz (h.mono s)
 |ol r=>exact .ol (r.mono s)
 |oK e r=>exact .oK e (r.mono s)
 |oT kb e r=>exact .oT (kb.mono s) e (r.mono s)
 |oN e r=>exact .oN e (r.mono s)
 |oL hp r=>exact .oL hp (r.mono s)
 |oQ e r=>exact .oQ e (r.mono s)
 |oX kb e r=>exact .oX (kb.mono s) e (r.mono s)
 |oD r=>exact .oD (r.mono s)
 |oM kb e r=>exact .oM (kb.mono s) e (r.mono s)
noncomputable def Up(F:Hp):Zr->Hp
 | []=>F
 |p::r=>Y0 (Up F r) p.1 p.2
noncomputable abbrev T8(ns:Zr):List Addr:=ns.map (·.1)
theorem Bg{F:Hp}{b:au}:∀{ns:Zr},b∉T8 ns->Up F ns b=F b
 | [],_=>rfl
 |p::r,h=>by have h1:b≠p.1:=λe=>h (by rw[e];exact ad);have h2:b∉T8 r:=λe=>h (am _ e);show Y0 (Up F r) p.1 p.2 b=F b;rw[Zv h1,Bg h2]
theorem Ek{F:Hp}{p:au×HO}:∀{ns:Zr},(T8 ns).Nodup->p∈ns->Up F ns p.1=aA p.2
 | [],_,h=>nomatch h
 |q::r,nd,h=>by
  obtain⟨n1,n2⟩:=d3.mp nd;show Y0 (Up F r) q.1 q.2 p.1=aA p.2;rcases bo.mp h with e|e
  ·subst e;exact Yr
  ·rw[Zv λz=>n1 (av.mpr ⟨p,e,z⟩)];exact Ek n2 e
theorem Qu{F:Hp}{ns:Zr}(h:∀p∈ns,F p.1=aB):Zl F (Up F ns):=λb o e=>by
 by_cases hb:b∈T8 ns
 ·obtain⟨p,hp,ep⟩:=av.mp hb;subst ep;rw[h p hp]at e;cases e
 ·rw[Bg hb];exact e
theorem D8{F H:Hp}{ns:Zr}(nd:(T8 ns).Nodup)(le:Zl F H)(h:∀p∈ns,H p.1=aA p.2):Zl (Up F ns) H:=λb o e=>by
 by_cases hb:b∈T8 ns
 ·obtain⟨p,hp,ep⟩:=av.mp hb;subst ep;rw[Ek nd hp]at e;cases e;exact h p hp
 ·rw[Bg hb]at e;exact le b o e
theorem S0{Z:Hp×Hp}{F:Hp}{ns:Zr}(nd:(T8 ns).Nodup)(fro:∀(b:au) (o:HO),F b=aA o->Z.2 b=aA o\/Z.1 b=aB)(hz:∀p∈ns,Z.1 p.1=aB):∀(b:au) (o:HO),Up F ns b=aA o->Z.2 b=aA o\/Z.1 b=aB:=λb o e=>by
 by_cases hb:b∈T8 ns
 ·obtain⟨p,hp,ep⟩:=av.mp hb;subst ep;exact .inr (hz p hp)
 ·rw[Bg hb]at e;exact fro b o e
theorem Kids.rep{F F':Hp}(s:Zl F F'):∀{xss:List (List D)} {ws:List V} {ns:Zr},Kids K F xss ws ns->(∀p∈ns,F' p.1=aA p.2)->Reps K F' (xss.map D.lst) ws
 |_,_,_,.nil,_=>.nil
 |_,_,_,.cons r t,h=>.cons (.lst (.inl (.inl (h _ ad))) (.inl (h _ ad)) (r.mono s)) (t.rep s λp hp=>h p (am _ hp))
theorem KidD.rep{F F':Hp}(s:Zl F F'):∀{dss:List (List Key×List D)} {ws:List V} {ns:Zr},KidD K F dss ws ns->(∀p∈ns,F' p.1=aA p.2)->Reps K F' (dss.map λp=>.dK p.1 p.2) ws
 |_,_,_,.nil,_=>.nil
 |_,_,_,.cons r t,h=>.cons (.dK (h _ ad) rfl (r.mono s)) (t.rep s λp hp=>h p (am _ hp))
theorem Shape.rep{F:Hp}{sv:SV}{v:V}{ns:Zr}(h:Shape K F sv v ns)(nd:(T8 ns).Nodup)(hn:∀p∈ns,F p.1=aB):Rep K (Up F ns) sv.toD v:=by
 have s:=Qu hn;have a:∀p∈ns,Up F ns p.1=aA p.2:=λp hp=>Ek nd hp;cases h with
 |fz h=>exact h
 |ol r=>exact .lst (.inl (.inl (a (_,_) ad))) (.inl (a (_,_) ad)) (r.mono s)
 |oK e r=>exact .dK (a (_,_) ad) e (r.mono s)
 |oT kb e r=>exact .dT (a (_,_) ad) (kb.mono s) e (r.mono s)
 |oN e r=>exact .dK (a (_,_) ad) e (r.rep s λp hp=>a p (am _ hp))
 |oL _ r=>exact .lst (.inl (.inl (a (_,_) ad))) (.inl (a (_,_) ad)) (r.rep s λp hp=>a p (am _ hp))
 |oQ e r=>exact .dK (a (_,_) ad) e (r.mono s)
 |oX kb e r=>exact .dX (a (_,_) ad) (kb.mono s) e (r.rep s λp hp=>a p (am _ hp))
 |oD r=>exact .lst (.inl (.inl (a (_,_) ad))) (.inl (a (_,_) ad)) (r.rep s λp hp=>a p (am _ hp))
 |oM kb e r=>exact .dX (a (_,_) ad) (kb.mono s) e (r.mono s)
noncomputable abbrev Wc:=List (Option SV)
set_option genInjectivity false in
structure Ent(K:ah)where
 h:Hp
 f:Hp
 x:EXT
noncomputable abbrev ent(H F:Hp):Ent K:=⟨H,F,λ_ _ _ _=>False⟩
set_option genInjectivity false in
structure Exn where
 c:Str
 ks:List Str:=[]
 vs:List D:=[]
noncomputable def Znh(K:ah)(F:Hp)(e:Exn)(cls:aj)(od:Option au):Prop:=∃C,Zex K e.c C/\cls= .ref C/\match od with
 |none=>e.ks=[]/\e.vs=[]
 |some dx=>∃fs:List (Str×V),F dx=aA (.xd fs)/\fs.map (·.1)=e.ks/\Reps K F e.vs (fs.map (·.2))
structure SR(Z:Ent K)(F H:Hp)(σ:St)(δ:Wc)(own:Nat->Zr):Prop where
 le:Zl F H
 fro:∀(b:au) (o:HO),F b=aA o->Z.f b=aA o\/Z.h b=aB
 old:Zl Z.h H
 len:σ.length=δ.length
 at':∀(i:Nat) (sv:SV),δ[i]? =aA (aA sv)->∃v,σ[i]? =aA (aA v)/\Shape K F sv v (own i)
 nod:∀i:Nat,(T8 (own i)).Nodup
 ok:∀(i:Nat) (p:au×HO),p∈own i->F p.1=aB/\Z.h p.1=aB/\H p.1=aA p.2
 sep:∀(i j:Nat) (p q:au×HO),i≠j->p∈own i->q∈own j->p.1≠q.1
inductive RV where
 |tmp (sv:SV)|bw (i:Nat)
structure TmpOk(Z:Ent K)(F H:Hp)(own:Nat->Zr)(sv:SV)(v:V)(ns:Zr):Prop where
 sh:Shape K F sv v ns
 nd:(T8 ns).Nodup
 ok:∀p∈ns,F p.1=aB/\Z.h p.1=aB/\H p.1=aA p.2
 sep:∀(i:Nat) (p q:au×HO),p∈ns->q∈own i->p.1≠q.1
noncomputable def D9(Z:Ent K)(F H:Hp)(σ:St)(own:Nat->Zr):RV->V->Prop
 | .tmp sv,v=>∃ns,TmpOk Z F H own sv v ns
 | .bw i,v=>σ[i]? =aA (aA v)
theorem TmpOk.fz{Z:Ent K}{F H:Hp}{own:Nat->Zr}{d:D}{v:V}(h:Rep K F d v):TmpOk Z F H own (.fz d) v []:=
 ⟨.fz h,cm,λ_ h=>(nomatch h),λ_ _ _ h=>(nomatch h)⟩
theorem J1{H:Hp}{p:au}{o:HO}(h:H p=aB):Zl H (Y0 H p o):=λb u e=>by rw[Zv λz=>by rw[z,h]at e;cases e];exact e
theorem SR.grow{Z:Ent K}{F H H':Hp}{σ:St}{δ:Wc}{own:Nat->Zr}(s:SR Z F H σ δ own)(h:Zl H H'):SR Z F H' σ δ own:=
 ⟨s.le.trans h,s.fro,s.old.trans h,s.len,s.at',s.nod,λi p hp=>let⟨a,b,c⟩:=s.ok i p hp;⟨a,b,h _ _ c⟩,s.sep⟩
theorem SR.addF{Z:Ent K}{F H:Hp}{σ:St}{δ:Wc}{own:Nat->Zr}{ns:Zr}(s:SR Z F H σ δ own)(nd:(T8 ns).Nodup)(hn:∀p∈ns,F p.1=aB)(hH:∀p∈ns,H p.1=aA p.2)(hz:∀p∈ns,Z.h p.1=aB)
  (hs:∀(i:Nat) (p q:au×HO),p∈ns->q∈own i->p.1≠q.1):SR Z (Up F ns) H σ δ own:=by
 have sm:=Qu hn;refine⟨D8 nd s.le hH,S0 (Z:=(Z.h,Z.f)) nd s.fro hz,s.old,s.len,λi sv e=>?_,s.nod,λi p hp=>?_,s.sep⟩
 ·obtain⟨v,h1,h2⟩:=s.at' i sv e;exact⟨v,h1,h2.mono sm⟩
 ·obtain⟨a,b,c⟩:=s.ok i p hp;refine⟨?_,b,c⟩;rw[Bg λhb=>?_]
  ·exact a
  ·obtain⟨q,hq,e⟩:=av.mp hb;exact hs i q p hq hp e
theorem SR.settle{Z:Ent K}{F H:Hp}{σ:St}{δ:Wc}{own:Nat->Zr}{sv:SV}{v:V}{ns:Zr}(s:SR Z F H σ δ own)(t:TmpOk Z F H own sv v ns):
  ∃F1,Zl F F1/\SR Z F1 H σ δ own/\Rep K F1 sv.toD v:=
 ⟨Up F ns,Qu λp hp=>(t.ok p hp).1,s.addF t.nd (λp hp=>(t.ok p hp).1) (λp hp=>(t.ok p hp).2.2) (λp hp=>(t.ok p hp).2.1) t.sep,t.sh.rep t.nd λp hp=>(t.ok p hp).1⟩
noncomputable def put(own:Nat->Zr)(i:Nat)(ns:Zr):Nat->Zr:=λj=>if j=i then ns else own j
theorem Yl{own:Nat->Zr}{i:Nat}{ns:Zr}:put own i ns i=ns:=if_pos rfl
theorem Yx{own:Nat->Zr}{i j:Nat}{ns:Zr}(h:j≠i):put own i ns j=own j:=if_neg h
theorem SR.freeze{Z:Ent K}{F H:Hp}{σ:St}{δ:Wc}{own:Nat->Zr}{i:Nat}{sv:SV}(s:SR Z F H σ δ own)(e:δ[i]? =aA (aA sv)):
  ∃F1 v,Zl F F1/\σ[i]? =aA (aA v)/\Rep K F1 sv.toD v/\SR Z F1 H σ (δ.set i (aA (.fz sv.toD))) (put own i []):=by
 obtain⟨v,h1,h2⟩:=s.at' i sv e;have hn:∀p∈own i,F p.1=aB:=λp hp=>(s.ok i p hp).1;have sm:=Qu hn;have hi:i<δ.length:=(ax.mp e).1;refine⟨Up F (own i),v,sm,h1,h2.rep (s.nod i) hn,⟨D8 (s.nod i) s.le λp hp=>(s.ok i p hp).2.2,S0 (Z:=(Z.h,Z.f)) (s.nod i) s.fro λp hp=>(s.ok i p hp).2.1,s.old,by rw[List.length_set];exact s.len,λj sw ej=>?_,λj=>?_,λj p hp=>?_,λj k p q hjk hp hq=>?_⟩⟩
 ·by_cases hj:j=i
  ·subst hj;rw[d4 hi]at ej;cases ej;rw[Yl];exact⟨v,h1,.fz (h2.rep (s.nod j) hn)⟩
  ·rw[f7 (Ne.symm hj)]at ej;obtain⟨w,g1,g2⟩:=s.at' j sw ej;rw[Yx hj];exact⟨w,g1,g2.mono sm⟩
 ·by_cases hj:j=i
  ·subst hj;rw[Yl];exact cm
  ·rw[Yx hj];exact s.nod j
 ·by_cases hj:j=i
  ·subst hj;rw[Yl]at hp;exact nomatch hp
  ·rw[Yx hj]at hp;obtain⟨a,b,c⟩:=s.ok j p hp;refine⟨?_,b,c⟩;rw[Bg λhb=>?_]
   ·exact a
   ·obtain⟨q,hq,z⟩:=av.mp hb;exact s.sep i j q p (Ne.symm hj) hq hp z
 ·by_cases hj:j=i
  ·subst hj;rw[Yl]at hp;exact nomatch hp
  ·by_cases hk:k=i
   ·subst hk;rw[Yl]at hq;exact nomatch hq
   ·rw[Yx hj]at hp;rw[Yx hk]at hq;exact s.sep j k p q hjk hp hq
theorem SR.store{Z:Ent K}{F H:Hp}{σ:St}{δ:Wc}{own:Nat->Zr}{i:Nat}{sv:SV}{v:V}{ns:Zr}(s:SR Z F H σ δ own)(t:TmpOk Z F H own sv v ns)(hi:i<σ.length):
  SR Z F H (σ.set i (aA v)) (δ.set i (aA sv)) (put own i ns):=by
 refine⟨s.le,s.fro,s.old,by rw[List.length_set,List.length_set];exact s.len,λj sw ej=>?_,λj=>?_,λj p hp=>?_,λj k p q hjk hp hq=>?_⟩
 ·by_cases hj:j=i
  ·subst hj;have hd:j<δ.length:=by have:=(ax.mp ej).1;simpa using this
   rw[d4 hd]at ej;cases ej;rw[Yl,d4 hi];exact⟨v,rfl,t.sh⟩
  ·rw[f7 (Ne.symm hj)]at ej;rw[Yx hj,f7 (Ne.symm hj)];exact s.at' j sw ej
 ·by_cases hj:j=i
  ·subst hj;rw[Yl];exact t.nd
  ·rw[Yx hj];exact s.nod j
 ·by_cases hj:j=i
  ·subst hj;rw[Yl]at hp;exact t.ok p hp
  ·rw[Yx hj]at hp;exact s.ok j p hp
 ·by_cases hj:j=i
  ·subst hj;rw[Yl]at hp;rw[Yx (Ne.symm hjk)]at hq;exact t.sep k p q hp hq
  ·by_cases hk:k=i
   ·subst hk;rw[Yl]at hq;rw[Yx hj]at hp;exact Ne.symm (t.sep j q p hq hp)
   ·rw[Yx hj]at hp;rw[Yx hk]at hq;exact s.sep j k p q hjk hp hq
theorem SR.change{Z:Ent K}{F H:Hp}{σ:St}{δ:Wc}{own:Nat->Zr}{i:Nat}{sv sv':SV}{a:au}{o o':HO}{v:V}{ns':Zr}(s:SR Z F H σ δ own)(e:δ[i]? =aA (aA sv))(hv:σ[i]? =aA (aA v))
  (ha:(a,o)∈own i) (hs:Shape K F sv' v ns') (hns:∀p∈ns',p=(a,o')\/(p∈own i/\p.1≠a)) (nd:(T8 ns').Nodup):SR Z F (Y0 H a o') σ (δ.set i (aA sv')) (put own i ns'):=by
 obtain⟨fa,ha0,hHa⟩:=s.ok i (a,o) ha;have hi:i<δ.length:=(ax.mp e).1;refine⟨λb u eb=>?_,s.fro,λb u eb=>?_,by rw[List.length_set];exact s.len,λj sw ej=>?_,λj=>?_,λj p hp=>?_,λj k p q hjk hp hq=>?_⟩
 ·rw[Zv λz=>by rw[z]at eb;rw[fa]at eb;cases eb];exact s.le b u eb
 ·rw[Zv λz=>by rw[z]at eb;rw[ha0]at eb;cases eb];exact s.old b u eb
 ·by_cases hj:j=i
  ·subst hj;rw[d4 hi]at ej;cases ej;rw[Yl];exact⟨v,hv,hs⟩
  ·rw[f7 (Ne.symm hj)]at ej;rw[Yx hj];exact s.at' j sw ej
 ·by_cases hj:j=i
  ·subst hj;rw[Yl];exact nd
  ·rw[Yx hj];exact s.nod j
 ·by_cases hj:j=i
  ·subst hj;rw[Yl]at hp;rcases hns p hp with z|⟨z,ne⟩
   ·subst z;exact⟨fa,ha0,Yr⟩
   ·obtain⟨x,y,w⟩:=s.ok j p z;exact⟨x,y,by rw[Zv ne];exact w⟩
  ·rw[Yx hj]at hp;obtain⟨x,y,w⟩:=s.ok j p hp;exact⟨x,y,by rw[Zv (s.sep j i p (a,o) hj hp ha)];exact w⟩
 ·have own':∀r∈ns',∃r'∈own i,r.1=r'.1:=λr hr=>by
   rcases hns r hr with z|⟨z,_⟩
   ·subst z;exact⟨(a,o),ha,rfl⟩
   ·exact⟨r,z,rfl⟩
  by_cases hj:j=i
  ·subst hj;rw[Yl]at hp;rw[Yx (Ne.symm hjk)]at hq;obtain⟨r',hr',er⟩:=own' p hp;rw[er];exact s.sep j k r' q hjk hr' hq
  ·by_cases hk:k=i
   ·subst hk;rw[Yl]at hq;rw[Yx hj]at hp;obtain⟨r',hr',er⟩:=own' q hq;rw[er];exact s.sep j k p r' hjk hp hr'
   ·rw[Yx hj]at hp;rw[Yx hk]at hq;exact s.sep j k p q hjk hp hq
end DL
namespace DL
open PySem L2
variable{K:ah}
noncomputable abbrev FE:=Wc->Option (RV×Wc)
noncomputable abbrev FT:=Wc->Option (Bool×Wc)
noncomputable abbrev FA:=Wc->Option (List RV×Wc)
noncomputable abbrev FD:=Wc->Option (List D×Wc)
@[simp]noncomputable def SV.nested:SV->Bool
 | .oN _ _=>aC
 | .oL _ _=>aC
 | .oX _ _=>aC
 | .oD _=>aC
 | .oM _ _=>aC
 |_=>aD
@[simp]noncomputable def rdv:RV->Wc->Option D
 | .tmp sv,_=>aA sv.toD
 | .bw i,δ=>(δ[i]?.join).bind λsv=>if sv.nested then aB else aA sv.toD
@[simp]noncomputable def frz:RV->Wc->Option (D×Wc)
 | .tmp sv,δ=>aA (sv.toD,δ)
 | .bw i,δ=>(δ[i]?.join).bind λsv=>aA (sv.toD,δ.set i (aA (.fz sv.toD)))
theorem Bh{δ:Wc}{i:Nat}{sv:SV}(h:δ[i]?.join=aA sv):δ[i]? =aA (aA sv):=by
 cases e:δ[i]? with
 |none=>rw[e]at h;cases h
 |some o=>rw[e]at h;cases o with
  |none=>cases h
  |some s=>cases h;rfl
noncomputable def Ze(Z:Ent K)(f:FE):TE:=λσ H Q=>∃F δ own rv δ',SR Z F H σ δ own/\f δ=aA (rv,δ')/\
 ∀v H' F' own',Zl H H'->Zl F F'->SR Z F' H' σ δ' own'->D9 Z F' H' σ own' rv v->Q v H'
noncomputable def Ym(Z:Ent K)(f:FT):TT:=λσ H Q=>∃F δ own b δ',SR Z F H σ δ own/\f δ=aA (b,δ')/\
 ∀H' F' own',Zl H H'->Zl F F'->SR Z F' H' σ δ' own'->Q b H'
noncomputable def RVS(K:ah)(F:Hp)(σ:St):RV->V->Prop
 | .tmp sv,v=>Rep K F sv.toD v
 | .bw i,v=>σ[i]? =aA (aA v)
inductive RVSs(K:ah)(F:Hp)(σ:St):List RV->List V->Prop where
 |nil:RVSs K F σ [] []
 |cons {rv:RV} {v:V} {rvs:List RV} {vs:List V} (h:RVS K F σ rv v) (t:RVSs K F σ rvs vs):RVSs K F σ (rv::rvs) (v::vs)
noncomputable def Cm(Z:Ent K)(f:FA):TA:=λσ H Q=>∃F δ own rvs δ',SR Z F H σ δ own/\f δ=aA (rvs,δ')/\
 ∀vs H' F' own',Zl H H'->Zl F F'->SR Z F' H' σ δ' own'->RVSs K F' σ rvs vs->Q vs H'
noncomputable def Qd(Z:Ent K)(f:FD):TA:=λσ H Q=>∃F δ own ds δ',SR Z F H σ δ own/\f δ=aA (ds,δ')/\
 ∀vs H' F' own',Zl H H'->Zl F F'->SR Z F' H' σ δ' own'->Reps K F' ds vs->Q vs H'
section
variable{Z:Ent K}{F H F' H':Hp}{σ:St}{δ δ':Wc}{own:Nat->Zr}{rv:RV}{v:V}{d:D}{Q:VK}
theorem RVS.mono(s:Zl F F')(h:RVS K F σ rv v):RVS K F' σ rv v:=by
 cases rv with
 |tmp sv=>exact Rep.mono s h
 |bw i=>exact h
theorem SR.settleR(s:SR Z F H σ δ own)(h:D9 Z F H σ own rv v):∃F1,Zl F F1/\SR Z F1 H σ δ own/\RVS K F1 σ rv v:=by
 cases rv with
 |tmp sv=>obtain⟨ns,t⟩:=h;exact s.settle t
 |bw i=>exact⟨F,Zl.refl F,s,h⟩
theorem SR.frzR(s:SR Z F H σ δ own)(h:RVS K F σ rv v)(e:frz rv δ=aA (d,δ')):∃F1 own1,Zl F F1/\SR Z F1 H σ δ' own1/\Rep K F1 d v:=by
 cases rv with
 |tmp sv=>cases e;exact⟨F,own,Zl.refl F,s,h⟩
 |bw i=>obtain⟨sv,e1,e2⟩:=aa.mp e;cases e2;obtain⟨F1,w,h1,h2,h3,h4⟩:=s.freeze (Bh e1);have h':σ[i]? =aA (aA v):=h;rw[h']at h2;cases h2;exact⟨F1,_,h1,h4,h3⟩
noncomputable def Yf(K:ah)(F H:Hp)(d:D)(v:V):Prop:=∃sv ns,sv.toD=d/\sv.nested=aD/\Shape K F sv v ns/\∀p∈ns,H p.1=aA p.2
theorem Yf.of(h:Rep K F d v):Yf K F H d v:=⟨.fz d,[],rfl,rfl,.fz h,λ_ h=>nomatch h⟩
theorem SR.rd(s:SR Z F H σ δ own)(h:RVS K F σ rv v)(e:rdv rv δ=aA d):Yf K F H d v:=by
 cases rv with
 |tmp sv=>cases e;exact Yf.of h
 |bw i=>
  obtain⟨sv,e1,e2⟩:=aa.mp e;cases hn:sv.nested with
  |true=>rw[hn]at e2;cases e2
  |false=>rw[hn]at e2;cases e2;obtain⟨w,h1,h2⟩:=s.at' i sv (Bh e1);have h':σ[i]? =aA (aA v):=h;rw[h']at h1;cases h1;exact⟨sv,own i,rfl,hn,h2,λp hp=>(s.ok i p hp).2.2⟩
inductive RepNs(K:ah)(F H:Hp):List D->List V->Prop where
 |nil:RepNs K F H [] []
 |cons {d:D} {v:V} {ds:List D} {vs:List V} (h:Yf K F H d v) (t:RepNs K F H ds vs):RepNs K F H (d::ds) (v::vs)
theorem Yf.non(h:Yf K F H .non v):v= .non:=by
 obtain⟨sv,ns,e,n,sh,hp⟩:=h;cases sh with
 |fz r=>cases e;cases r;rfl
 |ol r=>cases e
 |oK e' r=>cases e
 |oT kb e' r=>cases e
 |oN e' r=>cases n
 |oX kb' e' r=>cases n
 |oD r=>cases n
 |oM kb' e' r=>cases n
 |oL _ r=>cases n
 |oQ e' r=>cases e
theorem Yf.bl{b:Bool}(h:Yf K F H (.bl b) v):v= .bl b:=by
 obtain⟨sv,ns,e,n,sh,hp⟩:=h;cases sh with
 |fz r=>cases e;cases r;rfl
 |ol r=>cases e
 |oK e' r=>cases e
 |oT kb e' r=>cases e
 |oN e' r=>cases n
 |oX kb' e' r=>cases n
 |oD r=>cases n
 |oM kb' e' r=>cases n
 |oL _ r=>cases n
 |oQ e' r=>cases e
theorem Yf.int{i:Int}(h:Yf K F H (.int i) v):v= .int i:=by
 obtain⟨sv,ns,e,n,sh,hp⟩:=h;cases sh with
 |fz r=>cases e;cases r;rfl
 |ol r=>cases e
 |oK e' r=>cases e
 |oT kb e' r=>cases e
 |oN e' r=>cases n
 |oX kb' e' r=>cases n
 |oD r=>cases n
 |oM kb' e' r=>cases n
 |oL _ r=>cases n
 |oQ e' r=>cases e
theorem Yf.str{x:Str}(h:Yf K F H (.str x) v):v= .str x:=by
 obtain⟨sv,ns,e,n,sh,hp⟩:=h;cases sh with
 |fz r=>cases e;cases r;rfl
 |ol r=>cases e
 |oK e' r=>cases e
 |oT kb e' r=>cases e
 |oN e' r=>cases n
 |oX kb' e' r=>cases n
 |oD r=>cases n
 |oM kb' e' r=>cases n
 |oL _ r=>cases n
 |oQ e' r=>cases e
theorem Yf.tup{xs:List D}(le:Zl F H)(h:Yf K F H (.tup xs) v):∃a vs,v= .ref a/\Mw K H a vs/\Reps K F xs vs:=by
 obtain⟨sv,ns,e,n,sh,hp⟩:=h;cases sh with
 |fz r=>cases e;cases r with|tup h r=>exact⟨_,_,rfl,Qi le (G8 h),r⟩
 |ol r=>cases e
 |oK e' r=>cases e
 |oT kb e' r=>cases e
 |oN e' r=>cases n
 |oX kb' e' r=>cases n
 |oD r=>cases n
 |oM kb' e' r=>cases n
 |oL _ r=>cases n
 |oQ e' r=>cases e
theorem Yf.lst{xs:List D}(le:Zl F H)(h:Yf K F H (.lst xs) v):∃a vs,v= .ref a/\U0 K H a vs/\Reps K F xs vs:=by
 obtain⟨sv,ns,e,n,sh,hp⟩:=h;cases sh with
 |fz r=>cases e;cases r with|lst h _ r=>exact⟨_,_,rfl,Wb le h,r⟩
 |ol r=>cases e;exact⟨_,_,rfl,.inl (.inl (hp _ ad)),r⟩
 |oK e' r=>cases e
 |oT kb e' r=>cases e
 |oN e' r=>cases n
 |oX kb' e' r=>cases n
 |oD r=>cases n
 |oM kb' e' r=>cases n
 |oL _ r=>cases n
 |oQ e' r=>cases e
theorem Yf.dK{ks:List Key}{ds:List D}(le:Zl F H)(h:Yf K F H (.dK ks ds) v):∃a kvs,v= .ref a/\HK H a kvs/\kvs.map (·.1)=ks/\Reps K F ds (kvs.map (·.2)):=by
 obtain⟨sv,ns,e,n,sh,hp⟩:=h;cases sh with
 |fz r=>cases e;cases r with|dK h e r=>exact⟨_,_,rfl,⟨_,le _ _ h⟩,e,r⟩
 |ol r=>cases e
 |oK e' r=>cases e;exact⟨_,_,rfl,⟨_,hp _ ad⟩,e',r⟩
 |oT kb e' r=>cases e
 |oN e' r=>cases n
 |oX kb' e' r=>cases n
 |oD r=>cases n
 |oM kb' e' r=>cases n
 |oL _ r=>cases n
 |oQ e' r=>cases e;exact⟨_,_,rfl,⟨_,hp _ ad⟩,e',r⟩
theorem Yf.dT{ks:List (List Key)}{ds:List D}(le:Zl F H)(h:Yf K F H (.dT ks ds) v):∃a kvs,v= .ref a/\HTt H a kvs/\kvs.map (·.1)=ks/\Reps K F ds (kvs.map (·.2)):=by
 obtain⟨sv,ns,e,n,sh,hp⟩:=h;cases sh with
 |fz r=>cases e;cases r with|dT h kb e r=>exact⟨_,_,rfl,⟨_,_,le _ _ h⟩,e,r⟩
 |ol r=>cases e
 |oK e' r=>cases e
 |oT kb e' r=>cases e;exact⟨_,_,rfl,⟨_,_,hp _ ad⟩,e',r⟩
 |oN e' r=>cases n
 |oX kb' e' r=>cases n
 |oD r=>cases n
 |oM kb' e' r=>cases n
 |oL _ r=>cases n
 |oQ e' r=>cases e
end
theorem Ku{a:au}:([a]:List au).Nodup:=d3.mpr ⟨λh=>(nomatch h),cm⟩
noncomputable def Fin(Z:Ent K)(F H:Hp)(σ:St)(δ:Wc)(own:Nat->Zr)(sv:SV)(Q:VK):Prop:=
 ∀v H' F' ns,Zl H H'->Zl F F'->SR Z F' H' σ δ own->TmpOk Z F' H' own sv v ns->Q v H'
section
variable{Z:Ent K}{F H:Hp}{σ:St}{δ:Wc}{own:Nat->Zr}{Q:VK}
theorem Fin.fz{d:D}{v:V}(f:Fin Z F H σ δ own (.fz d) Q)(s:SR Z F H σ δ own)(h:Rep K F d v):Q v H:=f v H F [] (Zl.refl H) (Zl.refl F) s (.fz h)
theorem Fin.one{sv:SV}{o:HO}{p:au}(f:Fin Z F H σ δ own sv Q)(s:SR Z F H σ δ own)(sh:Shape K F sv (.ref p) [(p,o)])(hp:H p=aB):Q (.ref p) (Y0 H p o):=by
 have sm:=J1 (o:=o) hp;refine f (.ref p) (Y0 H p o) F [(p,o)] sm (Zl.refl F) (s.grow sm) ⟨sh,Ku,λq hq=>?_,λi q r hq hr=>?_⟩
 ·obtain rfl:=ao.mp hq;exact⟨s.le.free hp,s.old.free hp,Yr⟩
 ·obtain rfl:=ao.mp hq;intro e;have e':p=r.1:=e;have z:=(s.ok i r hr).2.2;rw[<-e',hp]at z;cases z
theorem Fin.lst{xs:List D}{vs:List V}{p:au}(f:Fin Z F H σ δ own (.ol xs) Q)(s:SR Z F H σ δ own)(r:Reps K F xs vs)(hp:H p=aB):Q (.ref p) (Y0 H p (.lst vs)):=f.one s (.ol r) hp
theorem Fin.tup{xs:List D}{vs:List V}{p:au}(f:Fin Z F H σ δ own (.fz (.tup xs)) Q)(s:SR Z F H σ δ own)(r:Reps K F xs vs)(hp:H p=aB):Q (.ref p) (Y0 H p (.tup vs)):=by
 have sm:=J1 (o:=.tup vs) hp;have sF:Zl F (Up F [(p,.tup vs)]):=Qu λq hq=>by obtain rfl:=ao.mp hq;exact s.le.free hp
 refine f (.ref p) (Y0 H p (.tup vs)) (Up F [(p,.tup vs)]) [] sm sF ?_ (.fz (.tup Yr (r.mono sF)));refine(s.grow sm).addF (Ku) (λq hq=>?_) (λq hq=>?_) (λq hq=>?_) λi q u hq hu=>?_
 ·obtain rfl:=ao.mp hq;exact s.le.free hp
 ·obtain rfl:=ao.mp hq;exact Yr
 ·obtain rfl:=ao.mp hq;exact s.old.free hp
 ·obtain rfl:=ao.mp hq;intro e;have e':p=u.1:=e;have z:=(s.ok i u hu).2.2;rw[<-e',hp]at z;cases z
end
theorem J2{F:Hp}{d:D}{v:V}{ns:Zr}(h:Shape K F (.fz d) v ns):Rep K F d v:=by
 cases h with
 |fz r=>exact r
section
variable{Z:Ent K}{H:Hp}{σ:St}{Q:VK}
@[simp]noncomputable def Za(i:Nat):FE:=λδ=>match δ[i]? with
 |some (aA (.fz d))=>aA (.tmp (.fz d),δ)
 |some (aA _)=>aA (.bw i,δ)
 |_=>aB
theorem Zql{i:Nat}(h:Ze Z (Za i) σ H Q):Mx i σ H Q:=by
 obtain⟨F,δ,own,rv,δ',s,e,k⟩:=h;unfold Za at e;split at e
 ·rename_i d hd;cases e;obtain⟨v,h1,h2⟩:=s.at' i _ hd;exact⟨v,h1,k v H F own (Zl.refl H) (Zl.refl F) s ⟨[],.fz (J2 h2)⟩⟩
 ·rename_i sv hsv hd;cases e;obtain⟨v,h1,h2⟩:=s.at' i _ hd;exact⟨v,h1,k v H F own (Zl.refl H) (Zl.refl F) s h1⟩
 ·cases e
@[simp]noncomputable def Zg(d:D):FE:=λδ=>some (.tmp (.fz d),δ)
theorem N3{d:D}{v:V}(hr:∀F,Rep K F d v)(h:Ze Z (Zg d) σ H Q):tC v σ H Q:=by obtain⟨F,δ,own,rv,δ',s,e,k⟩:=h;cases e;exact k v H F own (Zl.refl H) (Zl.refl F) s ⟨[],.fz (hr F)⟩
@[simp]noncomputable def Zi:FA:=λδ=>some ([],δ)
@[simp]noncomputable def Zc(fe:FE)(fa:FA):FA:=λδ=>(fe δ).bind λp=>(fa p.2).bind λq=>some (p.1::q.1,q.2)
theorem Zez{R:List V->Hp->Prop}(h:Cm Z Zi σ H R):Xs σ H R:=by obtain⟨F,δ,own,rvs,δ',s,e,k⟩:=h;cases e;exact k [] H F own (Zl.refl H) (Zl.refl F) s .nil
theorem Zci{fe:FE}{fa:FA}{R:List V->Hp->Prop}(h:Cm Z (Zc fe fa) σ H R):Kj (Ze Z fe) (Cm Z fa) σ H R:=by obtain⟨F,δ,own,rvs,δ',s,e,k⟩:=h;obtain⟨⟨rv,δ1⟩,e1,e2⟩:=aa.mp e;obtain⟨⟨rr,δ2⟩,e3,e4⟩:=aa.mp e2;cases e4;refine⟨F,δ,own,rv,δ1,s,e1,λv H1 F1 own1 sH sF s1 r1=>?_⟩;obtain⟨F2,sF2,s2,r2⟩:=s1.settleR r1;exact⟨F2,δ1,own1,rr,δ2,s2,e3,λvs H3 F3 own3 sH3 sF3 s3 r3=>k _ H3 F3 own3 (sH.trans sH3) (sF.trans (sF2.trans sF3)) s3 (.cons (r2.mono sF3) r3)⟩
@[simp]noncomputable def Ag:List RV->Wc->Option (List D)
 | [],_=>aA []
 |rv::r,δ=>(rdv rv δ).bind λd=>(Ag r δ).bind λds=>aA (d::ds)
theorem SR.rdAll{F:Hp}{δ:Wc}{own:Nat->Zr}(s:SR Z F H σ δ own):∀{rvs:List RV} {vs:List V} {ds:List D},RVSs K F σ rvs vs->Ag rvs δ=aA ds->RepNs K F H ds vs
 |_,_,_,.nil,e=>by cases e;exact .nil
 |_,_,_,.cons h t,e=>by obtain⟨d,e1,e2⟩:=aa.mp e;obtain⟨ds,e3,e4⟩:=aa.mp e2;cases e4;exact .cons (s.rd h e1) (s.rdAll t e3)
@[simp]noncomputable def Yd(g:List D->Option SV)(fa:FA):FE:=λδ=>(fa δ).bind λp=>(Ag p.1 p.2).bind λds=>(g ds).bind λsv=>some (.tmp sv,p.2)
noncomputable def Ot(Z:Ent K)(r:List V->Hp->VK->Prop)(g:List D->Option SV):Prop:=
 ∀(F H:Hp) (σ:St) (δ:Wc) (own:Nat->Zr) (vs:List V) (ds:List D) (sv:SV) (Q:VK),SR Z F H σ δ own->RepNs K F H ds vs->g ds=aA sv->Fin Z F H σ δ own sv Q->r vs H Q
theorem N4{r:List V->Hp->VK->Prop}{g:List D->Option SV}{fa:FA}(hg:Ot Z r g)(h:Ze Z (Yd g fa) σ H Q):tCB r (Cm Z fa) σ H Q:=by obtain⟨F,δ,own,rv,δ',s,e,k⟩:=h;obtain⟨⟨rvs,δ1⟩,e1,e2⟩:=aa.mp e;obtain⟨ds,e3,e4⟩:=aa.mp e2;obtain⟨sv,e5,e6⟩:=aa.mp e4;cases e6;refine⟨F,δ,own,rvs,δ1,s,e1,λvs H1 F1 own1 sH sF s1 r1=>?_⟩;exact hg F1 H1 σ δ1 own1 vs ds sv Q s1 (s1.rdAll r1 e3) e5 λv H2 F2 ns sH2 sF2 s2 t=>k v H2 F2 own1 (sH.trans sH2) (sF.trans sF2) s2 ⟨ns,t⟩
@[simp]noncomputable def g2(g:D->D->Option SV):List D->Option SV
 | [x,y]=>g x y
 |_=>aB
@[simp]noncomputable def Zn(g:D->D->Option SV)(fa fb:FE):FE:=Yd (g2 g) (Zc fa (Zc fb Zi))
noncomputable def Y6(Z:Ent K)(r:R2)(g:D->D->Option SV):Prop:=
 ∀(F H:Hp) (σ:St) (δ:Wc) (own:Nat->Zr) (x y:V) (d1 d2:D) (sv:SV) (Q:VK),SR Z F H σ δ own->Yf K F H d1 x->Yf K F H d2 y->g d1 d2=aA sv->Fin Z F H σ δ own sv Q->r x y H Q
theorem Kv{r:R2}{g:D->D->Option SV}{fa fb:FE}(hg:Y6 Z r g)(h:Ze Z (Zn g fa fb) σ H Q):tOp r (Ze Z fa) (Ze Z fb) σ H Q:=by
 have hN:Ot Z (λvs H Q=>∃x y,vs=[x,y]/\r x y H Q) (g2 g):=by
  intro F H σ δ own vs ds sv Q s rs e f;cases rs with
  |nil=>cases e
  |cons h1 t1=>
   cases t1 with
   |nil=>cases e
   |cons h2 t2=>
    cases t2 with
    |nil=>exact⟨_,_,rfl,hg F H σ δ own _ _ _ _ sv Q s h1 h2 e f⟩
    |cons h3 t3=>cases e
 obtain⟨F,δ,own,rv,δ',s,e,k⟩:=N4 hN h;obtain⟨⟨rv1,δ1⟩,e1,e2⟩:=aa.mp e;obtain⟨⟨rr,δ2⟩,e3,e4⟩:=aa.mp e2;cases e4;obtain⟨⟨rv2,δ3⟩,e5,e6⟩:=aa.mp e3;obtain⟨⟨rr',δ4⟩,e7,e8⟩:=aa.mp e6;cases e8;cases e7;refine⟨F,δ,own,rv1,δ1,s,e1,λv H1 F1 own1 sH sF s1 r1=>?_⟩;obtain⟨F2,sF2,s2,r2⟩:=s1.settleR r1;refine⟨F2,δ1,own1,rv2,δ3,s2,e5,λu H3 F3 own3 sH3 sF3 s3 r3=>?_⟩;obtain⟨F4,sF4,s4,r4⟩:=s3.settleR r3;obtain⟨x,y,exy,q⟩:=k [v,u] H3 F4 own3 (sH.trans sH3) (sF.trans (sF2.trans (sF3.trans sF4))) s4 (.cons (r2.mono (sF3.trans sF4)) (.cons r4 .nil));injection exy with ex ey
 injection ey with ey _;subst ex ey;exact q
@[simp]noncomputable def unF(g:D->Option SV)(fa:FE):FE:=Yd (λ| [x]=>g x|_=>none) (Zc fa Zi)
noncomputable def Zll(Z:Ent K)(r:V->Hp->VK->Prop)(g:D->Option SV):Prop:=
 ∀(F H:Hp) (σ:St) (δ:Wc) (own:Nat->Zr) (x:V) (d:D) (sv:SV) (Q:VK),SR Z F H σ δ own->Yf K F H d x->g d=aA sv->Fin Z F H σ δ own sv Q->r x H Q
theorem Ztz{r:V->Hp->VK->Prop}{g:D->Option SV}{fa:FE}(hg:Zll Z r g)(h:Ze Z (unF g fa) σ H Q):tUn r (Ze Z fa) σ H Q:=by obtain⟨F,δ,own,rv,δ',s,e,k⟩:=h;obtain⟨⟨rvs,δ1⟩,e1,e2⟩:=aa.mp e;obtain⟨ds,e3,e4⟩:=aa.mp e2;obtain⟨sv,e5,e6⟩:=aa.mp e4;cases e6;obtain⟨⟨rv1,δ2⟩,e7,e8⟩:=aa.mp e1;obtain⟨⟨rr',δ4⟩,e9,e10⟩:=aa.mp e8;cases e10;cases e9;obtain⟨d,e11,e12⟩:=aa.mp e3;cases e12;refine⟨F,δ,own,rv1,δ2,s,e7,λv H1 F1 own1 sH sF s1 r1=>?_⟩;obtain⟨F2,sF2,s2,r2⟩:=s1.settleR r1;exact hg F2 H1 σ δ2 own1 v d sv Q s2 (s2.rd r2 e11) e5 λv H2 F2' ns sH2 sF2' s2 t=>k v H2 F2' own1 (sH.trans sH2) (sF.trans (sF2.trans sF2')) s2 ⟨ns,t⟩
@[simp]noncomputable def Zo:FD:=λδ=>some ([],δ)
@[simp]noncomputable def Zh(fe:FE)(fd:FD):FD:=λδ=>(fe δ).bind λp=>(frz p.1 p.2).bind λq=>(fd q.2).bind λr=>some (q.1::r.1,r.2)
theorem Kw{R:List V->Hp->Prop}(h:Qd Z Zo σ H R):Xs σ H R:=by obtain⟨F,δ,own,rvs,δ',s,e,k⟩:=h;cases e;exact k [] H F own (Zl.refl H) (Zl.refl F) s .nil
theorem El{fe:FE}{fd:FD}{R:List V->Hp->Prop}(h:Qd Z (Zh fe fd) σ H R):Kj (Ze Z fe) (Qd Z fd) σ H R:=by obtain⟨F,δ,own,rvs,δ',s,e,k⟩:=h;obtain⟨⟨rv,δ1⟩,e1,e2⟩:=aa.mp e;obtain⟨⟨d,δ2⟩,e3,e4⟩:=aa.mp e2;obtain⟨⟨ds,δ3⟩,e5,e6⟩:=aa.mp e4;cases e6;refine⟨F,δ,own,rv,δ1,s,e1,λv H1 F1 own1 sH sF s1 r1=>?_⟩;obtain⟨F2,sF2,s2,r2⟩:=s1.settleR r1;obtain⟨F3,own3,sF3,s3,r3⟩:=s2.frzR r2 e3;exact⟨F3,δ2,own3,ds,δ3,s3,e5,λvs H4 F4 own4 sH4 sF4 s4 r4=>k _ H4 F4 own4 (sH.trans sH4) (sF.trans (sF2.trans (sF3.trans sF4))) s4 (.cons (r3.mono sF4) r4)⟩
@[simp]noncomputable def tupF(fd:FD):FE:=λδ=>(fd δ).bind λp=>if p.1.length<=cx then some (.tmp (.fz (.tup p.1)),p.2)else none
@[simp]noncomputable def Ji(fd:FD):FE:=λδ=>(fd δ).bind λp=>if p.1.length<=cx then some (.tmp (.ol p.1),p.2)else none
theorem Zqm{fd:FD}(h:Ze Z (tupF fd) σ H Q):Zp6 (Qd Z fd) σ H Q:=by
 obtain⟨F,δ,own,rv,δ',s,e,k⟩:=h;obtain⟨⟨ds,δ1⟩,e1,e2⟩:=aa.mp e;by_cases hz:ds.length<=cx
 ·rw[if_pos hz]at e2;cases e2;refine⟨F,δ,own,ds,δ1,s,e1,λvs H1 F1 own1 sH sF s1 r1=>⟨by rw[<-r1.length];exact hz,λp hp=>?_⟩⟩;exact Fin.tup (λv H2 F2 ns a b c t=>k v H2 F2 own1 (sH.trans a) (sF.trans b) c ⟨ns,t⟩) s1 r1 hp
 ·rw[if_neg hz]at e2;cases e2
theorem Zqn{fd:FD}(h:Ze Z (Ji fd) σ H Q):Zm4 (Qd Z fd) σ H Q:=by
 obtain⟨F,δ,own,rv,δ',s,e,k⟩:=h;obtain⟨⟨ds,δ1⟩,e1,e2⟩:=aa.mp e;by_cases hz:ds.length<=cx
 ·rw[if_pos hz]at e2;cases e2;refine⟨F,δ,own,ds,δ1,s,e1,λvs H1 F1 own1 sH sF s1 r1=>⟨by rw[<-r1.length];exact hz,λp hp=>?_⟩⟩;exact Fin.lst (λv H2 F2 ns a b c t=>k v H2 F2 own1 (sH.trans a) (sF.trans b) c ⟨ns,t⟩) s1 r1 hp
 ·rw[if_neg hz]at e2;cases e2
end
@[simp]noncomputable def SV.scal:SV->Bool
 | .fz .non=>aC
 | .fz (.bl _)=>aC
 | .fz (.int _)=>aC
 | .fz (.str _)=>aC
 |_=>aD
noncomputable def Y5(K:ah)(n:Nat)(g:List D->Option SV):Sp:=λvs H Q _=>∃F ds sv,Zl F H/\Reps K F ds vs/\ds.length=n/\g ds=aA sv/\
 ∀v H' F' ns,Zl H H'->Zl F F'->Zl F' H'->(∀(b:au) (o:HO),F' b=aA o->F b=aA o\/H b=aB)->Shape K F' sv v ns->(T8 ns).Nodup->(∀p∈ns,F' p.1=aB/\H p.1=aB/\H' p.1=aA p.2)->Q v H'
@[simp]noncomputable def frzAll:List RV->Wc->Option (List D×Wc)
 | [],δ=>aA ([],δ)
 |rv::r,δ=>(frz rv δ).bind λp=>(frzAll r p.2).bind λq=>aA (p.1::q.1,q.2)
theorem RVSs.mono{F F':Hp}{σ:St}(s:Zl F F'){rvs:List RV}{vs:List V}(h:RVSs K F σ rvs vs):RVSs K F' σ rvs vs:=by
 induction h with
 |nil=>exact .nil
 |cons h _ ih=>exact .cons (h.mono s) ih
section
variable{Z:Ent K}{H:Hp}{σ:St}{Q:VK}
theorem SR.frzAll{F:Hp}{δ:Wc}{own:Nat->Zr}:∀{rvs:List RV} {vs:List V} {ds:List D} {δ':Wc} {F:Hp} {δ:Wc} {own:Nat->Zr},SR Z F H σ δ own->RVSs K F σ rvs vs->DL.frzAll rvs δ=aA (ds,δ')->
  ∃F1 own1,Zl F F1/\SR Z F1 H σ δ' own1/\Reps K F1 ds vs
 |_,_,_,_,F,_,own,s,.nil,e=>by cases e;exact⟨F,own,Zl.refl F,s,.nil⟩
 |_,_,_,_,F,_,own,s,.cons h t,e=>by obtain⟨⟨d,δ1⟩,e1,e2⟩:=aa.mp e;obtain⟨⟨ds,δ2⟩,e3,e4⟩:=aa.mp e2;cases e4;obtain⟨F1,own1,sF1,s1,r1⟩:=s.frzR h e1;obtain⟨F2,own2,sF2,s2,r2⟩:=SR.frzAll (own:=own) (F:=F) (δ:=δ1) s1 (t.mono sF1) e3;exact⟨F2,own2,sF1.trans sF2,s2,.cons (r1.mono sF2) r2⟩
@[simp]noncomputable def Yu(n:Nat)(g:List D->Option SV)(fa:FA):FE:=λδ=>(fa δ).bind λp=>(DL.frzAll p.1 p.2).bind λq=>if q.1.length=n then(g q.1).bind λsv=>some (.tmp sv,if sv.scal then p.2 else q.2)else none
theorem Ze0{F F':Hp}{sv:SV}{v:V}{ns:Zr}(h:sv.scal=aC)(sh:Shape K F sv v ns):ns=[]/\Shape K F' sv v []:=by
 cases sh with
 |fz r=>
  refine⟨rfl,.fz ?_⟩;cases r with
  |non=>exact .non
  |bl b=>exact .bl b
  |int i=>exact .int i
  |str x=>exact .str x
  |tup _ _=>cases h
  |lst _ _ _=>cases h
  |dK _ _ _=>cases h
  |dT _ _ _ _=>cases h
  |exc _ _=>cases h
  |dX _ _ _ _=>cases h
  |exd _ _ _ _ _=>cases h
 |ol _=>cases h
 |oK _ _=>cases h
 |oT _ _ _=>cases h
 |oN _ _=>cases h
 |oX _ _ _=>cases h
 |oD _=>cases h
 |oM _ _ _=>cases h
 |oL _ _=>cases h
 |oQ _ _=>cases h
theorem Znj{n:Nat}{g:List D->Option SV}{fa:FA}{E:XK}(h:Ze Z (Yu n g fa) σ H Q):Zle (Y5 K n g) [] E (Cm Z fa) σ H Q:=by
 obtain⟨F,δ,own,rv,δ',s,e,k⟩:=h;obtain⟨⟨rvs,δ1⟩,e1,e2⟩:=aa.mp e;obtain⟨⟨ds,δ2⟩,e3,e4⟩:=aa.mp e2;by_cases hn:ds.length=n
 ·rw[if_pos hn]at e4;obtain⟨sv,e5,e6⟩:=aa.mp e4;refine⟨F,δ,own,rvs,δ1,s,e1,λvs H1 F1 own1 sH sF s1 r1=>?_⟩;obtain⟨F2,own2,sF2,s2,r2⟩:=s1.frzAll (own:=own) (F:=F) (δ:=δ) r1 e3;rw[List.append_nil];refine⟨F2,ds,sv,s2.le,r2,hn,e5,λv H3 F3 ns sH3 sF3 le3 fro3 sh nd ok=>?_⟩;by_cases hs:sv.scal=aC
  ·rw[if_pos hs]at e6;cases e6;obtain⟨_,sh'⟩:=Ze0 (F':=F1) hs sh;exact k v H3 F1 own1 (sH.trans sH3) sF (s1.grow sH3) ⟨[],sh',cm,λ_ h=>(nomatch h),λ_ _ _ h=>(nomatch h)⟩
  ·rw[if_neg hs]at e6;cases e6;have s3:SR Z F3 H3 σ δ2 own2:=by
    refine⟨le3,λb o e=>?_,s2.old.trans sH3,s2.len,λi sw ei=>?_,s2.nod,λi p hp=>?_,s2.sep⟩
    ·rcases fro3 b o e with z|z
     ·exact s2.fro b o z
     ·exact .inr (s2.old.free z)
    ·obtain⟨w,h1,h2⟩:=s2.at' i sw ei;exact⟨w,h1,h2.mono sF3⟩
    ·obtain⟨a,b,c⟩:=s2.ok i p hp;refine⟨?_,b,sH3 _ _ c⟩;cases z:F3 p.1 with
     |none=>rfl
     |some u=>
      rcases fro3 _ u z with y|y
      ·rw[a]at y;cases y
      ·rw[c]at y;cases y
   exact k v H3 F3 own2 (sH.trans sH3) (sF.trans (sF2.trans sF3)) s3 ⟨ns,sh,nd,λp hp=>⟨(ok p hp).1,(s2.old).free (ok p hp).2.1,(ok p hp).2.2⟩,λi p q hp hq e=>by
    have z:=(s2.ok i q hq).2.2;rw[<-e,(ok p hp).2.1]at z;cases z⟩
 ·rw[if_neg hn]at e4;cases e4
end
end DL
namespace DL
open PySem L2
variable{K:ah}
section
variable{Z:Ent K}{H:Hp}{σ:St}{R:Bool->Hp->Prop}{Q:VK}
@[simp]noncomputable def Yy(fe:FE):FT:=λδ=>(fe δ).bind λp=>match p.1 with
 | .tmp (.fz (.bl b))=>aA (b,p.2)
 |_=>aB
theorem X6{fe:FE}(h:Ym Z (Yy fe) σ H R):Zlc (Ze Z fe) σ H R:=by
 obtain⟨F,δ,own,b,δ',s,e,k⟩:=h;obtain⟨⟨rv,δ1⟩,e1,e2⟩:=aa.mp e;refine⟨F,δ,own,rv,δ1,s,e1,λv H1 F1 own1 sH sF s1 r1=>?_⟩;dsimp only at e2;split at e2
 ·cases e2;obtain⟨ns,t⟩:=r1;cases J2 t.sh;exact⟨_,rfl,k H1 F1 own1 sH sF s1⟩
 ·cases e2
theorem Zi3{fe:FE}(h:Ym Z (Yy fe) σ H R):tB (Ze Z fe) σ H R:=X6 h
@[simp]noncomputable def Znk(f g:FT):FT:=λδ=>(f δ).bind λp=>if p.1=true then g p.2 else some (false,p.2)
@[simp]noncomputable def orF(f g:FT):FT:=λδ=>(f δ).bind λp=>if p.1=true then some (true,p.2)else g p.2
@[simp]noncomputable def Zi4(f:FT):FT:=λδ=>(f δ).bind λp=>some (!p.1,p.2)
theorem Zqo{f g:FT}(h:Ym Z (Znk f g) σ H R):Zpp (Ym Z f) (Ym Z g) σ H R:=by
 obtain⟨F,δ,own,b,δ',s,e,k⟩:=h;obtain⟨⟨c,δ1⟩,e1,e2⟩:=aa.mp e;refine⟨F,δ,own,c,δ1,s,e1,λH1 F1 own1 sH sF s1=>?_⟩;cases c with
 |true=>rw[if_pos rfl]at e2⊢;exact⟨F1,δ1,own1,b,δ',s1,e2,λH2 F2 own2 a c d=>k H2 F2 own2 (sH.trans a) (sF.trans c) d⟩
 |false=>rw[if_neg bj]at e2⊢;cases e2;exact k H1 F1 own1 sH sF s1
theorem Zt0{f g:FT}(h:Ym Z (orF f g) σ H R):tOr (Ym Z f) (Ym Z g) σ H R:=by
 obtain⟨F,δ,own,b,δ',s,e,k⟩:=h;obtain⟨⟨c,δ1⟩,e1,e2⟩:=aa.mp e;refine⟨F,δ,own,c,δ1,s,e1,λH1 F1 own1 sH sF s1=>?_⟩;cases c with
 |true=>rw[if_pos rfl]at e2⊢;cases e2;exact k H1 F1 own1 sH sF s1
 |false=>rw[if_neg bj]at e2⊢;exact⟨F1,δ1,own1,b,δ',s1,e2,λH2 F2 own2 a c d=>k H2 F2 own2 (sH.trans a) (sF.trans c) d⟩
theorem Zqp{f:FT}(h:Ym Z (Zi4 f) σ H R):Zpq (Ym Z f) σ H R:=by obtain⟨F,δ,own,b,δ',s,e,k⟩:=h;obtain⟨⟨c,δ1⟩,e1,e2⟩:=aa.mp e;cases e2;exact⟨F,δ,own,c,δ1,s,e1,k⟩
@[simp]noncomputable def orV(f g:FE):FE:=λδ=>(Yy f δ).bind λp=>if p.1=true then some (.tmp (.fz (.bl true)),p.2)else g p.2
theorem Zqq{F:Hp}{own:Nat->Zr}{b:Bool}:D9 Z F H σ own (.tmp (.fz (.bl b))) (.bl b):=⟨[],.fz (.bl b)⟩
theorem Zqr{f g:FE}(h:Ze Z (orV f g) σ H Q):Zps (Ze Z f) (Ze Z g) σ H Q:=by
 obtain⟨F,δ,own,rv,δ',s,e,k⟩:=h;obtain⟨⟨c,δ1⟩,e1,e2⟩:=aa.mp e;refine X6 ⟨F,δ,own,c,δ1,s,e1,λH1 F1 own1 sH sF s1=>?_⟩;cases c with
 |true=>rw[if_pos rfl]at e2⊢;cases e2;exact k _ H1 F1 own1 sH sF s1 Zqq
 |false=>rw[if_neg bj]at e2⊢;exact⟨F1,δ1,own1,rv,δ',s1,e2,λv H2 F2 own2 a c d=>k v H2 F2 own2 (sH.trans a) (sF.trans c) d⟩
end
inductive Fl where
 |nx (δ:Wc)|bk (δ:Wc)|ct (δ:Wc)|rt (sv:SV)|ex (e:Exn) (δ:Wc)
noncomputable abbrev FS:=Wc->Option Fl
noncomputable def N5(Z:Ent K)(F:Hp)(D:Ends):Fl->Prop
 | .nx δ=>∀σ' H' F' own',Zl F F'->SR Z F' H' σ' δ own'->D.nx σ' H'
 | .bk δ=>∀σ' H' F' own',Zl F F'->SR Z F' H' σ' δ own'->D.bk σ' H'
 | .ct δ=>∀σ' H' F' own',Zl F F'->SR Z F' H' σ' δ own'->D.ct σ' H'
 | .rt sv=>∀v H' F' ns,Zl F F'->Zl F' H'->(∀(b:au) (o:HO),F' b=aA o->Z.f b=aA o\/Z.h b=aB)->Zl Z.h H'->Shape K F' sv v ns->(T8 ns).Nodup->
   (∀p∈ns,F' p.1=aB/\Z.h p.1=aB/\H' p.1=aA p.2)->D.rt v H'
 | .ex x δ=>∀σ' H' F' own' cls od,Zl F F'->SR Z F' H' σ' δ own'->Znh K F' x cls od->Z.x cls od σ' H'
theorem N5.mono{Z:Ent K}{F F':Hp}{D:Ends}(s:Zl F F'):∀{fl:Fl},N5 Z F D fl->N5 Z F' D fl
 | .nx _,h=>λσ' H' F2 own' a b=>h σ' H' F2 own' (s.trans a) b
 | .bk _,h=>λσ' H' F2 own' a b=>h σ' H' F2 own' (s.trans a) b
 | .ct _,h=>λσ' H' F2 own' a b=>h σ' H' F2 own' (s.trans a) b
 | .rt _,h=>λv H' F2 ns a=>h v H' F2 ns (s.trans a)
 | .ex _ _,h=>λσ' H' F2 own' cls od a=>h σ' H' F2 own' cls od (s.trans a)
noncomputable def Z9(Z:Ent K)(f:FS):TS:=λD σ H=>∃F δ own fl,SR Z F H σ δ own/\f δ=aA fl/\N5 Z F D fl
section
variable{Z:Ent K}{H:Hp}{σ:St}{E:Ends}
@[simp]noncomputable def Uj:FS:=λδ=>some (.nx δ)
theorem Znl(h:Z9 Z Uj E σ H):Zk8 E σ H:=by obtain⟨F,δ,own,fl,s,e,k⟩:=h;cases e;exact k σ H F own (Zl.refl F) s
@[simp]noncomputable def Z1(f g:FS):FS:=λδ=>(f δ).bind fun
 | .nx δ'=>g δ'
 |fl=>aA fl
theorem Zqs{f g:FS}(h:Z9 Z (Z1 f g) E σ H):Zpu (Z9 Z f) (Z9 Z g) E σ H:=by
 obtain⟨F,δ,own,fl,s,e,k⟩:=h;obtain⟨f1,e1,e2⟩:=aa.mp e;refine⟨F,δ,own,f1,s,e1,?_⟩;cases f1 with
 |nx δ1=>exact λσ' H' F' own' sF s'=>⟨F',δ1,own',fl,s',e2,k.mono sF⟩
 |bk δ1=>cases e2;exact k
 |ct δ1=>cases e2;exact k
 |rt sv=>cases e2;exact k
 |ex x δ1=>cases e2;exact k
@[simp]noncomputable def Xk(t:FT)(f g:FS):FS:=λδ=>(t δ).bind λp=>if p.1=true then f p.2 else g p.2
theorem Zqt{t:FT}{f g:FS}(h:Z9 Z (Xk t f g) E σ H):Zpv (Ym Z t) (Z9 Z f) (Z9 Z g) E σ H:=by
 obtain⟨F,δ,own,fl,s,e,k⟩:=h;obtain⟨⟨c,δ1⟩,e1,e2⟩:=aa.mp e;refine⟨F,δ,own,c,δ1,s,e1,λH1 F1 own1 sH sF s1=>?_⟩;cases c with
 |true=>rw[if_pos rfl]at e2⊢;exact⟨F1,δ1,own1,fl,s1,e2,k.mono sF⟩
 |false=>rw[if_neg bj]at e2⊢;exact⟨F1,δ1,own1,fl,s1,e2,k.mono sF⟩
@[simp]noncomputable def Zt2:RV->Wc->Option SV
 | .tmp sv,_=>aA sv
 | .bw i,δ=>δ[i]?.join
@[simp]noncomputable def Je(fe:FE):FS:=λδ=>(fe δ).bind λp=>(Zt2 p.1 p.2).bind λsv=>some (.rt sv)
theorem Zqu{fe:FE}(h:Z9 Z (Je fe) E σ H):Zmw (Ze Z fe) E σ H:=by
 obtain⟨F,δ,own,fl,s,e,k⟩:=h;obtain⟨⟨rv,δ1⟩,e1,e2⟩:=aa.mp e;obtain⟨sv,e3,e4⟩:=aa.mp e2;cases e4;refine⟨F,δ,own,rv,δ1,s,e1,λv H1 F1 own1 sH sF s1 r1=>?_⟩;cases rv with
 |tmp sw=>cases e3;obtain⟨ns,t⟩:=r1;exact k v H1 F1 ns sF s1.le s1.fro s1.old t.sh t.nd t.ok
 |bw i=>obtain⟨w,h1,h2⟩:=s1.at' i sv (Bh e3);have r1':σ[i]? =aA (aA v):=r1;rw[r1']at h1;cases h1;exact k v H1 F1 (own1 i) sF s1.le s1.fro s1.old h2 (s1.nod i) (s1.ok i)
@[simp]noncomputable def stow(i:Nat):RV->Wc->Option Wc
 | .tmp sv,δ=>if i<δ.length then aA (δ.set i (aA sv))else aB
 | .bw j,δ=>(frz (.bw j) δ).bind λp=>if i<p.2.length then aA (p.2.set i (aA (.fz p.1)))else aB
theorem SR.stow{F:Hp}{δ δ':Wc}{own:Nat->Zr}{i:Nat}{rv:RV}{v:V}(s:SR Z F H σ δ own)(r:D9 Z F H σ own rv v)(e:DL.stow i rv δ=aA δ'):∃F' own',Zl F F'/\SR Z F' H (σ.set i (aA v)) δ' own':=by
 cases rv with
 |tmp sv=>
  obtain⟨ns,t⟩:=r;have e:(if i<δ.length then aA (δ.set i (aA sv))else aB)=aA δ':=e;by_cases hi:i<δ.length
  ·rw[if_pos hi]at e;cases e;exact⟨F,_,Zl.refl F,s.store t (by rw[s.len];exact hi)⟩
  ·rw[if_neg hi]at e;cases e
 |bw j=>
  obtain⟨⟨d,δ1⟩,e1,e2⟩:=aa.mp e;obtain⟨F1,own1,sF,s1,r1⟩:=s.frzR (rv:=.bw j) (v:=v) r e1;by_cases hi:i<δ1.length
  ·rw[if_pos hi]at e2;cases e2;exact⟨F1,_,sF,s1.store (.fz r1) (by rw[s1.len];exact hi)⟩
  ·rw[if_neg hi]at e2;cases e2
@[simp]noncomputable def Yt(i:Nat)(fe:FE):FS:=λδ=>(fe δ).bind λp=>(stow i p.1 p.2).bind λδ'=>some (.nx δ')
theorem Zlm{i:Nat}{fe:FE}(h:Z9 Z (Yt i fe) E σ H):Zb3 (Ze Z fe) (Eb i) E σ H:=by obtain⟨F,δ,own,fl,s,e,k⟩:=h;obtain⟨⟨rv,δ1⟩,e1,e2⟩:=aa.mp e;obtain⟨δ2,e3,e4⟩:=aa.mp e2;cases e4;refine⟨F,δ,own,rv,δ1,s,e1,λv H1 F1 own1 sH sF s1 r1=>?_⟩;obtain⟨F2,own2,sF2,s2⟩:=s1.stow r1 e3;exact k _ H1 F2 own2 (sF.trans sF2) s2
set_option genInjectivity false in
structure FG where
 run:D->Wc->Option Wc
 tch:List Nat
set_option genInjectivity false in
structure FGs where
 run:List D->Wc->Option Wc
 tch:List Nat
noncomputable def Cn(Z:Ent K)(g:FG):TG:=λv σ H Q=>∃F δ own d δ',SR Z F H σ δ own/\Rep K F d v/\g.run d δ=aA δ'/\∀σ' own',SR Z F H σ' δ' own'->(∀j:Nat,j∉g.tch->σ'[j]? =σ[j]?)->Q σ' H
noncomputable def Cu(Z:Ent K)(g:FGs):TGs:=λvs σ H Q=>∃F δ own ds δ',SR Z F H σ δ own/\Reps K F ds vs/\g.run ds δ=aA δ'/\∀σ' own',SR Z F H σ' δ' own'->(∀j:Nat,j∉g.tch->σ'[j]? =σ[j]?)->Q σ' H
noncomputable def Zd(i:Nat):FG:=⟨λd δ=>if i<δ.length then aA (δ.set i (aA (.fz d)))else aB,[i]⟩
theorem Zi5{i:Nat}{v:V}{Q:St->Hp->Prop}(h:Cn Z (Zd i) v σ H Q):Eb i v σ H Q:=by
 obtain⟨F,δ,own,d,δ',s,r,e,k⟩:=h;have e:(if i<δ.length then aA (δ.set i (aA (.fz d)))else aB)=aA δ':=e;by_cases hi:i<δ.length
 ·rw[if_pos hi]at e;cases e;exact k _ _ (s.store (.fz r) (by rw[s.len];exact hi)) λj hj=>f7 λz=>hj (by rw[z];exact ad)
 ·rw[if_neg hi]at e;cases e
noncomputable def Wg:FGs:=⟨λds δ=>match ds with
 | []=>aA δ
 |_=>aB,[]⟩
noncomputable def Zs(g:FG)(r:FGs):FGs:=⟨λds δ=>match ds with
 |d::t=>(g.run d δ).bind λδ1=>r.run t δ1
 | []=>aB,g.tch++r.tch⟩
@[simp]theorem Zpd(i:Nat)(d:D)(δ:Wc):(Zd i).run d δ=if i<δ.length then some (δ.set i (some (.fz d)))else none:=rfl
@[simp]theorem Zqv(δ:Wc):Wg.run [] δ=some δ:=rfl
@[simp]theorem Zpe(g:FG)(r:FGs)(d:D)(t:List D)(δ:Wc):(Zs g r).run (d::t) δ=(g.run d δ).bind λδ1=>r.run t δ1:=rfl
theorem Znm{vs:List V}{Q:St->Hp->Prop}(h:Cu Z Wg vs σ H Q):Zpx vs σ H Q:=by
 obtain⟨F,δ,own,ds,δ',s,r,e,k⟩:=h;cases r with
 |nil=>cases e;exact⟨rfl,k σ own s λ_ _=>rfl⟩
 |cons h t=>cases e
theorem Zi6{g:FG}{r:FGs}{vs:List V}{Q:St->Hp->Prop}(h:Cu Z (Zs g r) vs σ H Q):Zk9 (Cn Z g) (Cu Z r) vs σ H Q:=by
 obtain⟨F,δ,own,ds,δ',s,rr,e,k⟩:=h;cases rr with
 |nil=>cases e
 |cons h t=>obtain⟨δ1,e1,e2⟩:=aa.mp e;exact⟨_,_,rfl,F,δ,own,_,δ1,s,h,e1,λσ1 own1 s1 t1=>⟨F,δ1,own1,_,δ',s1,t,e2,λσ2 own2 s2 t2=>k σ2 own2 s2 λj hj=>(t2 j λz=>hj (bq _ z)).trans (t1 j λz=>hj (b7 _ z))⟩⟩
noncomputable def We(n:Nat)(g:FGs):FG:=⟨λd δ=>match d with
 | .tup xs=>if xs.length=n then g.run xs δ else aB
 |_=>aB,g.tch⟩
@[simp]theorem Zqw(n:Nat)(g:FGs)(xs:List D)(δ:Wc):(We n g).run (.tup xs) δ=if xs.length=n then g.run xs δ else none:=rfl
theorem Znn{n:Nat}{g:FGs}{v:V}{Q:St->Hp->Prop}(h:Cn Z (We n g) v σ H Q):Zpy K n (Cu Z g) v σ H Q:=by
 obtain⟨F,δ,own,d,δ',s,r,e,k⟩:=h;dsimp only[We]at e;split at e
 ·rename_i xs;by_cases hn:xs.length=n
  ·rw[if_pos hn]at e;cases r with
   |tup h r=>exact⟨_,_,rfl,Qi s.le (G8 h),by rw[<-r.length];exact hn,F,δ,own,_,δ',s,r,e,k⟩
  ·rw[if_neg hn]at e;cases e
 ·cases e
@[simp]noncomputable def R1(g:FG)(fe:FE):FS:=λδ=>(fe δ).bind λp=>(frz p.1 p.2).bind λq=>(g.run q.1 q.2).bind λδ'=>some (.nx δ')
theorem Ze1{g:FG}{fe:FE}(h:Z9 Z (R1 g fe) E σ H):Zb3 (Ze Z fe) (Cn Z g) E σ H:=by obtain⟨F,δ,own,fl,s,e,k⟩:=h;obtain⟨⟨rv,δ1⟩,e1,e2⟩:=aa.mp e;obtain⟨⟨d,δ2⟩,e3,e4⟩:=aa.mp e2;obtain⟨δ3,e5,e6⟩:=aa.mp e4;cases e6;refine⟨F,δ,own,rv,δ1,s,e1,λv H1 F1 own1 sH sF s1 r1=>?_⟩;obtain⟨F2,sF2,s2,r2⟩:=s1.settleR r1;obtain⟨F3,own3,sF3,s3,r3⟩:=s2.frzR r2 e3;exact⟨F3,δ2,own3,d,δ3,s3,r3,e5,λσ' own' s' _=>k σ' H1 F3 own' (sF.trans (sF2.trans sF3)) s'⟩
@[simp]noncomputable def Z0(tg:FG)(body:FS):List D->Wc->Option Fl
 | [],δ=>aA (.nx δ)
 |d::ds,δ=>(tg.run d δ).bind λδ1=>(body δ1).bind fun
  | .nx δ2=>Z0 tg body ds δ2
  | .ct δ2=>Z0 tg body ds δ2
  | .bk δ2=>aA (.nx δ2)
  | .rt sv=>aA (.rt sv)
  | .ex x δ2=>aA (.ex x δ2)
noncomputable def U2(K:ah)(J:It)(F:Hp)(ds:List D):Prop:=∀F' H,Zl F F'->Zl F' H->∀i:Nat,
 (∀d,ds[i]? =aA d->J.go i H/\∀x H',J.yld i H x H'->Zl H H'/\∃ns,(T8 ns).Nodup/\(∀p∈ns,H p.1=aB/\H' p.1=aA p.2)/\Rep K (Up F' ns) d x)/\(ds.length<=i->J.stop i H)
noncomputable def Qj(Z:Ent K)(f:FD):TI:=λσ H R=>∃F δ own ds δ',SR Z F H σ δ own/\f δ=aA (ds,δ')/\
 ∀J H' F' own',Zl H H'->Zl F F'->SR Z F' H' σ δ' own'->U2 K J F' ds->R J H'
@[simp]noncomputable def Qr(fi:FD)(tg:FG)(body:FS):FS:=λδ=>(fi δ).bind λp=>Z0 tg body p.1 p.2
theorem SR.fresh{F H':Hp}{δ:Wc}{own:Nat->Zr}{ns:Zr}(s:SR Z F H σ δ own)(sm:Zl H H')(nd:(T8 ns).Nodup)(h:∀p∈ns,H p.1=aB/\H' p.1=aA p.2):Zl F (Up F ns)/\SR Z (Up F ns) H' σ δ own:=by refine⟨Qu λp hp=>s.le.free (h p hp).1,(s.grow sm).addF nd (λp hp=>s.le.free (h p hp).1) (λp hp=>(h p hp).2) (λp hp=>s.old.free (h p hp).1) λi p q hp hq e=>?_⟩;have z:=(s.ok i q hq).2.2;rw[<-e,(h p hp).1]at z;cases z
theorem Zqx{fi:FD}{tg:FG}{body:FS}(h:Z9 Z (Qr fi tg body) E σ H):Zpz (Qj Z fi) (Cn Z tg) (Z9 Z body) E σ H:=by
 obtain⟨F,δ,own,fl,s,e,k⟩:=h;obtain⟨⟨ds,δ1⟩,e1,e2⟩:=aa.mp e;refine⟨F,δ,own,ds,δ1,s,e1,λJ H1 F1 own1 sH sF s1 yl=>?_⟩;refine⟨λi m σ H=>m=ds.length- i/\i<=ds.length/\∃F δ own,Zl F1 F/\SR Z F H σ δ own/\Z0 tg body (ds.drop i) δ=aA fl,⟨ds.length,by simp,fu _,F1,δ1,own1,Zl.refl F1,s1,e2⟩,?_⟩;rintro i m σ' H' ⟨rfl,hi,F2,δ2,own2,sF2,s2,ef⟩;by_cases hlt:i<ds.length
 ·have hd:ds[i]? =aA ds[i]:=by simp[hlt]
  obtain⟨go,yy⟩:=(yl F2 H' sF2 s2.le i).1 _ hd;rw[List.drop_eq_getElem_cons hlt]at ef;obtain⟨δ3,e3,e4⟩:=aa.mp ef;obtain⟨f1,e5,e6⟩:=aa.mp e4;refine .inr ⟨go,λσ4 H4=>∃F δ own,Zl F1 F/\SR Z F H4 σ4 δ own/\Z0 tg body (ds.drop (i+1)) δ=aA fl,λσ4 H4 ⟨F4,δ4,own4,a,b,c⟩=>⟨ds.length- (i+1),by omega,rfl,hlt,F4,δ4,own4,a,b,c⟩,λx H3 hy=>?_⟩;obtain⟨sm,ns,nd,hn,rp⟩:=yy x H3 hy;obtain⟨sFn,sn⟩:=s2.fresh sm nd hn;refine⟨Up F2 ns,δ2,own2,_,δ3,sn,rp,e3,λσ5 own5 s5 _=>⟨Up F2 ns,δ3,own5,f1,s5,e5,?_⟩⟩;cases f1 with
  |nx δ6=>exact λσ6 H6 F6 own6 a b=>⟨F6,δ6,own6,sF2.trans (sFn.trans a),b,e6⟩
  |ct δ6=>exact λσ6 H6 F6 own6 a b=>⟨F6,δ6,own6,sF2.trans (sFn.trans a),b,e6⟩
  |bk δ6=>cases e6;exact λσ6 H6 F6 own6 a b=>k σ6 H6 F6 own6 (sF.trans (sF2.trans (sFn.trans a))) b
  |rt sv=>cases e6;exact λv H6 F6 ns6 a=>k v H6 F6 ns6 (sF.trans (sF2.trans (sFn.trans a)))
  |ex x δ6=>cases e6;exact λσ6 H6 F6 own6 cls od a=>k σ6 H6 F6 own6 cls od (sF.trans (sF2.trans (sFn.trans a)))
 ·have hz:i=ds.length:=by omega
  subst hz;rw[List.drop_length]at ef;cases ef;exact .inl ⟨(yl F2 H' sF2 s2.le _).2 (az _),k σ' H' F2 own2 (sF.trans sF2) s2⟩
noncomputable def U3(t:FT)(body:FS):Nat->Wc->Option Fl
 |0,_=>aB
 |n+1,δ=>(t δ).bind λp=>if p.1=aC then(body p.2).bind (fun
  | .nx δ2=>U3 t body n δ2
  | .ct δ2=>U3 t body n δ2
  | .bk δ2=>aA (.nx δ2)
  | .rt sv=>aA (.rt sv)
  | .ex x δ2=>aA (.ex x δ2))else aA (.nx p.2)
theorem Zi7{n:Nat}{t:FT}{body:FS}(h:Z9 Z (U3 t body n) E σ H):Zd6 (Ym Z t) (Z9 Z body) E σ H:=by
 obtain⟨F,δ,own,fl,s,e,k⟩:=h;refine⟨λm σ H=>∃F2 δ own,Zl F F2/\SR Z F2 H σ δ own/\U3 t body m δ=aA fl,⟨n,F,δ,own,Zl.refl F,s,e⟩,?_⟩;rintro m σ1 H1 ⟨F1,δ1,own1,sF1,s1,e1⟩;cases m with
 |zero=>cases e1
 |succ m=>
  obtain⟨⟨c,δ2⟩,e2,e3⟩:=aa.mp e1;refine⟨F1,δ1,own1,c,δ2,s1,e2,λH2 F2 own2 sH sF2 s2=>?_⟩;cases c with
  |false=>rw[if_neg bj]at e3⊢;cases e3;exact k σ1 H2 F2 own2 (sF1.trans sF2) s2
  |true=>
   rw[if_pos rfl]at e3⊢;obtain⟨f1,e4,e5⟩:=aa.mp e3;refine⟨λσ' H'=>∃F2 δ own,Zl F F2/\SR Z F2 H' σ' δ own/\U3 t body m δ=aA fl,λσ' H' w=>⟨m,Nat.lt_succ_self m,w⟩,F2,δ2,own2,f1,s2,e4,?_⟩;cases f1 with
   |nx δ6=>exact λσ6 H6 F6 own6 a b=>⟨F6,δ6,own6,sF1.trans (sF2.trans a),b,e5⟩
   |ct δ6=>exact λσ6 H6 F6 own6 a b=>⟨F6,δ6,own6,sF1.trans (sF2.trans a),b,e5⟩
   |bk δ6=>cases e5;exact λσ6 H6 F6 own6 a b=>k σ6 H6 F6 own6 (sF1.trans (sF2.trans a)) b
   |rt sv=>cases e5;exact λv H6 F6 ns6 a=>k v H6 F6 ns6 (sF1.trans (sF2.trans a))
   |ex x δ6=>cases e5;exact λσ6 H6 F6 own6 cls od a=>k σ6 H6 F6 own6 cls od (sF1.trans (sF2.trans a))
theorem S1{F:Hp}{a:au}{xs:List D}{vs:List V}(h:U0 K F a vs)(r:Reps K F xs vs):U2 K (Itl K a) F xs:=λF' H sF sH i=>by have q:U0 K H a vs:=Wb (sF.trans sH) h;refine⟨λd hd=>?_,λhl=>⟨vs,q,by rw[<-r.length];exact hl⟩⟩;obtain⟨v,h1,h2⟩:=r.get hd;refine⟨⟨vs,v,q,h1⟩,λx H' zq9=>?_⟩;obtain⟨e1,e2⟩:=zq9;subst e1;have e3:=e2 vs q;rw[h1]at e3;cases e3;exact⟨Zl.refl _,[],cm,λ_ h=>(nomatch h),h2.mono sF⟩
theorem X7{F:Hp}{a:au}{xs:List D}{vs:List V}(h:Mw K F a vs)(r:Reps K F xs vs):U2 K (Itt K a) F xs:=λF' H sF sH i=>by have q:Mw K H a vs:=Qi (sF.trans sH) h;refine⟨λd hd=>?_,λhl=>⟨vs,q,by rw[<-r.length];exact hl⟩⟩;obtain⟨v,h1,h2⟩:=r.get hd;refine⟨⟨vs,v,q,h1⟩,λx H' zq9=>?_⟩;obtain⟨e1,e2⟩:=zq9;subst e1;have e3:=e2 vs q;rw[h1]at e3;cases e3;exact⟨Zl.refl _,[],cm,λ_ h=>(nomatch h),h2.mono sF⟩
noncomputable def Em(lo:Int)(n:Nat):List D:=(cz n).map λi=>.int (lo+(i:Nat))
theorem N6{lo:Int}{n:Nat}{F:Hp}:U2 K (Itr lo n) F (Em lo n):=λF' H sF sH i=>by
 have hl:(Em lo n).length=n:=by unfold Em;rw[ag,List.length_range]
 refine⟨λd hd=>?_,λh=>by rw[hl]at h;exact h⟩;have hi:i<n:=by have:=(ax.mp hd).1;rw[hl]at this;exact this
 refine⟨hi,λx H' zq9=>?_⟩;obtain⟨e1,e2⟩:=zq9;subst e1 e2;unfold Em at hd;rw[a8,List.getElem?_range hi]at hd;cases hd;exact⟨Zl.refl _,[],cm,λ_ h=>(nomatch h),.int _⟩
noncomputable def En(j:Int):Prop:=-(2^62)<=j/\j<2^62
theorem Zi8{j:Int}(h0:0<=j)(h:j<=16777216):En j:=⟨by omega,by omega⟩
theorem U4{n:Nat}(h:n<=16777216):En (n:Int):=Zi8 (by omega) (by omega)
open Classical in
@[simp]noncomputable def Fr(fa:FA):FD:=λδ=>(fa δ).bind λp=>match Ag p.1 p.2 with
 |some [.int j]=>if En j then aA (Em 0 j.toNat,p.2)else aB
 |_=>aB
theorem Zno{fa:FA}{R:It->Hp->Prop}(h:Qj Z (Fr fa) σ H R):Zla (Cm Z fa) σ H R:=by
 obtain⟨F,δ,own,ds,δ',s,e,k⟩:=h;obtain⟨⟨rvs,δ1⟩,e1,e2⟩:=aa.mp e;refine⟨F,δ,own,rvs,δ1,s,e1,λvs H1 F1 own1 sH sF s1 r1=>?_⟩;dsimp only at e2;split at e2
 ·rename_i j hj;have rn:=s1.rdAll r1 hj;cases rn with
  |cons h t=>
   cases t;by_cases hb:En j
   ·rw[if_pos hb]at e2;cases e2;exact⟨j,by rw[h.int],hb.1,hb.2,k _ H1 F1 own1 sH sF s1 N6⟩
   ·rw[if_neg hb]at e2;cases e2
 ·cases e2
@[simp]noncomputable def R3(i:Nat)(fe:FE):FS:=λδ=>match δ[i]? with
 |some (aA (.ol _))=>(fe δ).bind λp=>(frz p.1 p.2).bind λq=>match q.2[i]? with
  |some (aA (.ol xs))=>if xs.length<cx then aA (.nx (q.2.set i (aA (.ol (xs++[q.1])))))else aB
  |_=>aB
 |_=>aB
theorem U5{F:Hp}{xs:List D}{v:V}{ns:Zr}(h:Shape K F (.ol xs) v ns):∃a vs,v= .ref a/\ns=[(a,.lst vs)]/\Reps K F xs vs:=by
 cases h with
 |ol r=>exact⟨_,_,rfl,rfl,r⟩
theorem Zqy{i:Nat}{fe:FE}(h:Z9 Z (R3 i fe) E σ H):D3 (tBM K "list" Gp (Mx i) (Kj (Ze Z fe) Xs)) E σ H:=by
 obtain⟨F,δ,own,fl,s,e,k⟩:=h;unfold R3 at e;split at e
 ·rename_i xs0 hx0;obtain⟨⟨rv,δ1⟩,e1,e2⟩:=aa.mp e;obtain⟨⟨d,δ2⟩,e3,e4⟩:=aa.mp e2;obtain⟨v,hv,sh⟩:=s.at' i _ hx0;obtain⟨a,vs0,ev,en,r0⟩:=U5 sh;refine⟨v,hv,?_,F,δ,own,rv,δ1,s,e1,λy H1 F1 own1 sH sF s1 r1=>?_⟩
  ·subst ev;exact .inl ⟨rfl,vs0,.inl (.inl (s.ok i (a,.lst vs0) (by rw[en];exact ad)).2.2)⟩
  obtain⟨F2,sF2,s2,r2⟩:=s1.settleR r1;obtain⟨F3,own3,sF3,s3,r3⟩:=s2.frzR r2 e3;dsimp only at e4;split at e4
  ·rename_i xs hx;by_cases hz:xs.length<cx
   ·rw[if_pos hz]at e4;cases e4;obtain⟨v',hv',sh'⟩:=s3.at' i _ hx;rw[hv]at hv';cases hv';obtain⟨b,vs,eb,en',r'⟩:=U5 sh';have mb:(b,HO.lst vs)∈own3 i:=by rw[en'];exact ad
    subst eb;refine⟨b,vs,y,rfl,rfl,(s3.ok i _ mb).2.2,by rw[<-r'.length];exact hz,?_⟩;exact k σ _ F3 _ (sF.trans (sF2.trans sF3)) (s3.change (sv':=.ol (xs++[d])) (o':=.lst (vs++[y])) (ns':=[(b,.lst (vs++[y]))]) hx hv mb (.ol (r'.snoc r3)) (λp hp=>.inl (ao.mp hp)) Ku)
   ·rw[if_neg hz]at e4;cases e4
  ·cases e4
 ·cases e
end
@[simp]noncomputable def N7(n:Nat)(ds:List D):Wc:=ds.map (λd=>some (.fz d))++List.replicate (n- ds.length) none
theorem S2{N:List Str}{F H:Hp}{ds:List D}{vs:List V}(le:Zl F H)(r:Reps K F ds vs):SR (ent H F:Ent K) F H (L2.Cl N vs) (N7 N.length ds) λ_=>[]:=by
 have hl:=r.length;refine⟨le,λb o e=>.inl e,Zl.refl H,?_,λi sv e=>?_,λ_=>cm,λ_ _ h=>(nomatch h),λ_ _ _ _ _ h=>(nomatch h)⟩
 ·unfold L2.Cl N7;rw[ay,ay,ag,ag,List.length_replicate,List.length_replicate,hl]
 ·unfold N7 at e;by_cases hi:i<ds.length
  ·rw[dh (by simpa using hi),a8]at e;cases hd:ds[i]? with
   |none=>rw[hd]at e;cases e
   |some d=>rw[hd]at e;cases e;obtain⟨v,h1,h2⟩:=r.get hd;refine⟨v,?_,.fz h2⟩;unfold L2.Cl;rw[dh (by rw[ag];omega),a8,h1];rfl
  ·rw[gc (by simpa using hi),List.getElem?_replicate]at e;split at e<;> cases e
theorem Ze2{n:Nat}{g:List D->Option SV}{vs:List V}{H:Hp}{Q:VK}{E:XK}(h:Y5 K n g vs H Q E):vs.length=n:=by obtain⟨F,ds,sv,le,r,hn,e,k⟩:=h;rw[<-r.length];exact hn
end DL
namespace DL
open PySem L2
variable{K:ah}
noncomputable def xG(K:ah)(g:FG):TG:=λv σ H Q=>∃Z:Ent K,Cn Z g v σ H Q
noncomputable def xT(K:ah)(f:FT):TT:=λσ H Q=>∃Z:Ent K,Ym Z f σ H Q
noncomputable def xE(K:ah)(f:FE):TE:=λσ H Q=>∃Z:Ent K,Ze Z f σ H Q
noncomputable def W0:FT:=λδ=>aA (aC,δ)
@[simp]theorem Zqz(δ:Wc):W0 δ=some (true,δ):=rfl
@[simp]noncomputable def caps(src:List BSrc):List RV:=src.filterMap fun
 | .cap j=>aA (.bw j)
 |_=>aB
@[simp]noncomputable def X8(δ:Wc):BSrc->Option SV
 | .own=>aB
 | .cap j=>match δ[j]?.join with
  |some (.fz d)=>aA (.fz d)
  |_=>aB
 | .acc=>aA (.ol [])
@[simp]noncomputable def bD(src:List BSrc)(δ:Wc):Wc:=src.map (X8 δ)
@[simp]noncomputable def resetSlot:BSrc->Option SV->Option SV
 | .own,_=>aB
 |_,o=>o
@[simp]noncomputable def R4:List BSrc->Wc->Wc
 |b::r,o::t=>resetSlot b o::R4 r t
 |_,t=>t
@[simp]noncomputable def Ya(src:List BSrc)(k:Nat)(g:FG)(tt:FT)(te:FE):List D->Wc->Option Wc
 | [],δ=>aA δ
 |d::ds,δ=>(g.run d δ).bind λδ1=>(tt δ1).bind λp=>if p.1=aC then(te p.2).bind λq=>(frz q.1 q.2).bind λr=>match r.2[k]? with
   |some (aA (.ol zs))=>if zs.length<cx then Ya src k g tt te ds (R4 src (r.2.set k (aA (.ol (zs++[r.1])))))else aB
   |_=>aB
  else Ya src k g tt te ds (R4 src p.2)
@[simp]noncomputable def Uk(src:List BSrc)(k:Nat)(fi:FD)(g:FG)(tt:FT)(te:FE):FE:=λδ=>(fi δ).bind λp=>(frzAll (caps src) p.2).bind λc=>(Ya src k g tt te p.1 (bD src c.2)).bind λδb=>match δb[k]? with
 |some (aA (.ol ys))=>aA (.tmp (.ol ys),c.2)
 |_=>aB
theorem M3:∀(src:List BSrc) (δ:Wc),(R4 src δ).length=δ.length
 | [],t=>by unfold R4;rfl
 |_::_,[]=>by unfold R4;rfl
 |b::r,o::t=>by show(resetSlot b o::R4 r t).length=_;rw[bc,bc,M3 r t]
theorem M4:∀{src:List BSrc} {δ:Wc} {i:Nat} {sv:SV},(R4 src δ)[i]? =aA (aA sv)->δ[i]? =aA (aA sv)
 | [],_,_,_,h=>h
 |_::_,[],_,_,h=>h
 |b::r,o::t,0,sv,h=>by
  have h:aA (resetSlot b o)=aA (aA sv):=h;cases b with
  |own=>cases h
  |cap j=>exact h
  |acc=>exact h
 |b::r,o::t,i+1,sv,h=>by have h:(R4 r t)[i]? =aA (aA sv):=h;show t[i]? =_;exact M4 h
section
variable{Z:Ent K}{F H:Hp}{σ:St}{δ δ':Wc}{own:Nat->Zr}
theorem SR.forget(s:SR Z F H σ δ own)(hl:δ'.length=δ.length)(h:∀(i:Nat) (sv:SV),δ'[i]? =aA (aA sv)->δ[i]? =aA (aA sv)):SR Z F H σ δ' own:=
 ⟨s.le,s.fro,s.old,s.len.trans hl.symm,λi sv e=>s.at' i sv (h i sv e),s.nod,s.ok,s.sep⟩
theorem SR.caps:∀{rvs:List RV} {ds:List D} {δ δ':Wc} {F:Hp} {own:Nat->Zr},(∀rv∈rvs,∃j,rv= .bw j)->SR Z F H σ δ own->DL.frzAll rvs δ=aA (ds,δ')->∃F1 own1,Zl F F1/\SR Z F1 H σ δ' own1
 | [],_,_,_,F,own,_,s,e=>by cases e;exact⟨F,own,Zl.refl F,s⟩
 |rv::r,_,_,_,F,own,hb,s,e=>by obtain⟨⟨d,δ1⟩,e1,e2⟩:=aa.mp e;obtain⟨⟨ds,δ2⟩,e3,e4⟩:=aa.mp e2;cases e4;obtain⟨j,rfl⟩:=hb rv ad;obtain⟨sv,e5,e6⟩:=aa.mp e1;cases e6;obtain⟨F1,v,sF,_,_,s1⟩:=s.freeze (Bh e5);obtain⟨F2,own2,sF2,s2⟩:=SR.caps (λrv h=>hb rv (am _ h)) s1 e3;exact⟨F2,own2,sF.trans sF2,s2⟩
theorem SR.after{F3 H3:Hp}(s2:SR Z F H σ δ own)(sH3:Zl H H3)(sF3:Zl F F3)(le3:Zl F3 H3)(fro3:∀(b:au) (o:HO),F3 b=aA o->F b=aA o\/H b=aB):SR Z F3 H3 σ δ own:=by
 refine⟨le3,λb o e=>?_,s2.old.trans sH3,s2.len,λi sw ei=>?_,s2.nod,λi p hp=>?_,s2.sep⟩
 ·rcases fro3 b o e with z|z
  ·exact s2.fro b o z
  ·exact .inr (s2.old.free z)
 ·obtain⟨w,h1,h2⟩:=s2.at' i sw ei;exact⟨w,h1,h2.mono sF3⟩
 ·obtain⟨a,b,c⟩:=s2.ok i p hp;refine⟨?_,b,sH3 _ _ c⟩;cases z:F3 p.1 with
  |none=>rfl
  |some u=>
   rcases fro3 _ u z with y|y
   ·rw[a]at y;cases y
   ·rw[c]at y;cases y
end
structure SrcOk(src:List BSrc)(k:Nat):Prop where
 acc:src[k]? =aA .acc
 uni:∀i:Nat,src[i]? =aA .acc->i=k
theorem Ze3{Z:Ent K}{F H:Hp}{σ:St}{δ:Wc}{own:Nat->Zr}{src:List BSrc}{k:Nat}{acc:au}(S:SrcOk src k)(s:SR Z F H σ δ own)(ha:H acc=aB):
  SR (ent H F:Ent K) F (Y0 H acc (.lst [])) (X4 src σ acc) (bD src δ) (λi=>if i=k then[(acc,.lst [])]else[]):=by
 have mem:∀{i:Nat} {p:au×HO},p∈(if i=k then[(acc,HO.lst [])]else[])->i=k/\p=(acc,.lst []):=fun{i p} h=>by
  by_cases hi:i=k
  ·rw[if_pos hi]at h;exact⟨hi,ao.mp h⟩
  ·rw[if_neg hi]at h;exact nomatch h
 refine⟨s.le.trans (J1 ha),λb o e=>.inl e,J1 ha,by unfold X4 bD;rw[ag,ag],λi sv e=>?_,λi=>?_,λi p hp=>?_,λi j p q hij hp hq=>?_⟩
 ·unfold bD at e;rw[a8]at e;cases hq:src[i]? with
  |none=>rw[hq]at e;cases e
  |some q=>
   rw[hq]at e;have e:X8 δ q=aA sv:=df.inj e;cases q with
   |own=>cases e
   |acc=>cases e;have hi:=S.uni i hq;refine⟨.ref acc,by unfold X4;rw[a8,hq];rfl,?_⟩;show Shape K F (.ol []) (.ref acc) (if i=k then[(acc,.lst [])]else[]);rw[if_pos hi];exact .ol .nil
   |cap j=>
    have hi:i≠k:=λz=>by rw[z,S.acc]at hq;cases hq
    unfold X8 at e;dsimp only at e;split at e
    ·rename_i d hd;cases e;obtain⟨v,h1,h2⟩:=s.at' j _ (Bh hd);refine⟨v,by unfold X4;rw[a8,hq];show aA (σ[j]?).join=_;rw[h1];rfl,?_⟩;show Shape K F (.fz d) v (if i=k then[(acc,.lst [])]else[]);rw[if_neg hi];exact .fz (J2 h2)
    ·cases e
 ·show(T8 (if i=k then[(acc,HO.lst [])]else[])).Nodup;by_cases hi:i=k
  ·rw[if_pos hi];exact Ku
  ·rw[if_neg hi];exact cm
 ·obtain⟨_,rfl⟩:=mem hp;exact⟨s.le.free ha,ha,Yr⟩
 ·obtain⟨z,_⟩:=mem hp;obtain⟨y,_⟩:=mem hq;exact absurd (z.trans y.symm) hij
theorem Ze4{Z:Ent K}{H:Hp}{σ:St}{Q:VK}{src:List BSrc}{k:Nat}{fi:FD}{g:FG}{tt:FT}{te:FE}(S:SrcOk src k)(hk:k∉g.tch)(h:Ze Z (Uk src k fi g tt te) σ H Q):
  Zev src (Qj Z fi) (xG K g) (xT K tt) (xE K te) σ H Q:=by
 obtain⟨F,δ,own,rv,δ',s,e,k0⟩:=h;obtain⟨⟨ds,δ1⟩,e1,e2⟩:=aa.mp e;obtain⟨⟨cs,δ2⟩,e3,e4⟩:=aa.mp e2;obtain⟨δf,e5,e6⟩:=aa.mp e4;refine⟨F,δ,own,ds,δ1,s,e1,λJ H1 F1 own1 sH sF s1 yl acc ha=>?_⟩;obtain⟨F2,own2,sF2,s2⟩:=s1.caps (λrv hr=>by
  unfold DL.caps at hr;obtain⟨b,_,hb⟩:=List.mem_filterMap.mp hr;cases b with
  |own=>cases hb
  |acc=>cases hb
  |cap j=>cases hb;exact⟨j,rfl⟩) e3
 have s3:=Ze3 S s2 ha;have hacc0:(X4 src σ acc)[k]? =aA (aA (.ref acc)):=by unfold X4;rw[a8,S.acc];rfl
 refine⟨λi m σ' H=>m=ds.length- i/\i<=ds.length/\σ'[k]? =aA (aA (.ref acc))/\∃F δ own,Zl F2 F/\SR (ent H1 F2:Ent K) F H σ' δ own/\Ya src k g tt te (ds.drop i) δ=aA δf,
  ⟨ds.length,by simp,fu _,hacc0,F2,_,_,Zl.refl F2,s3,e5⟩,?_⟩
 rintro i m σ4 H4 ⟨rfl,hi,hacc,F4,δ4,own4,sF4,s4,ef⟩;by_cases hlt:i<ds.length
 ·have hd:ds[i]? =aA ds[i]:=by simp[hlt]
  obtain⟨go,yy⟩:=(yl F4 H4 (sF2.trans sF4) s4.le i).1 _ hd;rw[List.drop_eq_getElem_cons hlt]at ef;obtain⟨δ5,e7,e8⟩:=aa.mp ef;obtain⟨⟨b,δ6⟩,e9,e10⟩:=aa.mp e8;refine .inr ⟨go,λx H5 hy=>?_⟩;obtain⟨sm,ns,nd,hn,rp⟩:=yy x H5 hy;obtain⟨sFn,sn⟩:=s4.fresh sm nd hn;refine⟨(ent H1 F2:Ent K),Up F4 ns,δ4,own4,_,δ5,sn,rp,e7,λσ6 own6 s6 t6=>⟨(ent H1 F2:Ent K),Up F4 ns,δ5,own6,b,δ6,s6,e9,λH7 F7 own7 sH7 sF7 s7=>?_⟩⟩;have hacc6:σ6[k]? =aA (aA (.ref acc)):=(t6 k hk).trans hacc;cases b with
  |false=>dsimp only;rw[if_neg bj]at e10⊢;exact⟨ds.length- (i+1),by omega,rfl,hlt,hacc6,F7,_,own7,sF4.trans (sFn.trans sF7),s7.forget (M3 src δ6) (λj sv hj=>M4 hj),e10⟩
  |true=>
   dsimp only;rw[if_pos rfl]at e10⊢;obtain⟨⟨rv8,δ8⟩,e11,e12⟩:=aa.mp e10;obtain⟨⟨d9,δ9⟩,e13,e14⟩:=aa.mp e12;refine⟨(ent H1 F2:Ent K),F7,δ6,own7,rv8,δ8,s7,e11,λy H8 F8 own8 sH8 sF8 s8 r8=>?_⟩;obtain⟨F9,sF9,s9,r9⟩:=s8.settleR r8;obtain⟨F10,own10,sF10,s10,r10⟩:=s9.frzR r9 e13;dsimp only at e14;split at e14
   ·rename_i zs hz;by_cases hzl:zs.length<cx
    ·rw[if_pos hzl]at e14;obtain⟨v',hv',sh'⟩:=s10.at' k _ hz;rw[hacc6]at hv';cases hv';obtain⟨b,vs,eb,en',r'⟩:=U5 sh';cases eb;have mb:(acc,HO.lst vs)∈own10 k:=by rw[en'];exact ad
     refine⟨acc,vs,y,rfl,rfl,(s10.ok k _ mb).2.2,by rw[<-r'.length];exact hzl,?_⟩;have s11:=s10.change (sv':=.ol (zs++[d9])) (o':=.lst (vs++[y])) (ns':=[(acc,.lst (vs++[y]))]) hz hacc6 mb (.ol (r'.snoc r10)) (λp hp=>.inl (ao.mp hp)) Ku;exact⟨ds.length- (i+1),by omega,rfl,hlt,hacc6,F10,_,_,sF4.trans (sFn.trans (sF7.trans (sF8.trans (sF9.trans sF10)))),s11.forget (M3 src _) (λj sv hj=>M4 hj),e14⟩
    ·rw[if_neg hzl]at e14;cases e14
   ·cases e14
 ·have hz:i=ds.length:=by omega
  subst hz;rw[List.drop_length]at ef;cases ef;refine .inl ⟨(yl F4 H4 (sF2.trans sF4) s4.le _).2 (az _),?_⟩;dsimp only at e6;split at e6
  ·rename_i ys hys;cases e6;obtain⟨v',hv',sh'⟩:=s4.at' k _ hys;rw[hacc]at hv';cases hv';obtain⟨b,vs,eb,en',r'⟩:=U5 sh';cases eb;have mb:(acc,HO.lst vs)∈own4 k:=by rw[en'];exact ad
   obtain⟨o1,o2,o3⟩:=s4.ok k _ mb;refine k0 (.ref acc) H4 F4 own2 (sH.trans s4.old) (sF.trans (sF2.trans sF4)) (s2.after s4.old sF4 s4.le λb o e=>s4.fro b o e) ⟨[(acc,.lst vs)],.ol r',Ku,λp hp=>?_,λj p q hp hq e=>?_⟩
   ·obtain rfl:=ao.mp hp;exact⟨o1,s2.old.free ha,o3⟩
   ·obtain rfl:=ao.mp hp;have z:=(s2.ok j q hq).2.2;have e':acc=q.1:=e;rw[<-e',ha]at z;cases z
  ·cases e6
end DL
namespace DL
open PySem PySem.Spec PyProof.Rows L2
variable{K:ah}
variable{Z:Ent K}
@[simp]noncomputable def Zi9(f:Int->Int->D):D->D->Option SV
 | .int i,.int j=>aA (.fz (f i j))
 |_,_=>aB
@[simp]noncomputable def Ze5(C:Int->Int->Bool)(f:Int->Int->D):D->D->Option SV
 | .int i,.int j=>if C i j=aC then aA (.fz (f i j))else aB
 |_,_=>aB
theorem Zln{g:Int->Int->V}{f:Int->Int->D}(hr:∀F i j,Rep K F (f i j) (g i j)):Y6 Z (rI0 g) (Zi9 f):=by
 intro F H σ δ own x y d1 d2 sv Q s r1 r2 e k;unfold Zi9 at e;split at e
 ·cases e;exact⟨_,_,r1.int,r2.int,k.fz s (hr _ _ _)⟩
 ·cases e
theorem Znp{C:Int->Int->Prop}{c:Int->Int->Bool}{g:Int->Int->V}{f:Int->Int->D}(hc:∀i j,c i j=aC->C i j)(hr:∀F i j,Rep K F (f i j) (g i j)):Y6 Z (rI C g) (Ze5 c f):=by
 intro F H σ δ own x y d1 d2 sv Q s r1 r2 e k;unfold Ze5 at e;split at e
 ·split at e
  ·rename_i hcc;cases e;exact⟨_,_,r1.int,r2.int,hc _ _ hcc,k.fz s (hr _ _ _)⟩
  ·cases e
 ·cases e
noncomputable def Ze6(i j:Int):Bool:=(decide (-(2^64)<i)&&decide (i<2^64))|| (decide (-(2^64)<j)&&decide (j<2^64))
@[simp]noncomputable def Zq0:D->D->Option SV:=Ze5 Ze6 λi j=>.int (i*j)
@[simp]noncomputable def Zq1(i j:Int):Bool:=decide (0<j)&&decide (j<1073741824)
@[simp]noncomputable def Kx:D->D->Option SV:=Ze5 Zq1 λi j=>.int (i / j)
@[simp]noncomputable def Zq2(i j:Int):Bool:=decide (0<j)
@[simp]noncomputable def Bv:D->D->Option SV:=Ze5 Zq2 λi j=>.int (i % j)
theorem Zq3:Y6 Z (rI Zd9 λi j=>V.int (i*j)) Zq0:=Znp (λi j h=>by
 unfold Ze6 at h;simp only[Bool.or_eq_true,Bool.and_eq_true,decide_eq_true_eq]at h;exact h) λ_ _ _=>.int _
theorem Znq:Y6 Z (rI Zp2 λi j=>V.int (i / j)) Kx:=Znp (λi j h=>by
 unfold Zq1 at h;simp only[Bool.and_eq_true,decide_eq_true_eq]at h;exact h) λ_ _ _=>.int _
theorem Zq4:Y6 Z (rI (λ_ j=>0<j) λi j=>V.int (i % j)) Bv:=Znp (λi j h=>by
 unfold Zq2 at h;simp only[decide_eq_true_eq]at h;exact h) λ_ _ _=>.int _
@[simp]noncomputable def U6:D->D->Option SV:=Zi9 λi j=>.bl (decide (i<j))
@[simp]noncomputable def gtD:D->D->Option SV:=Zi9 λi j=>.bl (decide (j<i))
theorem Zt3:Y6 Z (rI0 λi j=>V.bl (decide (i<j))) U6:=Zln λ_ _ _=>.bl _
theorem Zt4:Y6 Z (rI0 λi j=>V.bl (decide (j<i))) gtD:=Zln λ_ _ _=>.bl _
noncomputable def Zt5:R2:=λx y H Q=>∃i j,x= .str i/\y= .str j/\i.length+j.length<=cx/\Q (.str (i++j)) H
noncomputable def Zlo(K:ah):R2:=λx y H Q=>∃l b xs zs,x= .ref l/\y= .ref b/\U0 K H l xs/\U0 K H b zs/\xs.length+zs.length<=cx/\∀p,H p=aB->Q (.ref p) (Y0 H p (.lst (xs++zs)))
theorem Zja{X:Cx}:Cq X (binaryOp .Add) (Zlo X.K):=by
 intro pins s σ H x y v u Q I rx ry h;obtain⟨l,b,xs,zs,rfl,rfl,hH,hB,hz,q⟩:=h;cases rx;cases ry;obtain⟨its,r,pl,z⟩:=I.list hH;obtain⟨its2,r2,pl2,z2⟩:=I.list hB;have hl:=r.length;have hl2:=r2.length;obtain⟨⟨cls,dd,data,sl⟩,ho,hc,n,hd⟩:=pl.isList;obtain⟨⟨cls2,dd2,data2,sl2⟩,ho2,hc2,n2,hd2⟩:=pl2.isList;simp only at hc hd hc2 hd2;subst hc hd hc2 hd2;have ea:its.toArray++its2.toArray=(its++its2).toArray:=by simp
 refine concat_meets ⟨_,ho,rfl⟩ ⟨_,ho2,rfl⟩ noFill_list_add seq_list_add PySem.F.slot_list_add PySem.F.entry_list_add (PySem.F.args_list_add_2 _ _) (list_addW l b its.toArray its2.toArray n n2 dd dd2 sl sl2 (by rw[bp,bp];omega)) ⟨ho,ho2,?_⟩;rw[ea];exact⟨.ref _,_,I.lnew (t':=s.toks) (r.append r2) (by rw[ay];omega),rfl,q _ I.fresh⟩
noncomputable def Zlp(K:ah):R2:=λx y H Q=>rI0 (λi j=>V.int (i+j)) x y H Q\/(Zt5 x y H Q\/Zlo K x y H Q)
theorem Zjb{X:Cx}:Cq X (binaryOp .Add) (Zlp X.K):=Zm1.or (Xr.or Zja)
@[simp]noncomputable def U7:D->D->Option SV
 | .int i,.int j=>aA (.fz (.int (i+j)))
 | .str x,.str y=>if x.length+y.length<=cx then aA (.fz (.str (x++y)))else aB
 | .lst xs,.lst ys=>if xs.length+ys.length<=cx then aA (.ol (xs++ys))else aB
 |_,_=>aB
theorem Zq5:Y6 Z (Zlp K) U7:=by
 intro F H σ δ own x y d1 d2 sv Q s r1 r2 e k;unfold U7 at e;split at e
 ·cases e;exact .inl ⟨_,_,r1.int,r2.int,k.fz s (.int _)⟩
 ·split at e
  ·rename_i hz;cases e;exact .inr (.inl ⟨_,_,r1.str,r2.str,hz,k.fz s (.str _)⟩)
  ·cases e
 ·split at e
  ·rename_i hz;cases e;obtain⟨a,vs,ex,ha,ra⟩:=r1.lst s.le;obtain⟨b,us,ey,hb,rb⟩:=r2.lst s.le;exact .inr (.inr ⟨a,b,vs,us,ex,ey,ha,hb,by rw[<-ra.length,<-rb.length];exact hz,λp hp=>k.lst s (ra.append rb) hp⟩)
  ·cases e
 ·cases e
@[simp]noncomputable def eqS:D->D->Option Bool
 | .non,.non=>aA aC
 | .non,.int _=>aA aD
 | .int _,.non=>aA aD
 | .non,.bl _=>aA aD
 | .bl _,.non=>aA aD
 | .non,.str _=>aA aD
 | .str _,.non=>aA aD
 | .int i,.int j=>aA (decide (i=j))
 | .bl i,.bl j=>aA (decide (i=j))
 | .str i,.str j=>aA (decide (i=j))
 | .int _,.str _=>aA aD
 | .str _,.int _=>aA aD
 | .bl _,.str _=>aA aD
 | .str _,.bl _=>aA aD
 |_,_=>aB
theorem Ze7{F H:Hp}{d1 d2:D}{x y:V}{b:Bool}(e:eqS d1 d2=aA b)(r1:Yf K F H d1 x)(r2:Yf K F H d2 y):scal x y=aC/\b=decide (x=y):=by
 unfold eqS at e;split at e<;> cases e
 ·rw[r1.non,r2.non];exact⟨rfl,by simp⟩
 ·rw[r1.non,r2.int];exact⟨rfl,by simp⟩
 ·rw[r1.int,r2.non];exact⟨rfl,by simp⟩
 ·rw[r1.non,r2.bl];exact⟨rfl,by simp⟩
 ·rw[r1.bl,r2.non];exact⟨rfl,by simp⟩
 ·rw[r1.non,r2.str];exact⟨rfl,by simp⟩
 ·rw[r1.str,r2.non];exact⟨rfl,by simp⟩
 ·rw[r1.int,r2.int];exact⟨rfl,by simp⟩
 ·rw[r1.bl,r2.bl];exact⟨rfl,by simp⟩
 ·rw[r1.str,r2.str];exact⟨rfl,by simp⟩
 ·rw[r1.int,r2.str];exact⟨rfl,by simp⟩
 ·rw[r1.str,r2.int];exact⟨rfl,by simp⟩
 ·rw[r1.bl,r2.str];exact⟨rfl,by simp⟩
 ·rw[r1.str,r2.bl];exact⟨rfl,by simp⟩
@[simp]noncomputable def eqD(d1 d2:D):Option SV:=(eqS d1 d2).bind λb=>some (.fz (.bl b))
@[simp]noncomputable def neD(d1 d2:D):Option SV:=(eqS d1 d2).bind λb=>some (.fz (.bl (!b)))
theorem Zt6:Y6 Z rEq eqD:=by intro F H σ δ own x y d1 d2 sv Q s r1 r2 e k;obtain⟨b,e1,e2⟩:=aa.mp e;cases e2;obtain⟨h1,h2⟩:=Ze7 e1 r1 r2;subst h2;exact⟨h1,k.fz s (.bl _)⟩
theorem Zt7:Y6 Z rNe neD:=by intro F H σ δ own x y d1 d2 sv Q s r1 r2 e k;obtain⟨b,e1,e2⟩:=aa.mp e;cases e2;obtain⟨h1,h2⟩:=Ze7 e1 r1 r2;subst h2;exact⟨h1,k.fz s (.bl _)⟩
theorem Reps.atI{F:Hp}{xs:List D}{vs:List V}{i:Int}{d:D}(r:Reps K F xs vs)(e:L2.atI xs i=aA d):∃v,L2.atI vs i=aA v/\Rep K F d v:=by unfold L2.atI at e⊢;obtain⟨j,e1,e2⟩:=aa.mp e;obtain⟨v,h1,h2⟩:=r.get e2;exact⟨v,aa.mpr ⟨j,by rw[<-r.length];exact e1,h1⟩,h2⟩
@[simp]noncomputable def ixD:D->D->Option SV
 | .lst xs,.int i=>(L2.atI xs i).bind λd=>aA (.fz d)
 | .tup xs,.int i=>(L2.atI xs i).bind λd=>aA (.fz d)
 | .str z,.int i=>if z.length<=cx then(L2.atI z.cps.toList i).bind λc=>aA (.fz (.str ⟨#[c]⟩))else aB
 |_,_=>aB
theorem Zq7:Y6 Z (rIx K) ixD:=by
 intro F H σ δ own x y d1 d2 sv Q s r1 r2 e k;unfold ixD at e;split at e
 ·obtain⟨d,e1,e2⟩:=aa.mp e;cases e2;obtain⟨a,vs,ex,ha,ra⟩:=r1.lst s.le;obtain⟨v,h1,h2⟩:=ra.atI e1;exact .inl ⟨a,vs,_,v,ex,r2.int,ha,h1,k.fz s h2⟩
 ·obtain⟨d,e1,e2⟩:=aa.mp e;cases e2;obtain⟨a,vs,ex,ha,ra⟩:=r1.tup s.le;obtain⟨v,h1,h2⟩:=ra.atI e1;exact .inr (.inl ⟨a,vs,_,v,ex,r2.int,ha,h1,k.fz s h2⟩)
 ·split at e
  ·rename_i hz;obtain⟨c,e1,e2⟩:=aa.mp e;cases e2;exact .inr (.inr ⟨_,_,c,r1.str,r2.int,hz,e1,k.fz s (.str _)⟩)
  ·cases e
 ·cases e
noncomputable abbrev FO:=Wc->Option (Option Int×Wc)
noncomputable def Ky(Z:Ent K)(f:FO):TO:=λσ H Q=>∃F δ own o δ',SR Z F H σ δ own/\f δ=aA (o,δ')/\∀H' F' own',Zl H H'->Zl F F'->SR Z F' H' σ δ' own'->Q o H'
@[simp]noncomputable def Zaa(fe:FE):FO:=λδ=>(fe δ).bind λp=>match p.1 with
 | .tmp (.fz (.int i))=>aA (aA i,p.2)
 |_=>aB
section
variable{H:Hp}{σ:L2.St}{Q:VK}{R:Option Int->Hp->Prop}
theorem Znr{fe:FE}(h:Ky Z (Zaa fe) σ H R):Zlf (Ze Z fe) σ H R:=by
 obtain⟨F,δ,own,b,δ',s,e,k⟩:=h;obtain⟨⟨rv,δ1⟩,e1,e2⟩:=aa.mp e;refine⟨F,δ,own,rv,δ1,s,e1,λv H1 F1 own1 sH sF s1 r1=>?_⟩;dsimp only at e2;split at e2
 ·cases e2;obtain⟨ns,t⟩:=r1;cases J2 t.sh;exact⟨_,rfl,k H1 F1 own1 sH sF s1⟩
 ·cases e2
@[simp]noncomputable def slF(g:D->Option Int->Option Int->Option SV)(fe:FE)(fl fh:FO):FE:=λδ=>(fe δ).bind λp=>(fl p.2).bind λl=>(fh l.2).bind λh=>(rdv p.1 h.2).bind λd=>(g d l.1 h.1).bind λsv=>some (.tmp sv,h.2)
noncomputable def Zlr(Z:Ent K)(r:V->Option Int->Option Int->Hp->VK->Prop)(g:D->Option Int->Option Int->Option SV):Prop:=
 ∀(F H:Hp) (σ:L2.St) (δ:Wc) (own:Nat->Zr) (x:V) (d:D) (lo hi:Option Int) (sv:SV) (Q:VK),SR Z F H σ δ own->Yf K F H d x->g d lo hi=aA sv->Fin Z F H σ δ own sv Q->r x lo hi H Q
theorem Zt9{r:V->Option Int->Option Int->Hp->VK->Prop}{g:D->Option Int->Option Int->Option SV}{fe:FE}{fl fh:FO}(hg:Zlr Z r g)(h:Ze Z (slF g fe fl fh) σ H Q):tSl r (Ze Z fe) (Ky Z fl) (Ky Z fh) σ H Q:=by
 obtain⟨F,δ,own,rv,δ',s,e,k⟩:=h;obtain⟨⟨rv1,δ1⟩,e1,e⟩:=aa.mp e;obtain⟨⟨lo,δ2⟩,e2,e⟩:=aa.mp e;obtain⟨⟨hi,δ3⟩,e3,e⟩:=aa.mp e;obtain⟨d,e4,e⟩:=aa.mp e;obtain⟨sv,e5,e⟩:=aa.mp e;cases e;refine⟨F,δ,own,rv1,δ1,s,e1,λv H1 F1 own1 sH1 sF1 s1 r1=>?_⟩;obtain⟨F1',sF1',s1',r1'⟩:=s1.settleR r1;refine⟨F1',δ1,own1,lo,δ2,s1',e2,λH2 F2 own2 sH2 sF2 s2=>⟨F2,δ2,own2,hi,δ3,s2,e3,λH3 F3 own3 sH3 sF3 s3=>?_⟩⟩;exact hg F3 H3 σ δ3 own3 v d lo hi sv Q s3 (s3.rd (r1'.mono (sF2.trans sF3)) e4) e5 λq H4 F4 ns sH4 sF4 s4 t4=>
  k q H4 F4 own3 (sH1.trans (sH2.trans (sH3.trans sH4))) (sF1.trans (sF1'.trans (sF2.trans (sF3.trans sF4)))) s4 ⟨ns,t4⟩
end
noncomputable def S3(xs:List D)(lo hi:Option Int):List D:=(xs.drop (HT.sIx xs.length 0 lo)).take (HT.sIx xs.length xs.length hi- HT.sIx xs.length 0 lo)
theorem Reps.cut{F:Hp}{xs:List D}{vs:List V}(r:Reps K F xs vs)(lo hi:Option Int):Reps K F (S3 xs lo hi) (Zcb vs lo hi):=by unfold S3 Zcb;rw[r.length];exact(r.drop _).take _
noncomputable def Zq8:V->Option Int->Option Int->Hp->VK->Prop:=λx lo hi H Q=>∃z,x= .str z/\z.length<=cx/\Q (.str (Txt.slice z lo hi)) H
theorem Zns{X:Cx}:SlR X Zq8:=by
 intro pins s σ H x v vl vu lo hi sl Q I rx hs pl pu h;obtain⟨z,rfl,hz,q⟩:=h;obtain⟨t,rfl⟩:=rx;refine⟨"str",_,F.slot_str_getitem.lookup,typeIs_str _ _ _,?_⟩;have fin:∀(t':Tok) (k:Nat),EP X pins σ Q (.str (Txt.slice z lo hi) t') {s with toks:=k}:=λt' k=>⟨.str (Txt.slice z lo hi),H,I.tok _,⟨_,rfl⟩,q⟩
 cases pl with
 |none=>cases pu with
  |none=>exact wpAny_getItem_str_slice (l:=aB) (u:=aB) (st:=aB) hs rfl (post_val_or_str ⟨dk (Txt.slice_le z _ _) hz,fin⟩)
  |int j tj=>exact wpAny_getItem_str_slice (l:=aB) (u:=aA (j,tj)) (st:=aB) hs rfl (post_val_or_str ⟨dk (Txt.slice_le z _ _) hz,fin⟩)
 |int i ti=>cases pu with
  |none=>exact wpAny_getItem_str_slice (l:=aA (i,ti)) (u:=aB) (st:=aB) hs rfl (post_val_or_str ⟨dk (Txt.slice_le z _ _) hz,fin⟩)
  |int j tj=>exact wpAny_getItem_str_slice (l:=aA (i,ti)) (u:=aA (j,tj)) (st:=aB) hs rfl (post_val_or_str ⟨dk (Txt.slice_le z _ _) hz,fin⟩)
@[simp]noncomputable def slD:D->Option Int->Option Int->Option SV
 | .lst xs,lo,hi=>aA (.ol (S3 xs lo hi))
 | .str z,lo,hi=>if z.length<=cx then aA (.fz (.str (Txt.slice z lo hi)))else aB
 |_,_,_=>aB
theorem Zua:Zlr Z (λx lo hi H Q=>Zqc K x lo hi H Q\/Zq8 x lo hi H Q) slD:=by
 intro F H σ δ own x d lo hi sv Q s r1 e k;unfold slD at e;split at e
 ·cases e;obtain⟨a,vs,ex,ha,ra⟩:=r1.lst s.le;exact .inl ⟨a,vs,ex,ha,λp hp=>k.lst s (ra.cut _ _) hp⟩
 ·split at e
  ·rename_i hz;cases e;exact .inr ⟨_,r1.str,hz,k.fz s (.str _)⟩
  ·cases e
 ·cases e
end DL
namespace L2
open PySem PySem.Spec PyProof.Rows
section
variable{X:Cx}{tg:c5}
noncomputable def Ite(K:ah)(a:au):It:=
 ⟨λi H=>∃xs x,U0 K H a xs/\xs[i]? =aA x,λi H x H'=>∃p v,x= .ref p/\H p=aB/\H'=Y0 H p (.tup [.int (i:Nat),v])/\∀xs,U0 K H a xs->xs[i]? =aA v,λi H=>∃xs,U0 K H a xs/\xs.length<=i⟩
theorem Inv.turnedT{pins:List (au×Obj)}{σ:L2.St}{H:Hp}{s:aq}{h':f8}{t':Nat}{e it T:au}{xs:List V}{its:List aj}(I:Inv X pins σ H s)(k:∀b o,b≠e->b≠it->s.heap.get? b=aA o->h'.get? b=aA o)
  (f1:Bd X pins H e) (f2:Bd X pins H it) (hT:T=s.heap.objs.size) (ht:IsTup h' T its.toArray) (rv:Z3 xs its) (hz:xs.length<=sizeLine) (he:∃o,h'.get? e=aA o) (hi:∃o,h'.get? it=aA o):
  Inv X pins σ (Y0 H T (.tup xs)) {s with heap:=h',toks:=t'}:=by
 have hTn:H T=aB:=by rw[hT];exact I.hok.fresh (az _)
 have neT:∀b o,s.heap.get? b=aA o->b≠T:=λb o q=>by rw[hT];exact b9 (bf q)
 have ntr:∀b u,H b=aA u->b≠e/\b≠it:=λb u q=>⟨(λz=>by rw[z,f1.1]at q;cases q),(λz=>by rw[z,f2.1]at q;cases q)⟩
 refine I.step (g':=s.gens) (d':=s.drawn) (ch:=[e,it]) (λb hb=>?_) (λb o _ _ hc q _=>k b o (λz=>hc (by simp[z])) (λz=>hc (by simp[z])) q)
  (λb o _ _ hc q _=>⟨o.slots,k b o (λz=>hc (by simp[z])) (λz=>hc (by simp[z])) q⟩) (λb o _ q n=>by rw[Zv (neT b o q)];exact n)
  (λb o hc q=>⟨o,k b o (λz=>hc (by simp[z])) (λz=>hc (by simp[z])) q⟩) (λb ys q=>by rw[Zv (Wa q hTn)];exact q) (λb o u q=>by rw[Zv (Wa q hTn)];exact q)
  (λb ps q=>⟨#[],by rw[Zv (Wa q hTn),q];simp⟩) (λm hm=>?_) (λb u q=>?_) I.bare
 ·have hb':b=e\/b=it:=by simpa using hb
  rcases hb' with z|z
  ·subst z;obtain⟨_,a1,_,a3,a4,a5⟩:=f1;exact⟨a3,a1,a4,a5⟩
  ·subst z;obtain⟨_,a1,_,a3,a4,a5⟩:=f2;exact⟨a3,a1,a4,a5⟩
 ·obtain⟨o,es,ep,ho,r⟩:=hm;exact⟨o,es,ep,k _ o (Ne.symm f1.2.1) (Ne.symm f2.2.1) ho,r⟩
 ·by_cases hb:b=T
  ·subst hb;rw[Yr]at q;cases q;exact⟨hz,its,rv,ht⟩
  ·rw[Zv hb]at q;refine(I.hok b u q).stay (λc v hc z=>?_) (λc z=>by rw[Zv (Wa z hTn)];exact z) λc ys z=>by rw[Zv (Wa z hTn)];exact z
   rcases hc with y|y
   ·rw[y]at z⊢;exact k _ _ (ntr b u q).1 (ntr b u q).2 z
   ·exact k _ _ (ntr c _ y).1 (ntr c _ y).2 z
theorem Zcj{P:bv}{w:c6}{K:ah}{elts:List c5}{kk:Nat}{tpos:Pos}(a e it:au)(hei:e≠it):Turn P w K (.Tuple elts kk tpos) (Ite K a) [e,it] e (λi h=>(∃old,IsEnum h e it ((i:Nat):Int) old)/\h.IsListIter it a i)where
 mem:=by simp
 obj:=λi h st b hb=>by
  have hb':b=e\/b=it:=by simpa using hb
  rcases hb' with z|z
  ·subst z;obtain⟨old,q⟩:=st.1;exact⟨_,q,λv y=>by
    have y':Data.fields _=Data.cell v:=y;cases y'⟩
  ·subst z;obtain⟨o,q,c,d⟩:=st.2;exact⟨o,q,λv y=>by rw[d]at y;cases y⟩
 keep:=λi h h' st k=>⟨let⟨old,q⟩:=st.1;⟨old,k e (by simp) _ q⟩,st.2.at λo q=>k it (by simp) o q⟩
 item:=by
  intro X hP hw hK hc i pins s σ H E I hf st hg;subst hP hw hK;obtain⟨xs,x,hq,hx⟩:=hg;obtain⟨its,rv,p,hz⟩:=I.list hq;obtain⟨u,hu,ru⟩:=rv.get hx;obtain⟨⟨old,he⟩,hit⟩:=st;have hl:s.heap.IsList a its.toArray:=p.isList;have ai:a≠it:=λz=>by obtain⟨o1,q1,c1,_⟩:=hit;obtain⟨o2,q2,c2,_⟩:=hl;rw[z,q1]at q2;cases q2;rw[c1]at c2;exact absurd c2 (by decide)
  have ae:e∉[it,a]:=λz=>by
   have z':e=it\/e=a:=by simpa using z
   rcases z' with z|z
   ·exact hei z
   ·obtain⟨o2,q2,c2,_⟩:=hl;rw[<-z,he]at q2;cases q2;exact absurd (show Value.type "enumerate"=Value.type "list"from c2) (by decide)
  have D:=Draws.list (prog:=X.prog) (w:=X.w) (A:=X.A.in1) (by first|exact I.ok.hd hc| (rw[show X.A.in1.handled=X.A.handled from rfl];exact I.ok.hd hc)) it a ai its.toArray;have hlt:i<its.toArray.size:=by have:=(ax.mp hu).1;rw[bp];exact this
  refine wpAny_pyNext_enum_itemD D he ⟨hit,hl⟩ hlt hei ae λy h' tk hy hout st' hT hsz hk=>⟨.ref s.heap.objs.size,rfl,?_⟩
  refine wpAny_letOwnedTupleGo_enum hout λh2 he2 hs2=>?_;have hy':its.toArray[i]? =aA y:=hy;have ey:y=u:=by
   have:its[i]? =aA y:=by simpa using hy'
   rw[hu]at this;cases this;rfl
  subst ey;have kk:∀b o,b≠e->b≠it->s.heap.get? b=aA o->h2.get? b=aA o:=λb o h1 h3 q=>(hs2.2 b h1).trans (hk b o h1 h3 q);have neT:s.heap.objs.size≠e:=Nat.ne_of_gt (bf he);have I2:=I.turnedT (h':=h2) (t':=tk+1) (e:=e) (it:=it) (T:=s.heap.objs.size) (xs:=[.int (i:Nat),x]) (its:=[.int i tk,y]) kk (hf e (by simp)) (hf it (by simp)) rfl ⟨_,(hs2.2 _ neT).trans hT,rfl,_,rfl⟩ (.cons ⟨tk,rfl⟩ (.cons ru .nil)) (by show 2<=sizeLine;decide)
   ⟨_,he2⟩ (let⟨o,q,_⟩:=st'.1;⟨o,(hs2.2 it (Ne.symm hei)).trans q⟩)
  refine⟨.ref s.heap.objs.size,_,I2,rfl,⟨s.heap.objs.size,x,rfl,I.hok.fresh (az _),rfl,λys hy2=>by rw[I.list_inj hy2 hq];exact hx⟩,⟨⟨_,he2⟩,st'.1.at λo q=>(hs2.2 it (Ne.symm hei)).trans q⟩,λb hb=>?_⟩;rw[Zv λz=>?_]
  ·exact(hf b hb).1
  ·have hb':b=e\/b=it:=by simpa using hb
   rcases hb' with y|y
   ·rw[<-z,y]at neT;exact neT rfl
   ·obtain⟨o,q,_⟩:=hit;rw[y]at z;exact absurd (bf q) (by rw[z];exact g9 _)
 done:=by intro X hP hw hK hc i pins s σ H E I hf st hg;subst hP hw hK;obtain⟨xs,hq,hx⟩:=hg;obtain⟨its,rv,p,hz⟩:=I.list hq;obtain⟨⟨old,he⟩,hit⟩:=st;obtain⟨f0,f1,f2,f3,f4,f5⟩:=hf it (by simp);have hl:=rv.length;exact wpAny_pyNext_enum_end (I.ok.hd hc) he hit p.isList (by simp;omega) λh' eb=>⟨rfl,I.turned (t':=s.toks) (λb o hb q=>eb b o hb q) f0 f1 f3 f4 f5⟩
 self:=λ_ _ _ _ _ st h=>let⟨⟨old,he⟩,_⟩:=st;wpAny_pyIter_enum he h
noncomputable def Zls(K:ah)(ta:TA):TI:=λσ H R=>ta σ H λvs H1=>∃a xs,vs=[.ref a]/\U0 K H1 a xs/\R (Ite K a) H1
theorem Zjc{l:c5}{elts:List c5}{kk:Nat}{tpos p pos:Pos}{ta:TA}(hg:Gl X "enumerate")(hm:X.mg "enumerate"=aB)(ha:PA X [l] ta)(hs:ba [l] X.env=[(aD,gw l X.env)]:=by rfl):
  PI X (.Tuple elts kk tpos) (.Call (.Name "enumerate" p) [l] [] pos) (Zls X.K ta):=by
 intro pins s σ H R I h;refine Call_ (Bo I hg hm boot_enumerate (PyProof.Rows.callWith_type1 (Wv (ha pos pins s σ H _ I h) λus s1 ⟨vs,H1,I1,r1,q1⟩=>?_) hs rfl));obtain⟨a,xs,e,hq,q⟩:=q1;subst e;obtain⟨u,rfl,ru⟩:=Ui r1;cases ru;obtain⟨its,rv,p,hz⟩:=I1.list hq;refine call_enumerate_list p.isList λh' he hit hsz hk=>wpAny_pyIter_enum he ?_;have I2:Inv X pins σ H1 {s1 with heap:=h'}:=I1.kept (t':=s1.toks) hk;refine⟨s1.heap.objs.size+1,[s1.heap.objs.size+1,s1.heap.objs.size],_,_,H1,rfl,I2,Zcj a _ _ (Nat.succ_ne_self _),⟨⟨.none,by simpa using he⟩,hit⟩,λb hb=>?_,q⟩;have hb':b=s1.heap.objs.size+1\/b=s1.heap.objs.size:=by simpa using hb
 rcases hb' with z|z
 ·subst z;exact I1.fpOk (Nat.le_succ _) (I1.hok.fresh (Nat.le_succ _))
 ·subst z;exact I1.fpOk (az _) (I1.hok.fresh (az _))
inductive TyX(K:ah)(H:Hp):V->String->Prop where
 |non:TyX K H .non "NoneType"
 |bl (x:Bool):TyX K H (.bl x) "bool"
 |int (i:Int):TyX K H (.int i) "int"
 |str (x:Str):TyX K H (.str x) "str"
 |lst {a:au} {xs:List V} (e:U0 K H a xs):TyX K H (.ref a) "list"
 |tup {a:au} {xs:List V} (e:Mw K H a xs):TyX K H (.ref a) "tuple"
 |dK {a:au} {kvs:List (Key×V)} {ep:Nat} (e:H a=aA (.dK kvs ep)):TyX K H (.ref a) "dict"
 |dT {a:au} {kvs:List (List Key×V)} {ep:Nat} {bs:List au} (e:H a=aA (.dT kvs ep bs)):TyX K H (.ref a) "dict"
theorem Ze8{pins:List (au×Obj)}{σ:L2.St}{H:Hp}{s:aq}{A:di}{E:aj->aq->Prop}{Q:aj->aq->Prop}{c:aj}{b:Bool}{x:V}{u:aj}{T:String}(I:Inv X pins σ H s)(rx:Zz x u)(ty:TyX X.K H x T)(e:PySem.W.kitOne X.K (.type T) c=aA b)(h:∀tk,Q (.bool b) {s with toks:=tk}):
  bd (bz X.prog X.w) A (call (.builtin "isinstance") [u,c]) Q E s:=by
 cases ty with
 |non=>cases(show u=ci from rx);exact PySem.W.kia_one PySem.W.kitx_none I.kIn True.intro e (λz=>nomatch z) h
 |bl y=>cases(show u=Value.bool y from rx);exact PySem.W.kia_one PySem.W.kitx_bool I.kIn True.intro e (λz=>nomatch z) h
 |int i=>obtain⟨t,q⟩:=(show∃t,u=Value.int i t from rx);cases q;exact PySem.W.kia_one PySem.W.kitx_int I.kIn True.intro e (λz=>nomatch z) h
 |str y=>obtain⟨t,q⟩:=(show∃t,u=Value.str y t from rx);cases q;exact PySem.W.kia_one PySem.W.kitx_str I.kIn True.intro e (λz=>nomatch z) h
 | @lst a xs ea=>cases(show u=bu a from rx);obtain⟨its,_,pl,_⟩:=I.list ea;obtain⟨o,h1,h2,_⟩:=pl.isList;exact PySem.W.kia_one PySem.W.kitx_list I.kIn ⟨o,h1,h2⟩ e (λz=>nomatch z) h
 | @tup a xs ea=>cases(show u=bu a from rx);obtain⟨its,_,pl,_⟩:=I.tuple ea;obtain⟨o,h1,h2,_⟩:=pl;exact PySem.W.kia_one PySem.W.kitx_tuple I.kIn ⟨o,h1,h2⟩ e (λz=>nomatch z) h
 | @dK a kvs ep ea=>
  cases(show u=bu a from rx);obtain⟨_,_,vs,_,p⟩:=(show Yb X.prog X.w H s.heap a (.dK kvs ep)from I.hok a _ ea)
  obtain⟨o,es,h1,h2,_⟩:=p;exact PySem.W.kia_one PySem.W.kitx_dict I.kIn ⟨o,h1,h2.1⟩ e (λz=>nomatch z) h
 | @dT a kvs ep bs ea=>
  cases(show u=bu a from rx);obtain⟨_,_,xs,_,o,es,h1,h2,_⟩:=(show Yb X.prog X.w H s.heap a (.dT kvs ep bs)from I.hok a _ ea)
  exact PySem.W.kia_one PySem.W.kitx_dict I.kIn ⟨o,h1,h2.1⟩ e (λz=>nomatch z) h
noncomputable def Zq9(K:ah)(c:String):List V->Hp->VK->Prop:=λxs H Q=>∃x t b,xs=[x,.ty c]/\TyX K H x t/\PySem.W.kitOne K (.type t) (.type c)=aA b/\Q (.bl b) H
theorem Ze9{c:String}:Q4 X (.builtin "isinstance") (Zq9 X.K c):=by intro pins s σ H xs us Q I r h;obtain⟨x,t,b,rfl,ty,e,q⟩:=h;obtain⟨u,w',rfl,r1,r2⟩:=Zld r;cases r2;exact Ze8 I r1 ty e λtk=>⟨.bl b,H,I.tok _,rfl,q⟩
end
end L2
namespace DL
open PySem PySem.Spec PyProof.Rows L2
variable{K:ah}
noncomputable def Q5(xs:List D):List D:=xs.zipIdx.map λp=>.tup [.int (p.2:Nat),p.1]
theorem Kz{xs:List D}{i:Nat}{d:D}(h:(Q5 xs)[i]? =aA d):∃x,xs[i]? =aA x/\d= .tup [.int (i:Nat),x]:=by
 unfold Q5 at h;rw[a8,List.getElem?_zipIdx]at h;cases e:xs[i]? with
 |none=>rw[e]at h;cases h
 |some x=>rw[e]at h;cases h;exact⟨x,rfl,by simp⟩
theorem K5(xs:List D):(Q5 xs).length=xs.length:=by unfold Q5;rw[ag,List.length_zipIdx]
theorem S4{F:Hp}{a:au}{xs:List D}{vs:List V}(h:U0 K F a vs)(r:Reps K F xs vs):U2 K (Ite K a) F (Q5 xs):=λF' H sF sH i=>by
 have q:U0 K H a vs:=Wb (sF.trans sH) h;refine⟨λd hd=>?_,λhl=>⟨vs,q,by rw[<-r.length,<-K5];exact hl⟩⟩;obtain⟨x,hx,rfl⟩:=Kz hd;obtain⟨v,h1,h2⟩:=r.get hx;refine⟨⟨vs,v,q,h1⟩,λy H' zq9=>?_⟩;obtain⟨p,w,e1,e2,e3,e4⟩:=zq9;subst e1 e3;have e5:=e4 vs q;rw[h1]at e5;cases e5;have hp:F' p=aB:=sH.free e2;have sm:Zl F' (Up F' [(p,.tup [.int (i:Nat),v])]):=Qu λz hz=>by obtain rfl:=ao.mp hz;exact hp
 refine⟨J1 e2,[(p,.tup [.int (i:Nat),v])],Ku,λz hz=>?_,.tup Yr (.cons (.int _) (.cons (h2.mono (sF.trans sm)) .nil))⟩;obtain rfl:=ao.mp hz;exact⟨e2,Yr⟩
section
variable{Z:Ent K}{H:Hp}{σ:L2.St}{Q:VK}
@[simp]noncomputable def Zlt(fd:FD):FD:=λδ=>(fd δ).bind λp=>match p.1 with
 | [.lst xs]=>aA (Q5 xs,p.2)
 |_=>aB
theorem Zjd{fd:FD}{R:It->Hp->Prop}(h:Qj Z (Zlt fd) σ H R):Zls K (Qd Z fd) σ H R:=by
 obtain⟨F,δ,own,ds,δ',s,e,k⟩:=h;obtain⟨⟨ds1,δ1⟩,e1,e2⟩:=aa.mp e;refine⟨F,δ,own,ds1,δ1,s,e1,λvs H1 F1 own1 sH sF s1 r1=>?_⟩;dsimp only at e2;split at e2
 ·rename_i xs;cases e2;cases r1 with
  |cons h t=>
   cases t;cases h with
   |lst h _ r=>exact⟨_,_,rfl,Wb s1.le h,k _ H1 F1 own1 sH sF s1 (S4 h r)⟩
 ·cases e2
@[simp]noncomputable def D.ty:D->String
 | .str _=>"str"
 | .int _=>"int"
 | .lst _=>"list"
 | .dK _ _=>"dict"
 | .dT _ _=>"dict"
 |_=>"?"
@[simp]noncomputable def Znt(T:String)(d:D):Bool:=T==d.ty&&(T=="str" ||T=="list" ||T=="dict")
theorem Zra{F H:Hp}{d:D}{x:V}{T:String}(le:Zl F H)(r:Yf K F H d x)(h:Znt T d=aC):tyV K T x H:=by
 unfold Znt at h;simp only[Bool.and_eq_true,beq_iff_eq]at h;obtain⟨h1,h2⟩:=h;subst h1;cases d with
 |str y=>rw[r.str];rfl
 |lst xs=>obtain⟨a,vs,e,ha,_⟩:=r.lst le;subst e;exact .inl ⟨rfl,vs,ha⟩
 |dK ks vs=>obtain⟨a,kvs,e,⟨ep,ha⟩,_⟩:=r.dK le;subst e;exact .inr (.inr (.inl ⟨rfl,.inl ⟨kvs,ep,ha⟩⟩))
 |dT ks vs=>obtain⟨a,kvs,e,⟨ep,bs,ha⟩,_⟩:=r.dT le;subst e;exact .inr (.inr (.inl ⟨rfl,.inr ⟨kvs,ep,bs,ha⟩⟩))
 |non=>exact absurd (show("?"=="str" || "?"=="list" || "?"=="dict")=aC from h2) (by decide)
 |bl b=>exact absurd (show("?"=="str" || "?"=="list" || "?"=="dict")=aC from h2) (by decide)
 |int i=>exact absurd (show("int"=="str" || "int"=="list" || "int"=="dict")=aC from h2) (by decide)
 |tup xs=>exact absurd (show("?"=="str" || "?"=="list" || "?"=="dict")=aC from h2) (by decide)
 |exc C ks vs=>exact absurd (show("?"=="str" || "?"=="list" || "?"=="dict")=aC from h2) (by decide)
 |dX ks vs=>exact absurd (show("?"=="str" || "?"=="list" || "?"=="dict")=aC from h2) (by decide)
end
@[simp]noncomputable def strs?:List D->Option (List Str)
 | []=>aA []
 | .str x::r=>(strs? r).bind λt=>aA (x::t)
 |_=>aB
variable{Z:Ent K}
@[simp]noncomputable def D.pyTy:D->String
 | .non=>"NoneType"
 | .bl _=>"bool"
 | .int _=>"int"
 | .str _=>"str"
 | .tup _=>"tuple"
 | .lst _=>"list"
 | .dK _ _=>"dict"
 | .dT _ _=>"dict"
 | .dX _ _=>"?"
 | .exc _ _ _=>"?"
@[simp]noncomputable def D.isExc:D->Bool
 | .exc _ _ _=>aC
 | .dX _ _=>aC
 |_=>aD
theorem Zje{F H:Hp}{d:D}{x:V}(le:Zl F H)(r:Yf K F H d x)(hx:d.isExc=aD):TyX K H x d.pyTy:=by
 cases d with
 |exc C ks vs=>cases hx
 |dX ks vs=>cases hx
 |non=>rw[r.non];exact .non
 |bl b=>rw[r.bl];exact .bl b
 |int i=>rw[r.int];exact .int i
 |str y=>rw[r.str];exact .str y
 |tup xs=>obtain⟨a,vs,e,ha,_⟩:=r.tup le;subst e;exact .tup ha
 |lst xs=>obtain⟨a,vs,e,ha,_⟩:=r.lst le;subst e;exact .lst ha
 |dK ks vs=>obtain⟨a,kvs,e,⟨ep,ha⟩,_⟩:=r.dK le;subst e;exact .dK ha
 |dT ks vs=>obtain⟨a,kvs,e,⟨ep,bs,ha⟩,_⟩:=r.dT le;subst e;exact .dT ha
@[simp]noncomputable def Zjf(c:String)(d:D):Option SV:=if d.isExc=true then none else some (.fz (.bl (d.pyTy==c|| (c=="int" &&d.pyTy=="bool"))))
theorem Zrb{c:String}(hk:∀d:D,d.isExc=aD->PySem.W.kitOne K (.type d.pyTy) (.type c)=aA (d.pyTy==c|| (c=="int" &&d.pyTy=="bool"))):Zll Z (λx H Q=>Zq9 K c [x,.ty c] H Q) (Zjf c):=by
 intro F H σ δ own x d sv Q s r e k;unfold Zjf at e;split at e
 ·cases e
 ·rename_i hx;cases e;have hx':d.isExc=aD:=by cases z:d.isExc with
   |true=>exact absurd z hx
   |false=>rfl
  exact⟨x,_,_,rfl,Zje s.le r hx',hk d hx',k.fz s (.bl _)⟩
@[simp]noncomputable def Fs:List D->Option SV
 | [.lst xs]=>aA (.fz (.int (xs.length:Nat)))
 | [.tup xs]=>aA (.fz (.int (xs.length:Nat)))
 | [.str x]=>if x.length<=cx then aA (.fz (.int (x.length:Nat)))else aB
 |_=>aB
theorem Zrc:Ot Z (λxs H Q=>(∃p ys,xs=[V.ref p]/\(U0 K H p ys\/Mw K H p ys)/\Q (.int ys.length) H)\/(∃z,xs=[V.str z]/\z.length<=cx/\Q (.int z.length) H)) Fs:=by
 intro F H σ δ own vs ds sv Q s r e k;unfold Fs at e;split at e
 ·cases e;cases r with
  |cons h t=>cases t;obtain⟨a,us,ex,ha,ra⟩:=h.lst s.le;subst ex;exact .inl ⟨a,us,rfl,.inl ha,by rw[<-ra.length];exact k.fz s (.int _)⟩
 ·cases e;cases r with
  |cons h t=>cases t;obtain⟨a,us,ex,ha,ra⟩:=h.tup s.le;subst ex;exact .inl ⟨a,us,rfl,.inr ha,by rw[<-ra.length];exact k.fz s (.int _)⟩
 ·split at e
  ·rename_i hz;cases e;cases r with
   |cons h t=>cases t;exact .inr ⟨_,by rw[h.str],hz,k.fz s (.int _)⟩
  ·cases e
 ·cases e
@[simp]noncomputable def Eo:List D->Option SV
 | [.lst xs]=>aA (.fz (.tup xs))
 |_=>aB
theorem Zjg:Ot Z (λxs H Q=>∃p ys,xs=[V.ref p]/\((U0 K H p ys/\∀l,H l=aB->Q (.ref l) (Y0 H l (.tup ys)))\/(Mw K H p ys/\Q (.ref p) H))) Eo:=by
 intro F H σ δ own vs ds sv Q s r e k;unfold Eo at e;split at e
 ·cases e;cases r with
  |cons h t=>cases t;obtain⟨a,us,ex,ha,ra⟩:=h.lst s.le;subst ex;exact⟨a,us,rfl,.inl ⟨ha,λl hl=>k.tup s ra hl⟩⟩
 ·cases e
@[simp]noncomputable def Zfa:List D->Option SV
 | [.int i]=>aA (.fz (.int i))
 | [.bl b]=>aA (.fz (.int (if b then 1 else 0)))
 |_=>aB
theorem Zrd:Ot Z (λxs H Q=>(∃i,xs=[V.int i]/\Q (.int i) H)\/∃k,xs=[V.bl k]/\Q (.int (if k then 1 else 0)) H) Zfa:=by
 intro F H σ δ own vs ds sv Q s r e k;unfold Zfa at e;split at e
 ·cases e;cases r with
  |cons h t=>cases t;exact .inl ⟨_,by rw[h.int],k.fz s (.int _)⟩
 ·cases e;cases r with
  |cons h t=>cases t;exact .inr ⟨_,by rw[h.bl],k.fz s (.int _)⟩
 ·cases e
section
variable{X:Cx}{Z:Ent X.K}{a b c:c5}{fa fb fc:FE}{pos:Pos}
theorem Zb(i:Nat){x:Str}{pos:Pos}(hN:X.N[i]? =aA x:=by rfl)(hv:D2 X.env.scope x:=by first|exact Or.inl rfl|exact Or.inr (Or.inl rfl)|exact Or.inr (Or.inr rfl))(hd:(x==("__debug__":Str))=aD:=by decide)
  (hcd:(x==("__classdict__":Str))=aD:=by decide):PE X (.Name x pos) (Ze Z (Za i)):=(O6 hN hv hd hcd).imp λ_ _ _ h=>Zql h
theorem Zx{i:Int}{j:Nat}:PE X (.Constant (.int i) j pos) (Ze Z (Zg (.int i))):=Zmq.imp λ_ _ _ h=>N3 (λ_=>.int _) h
theorem Ft{i:Bool}{j:Nat}:PE X (.Constant (.bool i) j pos) (Ze Z (Zg (.bl i))):=Zpn.imp λ_ _ _ h=>N3 (λ_=>.bl _) h
theorem Co{i:Str}{j:Nat}:PE X (.Constant (.str i) j pos) (Ze Z (Zg (.str i))):=Zd0.imp λ_ _ _ h=>N3 (λ_=>.str _) h
theorem Zab{op:Operator}{r:R2}{g:D->D->Option SV}(ho:Cq X (binaryOp op) r)(hp:Y6 Z r g)(ha:PE X a (Ze Z fa))(hb:PE X b (Ze Z fb)):PE X (.BinOp a op b pos) (Ze Z (Zn g fa fb)):=(Zp0 ho ha hb).imp λ_ _ _ h=>Kv hp h
theorem Qv(ha:PE X a (Ze Z fa))(hb:PE X b (Ze Z fb)):PE X (.BinOp a .Add b pos) (Ze Z (Zn U7 fa fb)):=Zab Zjb Zq5 ha hb
theorem N8(ha:PE X a (Ze Z fa))(hb:PE X b (Ze Z fb)):PE X (.BinOp a .FloorDiv b pos) (Ze Z (Zn Kx fa fb)):=Zab Zil Znq ha hb
theorem J3(ha:PE X a (Ze Z fa))(hb:PE X b (Ze Z fb)):PE X (.BinOp a .Mod b pos) (Ze Z (Zn Bv fa fb)):=Zab Zm3 Zq4 ha hb
theorem Zlu{op:CmpOp}{r:R2}{g:D->D->Option SV}(ho:Cq X (g6 op) r)(hp:Y6 Z r g)(ha:PE X a (Ze Z fa))(hb:PE X b (Ze Z fb))(hm:behindInMarks op b=aD):PE X (.Compare a [op] [b] pos) (Ze Z (Zn g fa fb)):=(Zim ho ha hb hm).imp λ_ _ _ h=>Kv hp h
theorem Ep{op:CmpOp}{r:R2}{g:D->D->Option SV}(ho:Cq X (g6 op) r)(hp:Y6 Z r g)(ha:PE X a (Ze Z fa))(hb:PE X b (Ze Z fb))(hm:behindInMarks op b=aD):PT X (.Compare a [op] [b] pos) (Ym Z (Yy (Zn g fa fb))):=
 (Zin ho ha hb hm).imp λσ H Q h=>by obtain⟨F,δ,own,rv,δ',s,e,k⟩:=X6 h;exact Kv hp ⟨F,δ,own,rv,δ',s,e,k⟩
theorem Zuc(ha:PE X a (Ze Z fa))(hb:PE X b (Ze Z fb)):PT X (.Compare a [.Lt] [b] pos) (Ym Z (Yy (Zn U6 fa fb))):=Ep Zp4 Zt3 ha hb (Ed _)
theorem Zre(ha:PE X a (Ze Z fa))(hb:PE X b (Ze Z fb)):PT X (.Compare a [.Gt] [b] pos) (Ym Z (Yy (Zn gtD fa fb))):=Ep Zp5 Zt4 ha hb (Ed _)
theorem Znu{f:FT}(ha:PT X a (Ym Z f)):PW X (.BoolOp .And [a] pos) (Ym Z f):=Zie ha
theorem Zfb{f:FT}(ha:PT X a (Ym Z f)):PW X (.BoolOp .Or [a] pos) (Ym Z f):=Zms ha
theorem Zrf{f g:FT}{rest:List c5}(ha:PT X a (Ym Z f))(hb:PW X (.BoolOp .And (b::rest) pos) (Ym Z g)):PW X (.BoolOp .And (a::b::rest) pos) (Ym Z (Znk f g)):=(Zmt ha hb).imp λ_ _ _ h=>Zqo h
theorem Zjh{f g:FT}{rest:List c5}(ha:PT X a (Ym Z f))(hb:PW X (.BoolOp .Or (b::rest) pos) (Ym Z g)):PW X (.BoolOp .Or (a::b::rest) pos) (Ym Z (orF f g)):=(Zpr ha hb).imp λ_ _ _ h=>Zt0 h
theorem Zlv{f:FT}(ha:PT X a (Ym Z f)):PT X (.UnaryOp .Not a pos) (Ym Z (Zi4 f)):=(Zmu ha).imp λ_ _ _ h=>Zqp h
theorem Zac(h:PE X a (Ze Z fa))(he:∀whole,isTrue a X.env whole=(do let v<-whole;standAt a.pos;holding [v] (truthy v)):=by intro _;rfl):PT X a (Ym Z (Yy fa)):=(Zmr h he).imp λ_ _ _ h=>Zi3 h
theorem Zrg{op:BoolOp}(h:PE X a (Ze Z fa)):PE X (.BoolOp op [a] pos) (Ze Z fa):=Zmv h
theorem Zud{rest:List c5}(ha:PE X a (Ze Z fa))(hb:PE X (.BoolOp .Or (b::rest) pos) (Ze Z fb)):PE X (.BoolOp .Or (a::b::rest) pos) (Ze Z (orV fa fb)):=(Zpt ha hb).imp λ_ _ _ h=>Zqr h
theorem Yn:PA X [] (Cm Z Zi):=Bq.imp λ_ _ _ h=>Zez h
theorem Zm{es:List c5}{fr:FA}(ha:PE X a (Ze Z fa))(hr:PA X es (Cm Z fr))(hs:ba (a::es) X.env=(aD,gw a X.env)::ba es X.env:=by rfl):PA X (a::es) (Cm Z (Zc fa fr)):=(Um ha hr hs).imp λ_ _ _ h=>Zci h
theorem Z7:PA X [] (Qd Z Zo):=Bq.imp λ_ _ _ h=>Kw h
theorem Zt{es:List c5}{fr:FD}(ha:PE X a (Ze Z fa))(hr:PA X es (Qd Z fr))(hs:ba (a::es) X.env=(aD,gw a X.env)::ba es X.env:=by rfl):PA X (a::es) (Qd Z (Zh fa fr)):=(Um ha hr hs).imp λ_ _ _ h=>El h
theorem U8{es:List c5}{fd:FD}{k:Nat}(h:PA X es (Qd Z fd)):PE X (.Tuple es k pos) (Ze Z (tupF fd)):=(Zm5 h).imp λ_ _ _ h=>Zqm h
theorem Wu{es:List c5}{fd:FD}(h:PA X es (Qd Z fd)):PE X (.List es pos) (Ze Z (Ji fd)):=(Xt h).imp λ_ _ _ h=>Zqn h
theorem Zfc(ha:PE X a (Ze Z fa)):PO X (aA a) (Ky Z (Zaa fa)):=λpins s σ H Q I h=>Zip ha pins s σ H Q I (Znr h)
theorem Zue{lo hi:Option c5}{fl fh:FO}{p2:Pos}(ha:PE X a (Ze Z fa))(hl:PO X lo (Ky Z fl))(hh:PO X hi (Ky Z fh)):PE X (.Subscript a (.Slice lo hi aB p2) pos) (Ze Z (slF slD fa fl fh)):=
 (Zed (Zit.or Zns) ha hl hh).imp λ_ _ _ h=>Zt9 Zua h
theorem Yo{k n:Nat}{f:au}{fd:cr}{ps:List Str}{g:List D->Option SV}{x:Str}{p:Pos}{es:List c5}{fr:FA}(F:FnOk X.prog X.w X.K X.mg X.base Uo k f fd ps (Y5 X.K n g))(hr:Room k X.A)(hm:X.mg x=aA (.ref f))(hk:bn X.K (.ref f)=aC)(hb:Wp X.K fd ps [])
  (ha:PA X (a::es) (Cm Z fr)) (hg:Gl X x:=by rfl) (hdb:(x==("__debug__":Str))=aD:=by decide) (he:ba (a::es) X.env=(aD,gw a X.env)::ba es X.env:=by rfl) (hpl:(gp pos (ba es X.env)).any (·.1)=aD:=by rfl):
  PE X (.Call (.Name x p) (a::es) [] pos) (Ze Z (Yu n g fr)):=(Zio F hr hg hm hk hb .nil Zqi ha hdb he hpl).imp λ_ _ _ h=>Znj h
theorem Ah{id:String}{r:List V->Hp->VK->Prop}{g:List D->Option SV}{x:Str}{p:Pos}{es:List c5}{fr:FA}(hc:Q4 X (.builtin id) r)(hp:Ot Z r g)(hm:X.mg x=aB)(hv:bootBuiltins x=aA (.builtin id))(ha:PA X (a::es) (Cm Z fr))(hg:Gl X x:=by rfl)(hn:x≠"__name__":=by decide)(hdb:(x==("__debug__":Str))=aD:=by decide)
  (he:ba (a::es) X.env=(aD,gw a X.env)::ba es X.env:=by rfl) (hpl:(gp pos (ba es X.env)).any (·.1)=aD:=by rfl):PE X (.Call (.Name x p) (a::es) [] pos) (Ze Z (Yd g fr)):=(Ss hc hg hm hv ha hn hdb he hpl).imp λ_ _ _ h=>N4 hp h
theorem R5{T:String}{r:List V->Hp->VK->Prop}{g:List D->Option SV}{x:Str}{p:Pos}{es:List c5}{fr:FA}(hc:Q4 X (.type T) r)(hp:Ot Z r g)(hm:X.mg x=aB)(hv:bootBuiltins x=aA (.type T))(ha:PA X (a::es) (Cm Z fr))(hg:Gl X x:=by rfl)(hn:x≠"__name__":=by decide)(hdb:(x==("__debug__":Str))=aD:=by decide)
  (he:ba (a::es) X.env=(aD,gw a X.env)::ba es X.env:=by rfl) (hpl:(gp pos (ba es X.env)).any (·.1)=aD:=by rfl):PE X (.Call (.Name x p) (a::es) [] pos) (Ze Z (Yd g fr)):=(Zca hc hg hm hv ha hn hdb he hpl).imp λ_ _ _ h=>N4 hp h
theorem Er{p:Pos}(hm:X.mg "len"=aB)(ha:PE X a (Ze Z fa))(hg:Gl X "len":=by rfl)(he:ba [a] X.env=(aD,gw a X.env)::ba [] X.env:=by rfl)(hpl:(gp pos (ba [] X.env)).any (·.1)=aD:=by rfl):PE X (.Call (.Name "len" p) [a] [] pos) (Ze Z (Yd Fs (Zc fa Zi))):=
 Ah (Nw.or Nx) Zrc hm PySem.boot_len (Zm ha Yn he) hg (by decide) (by decide) he hpl
theorem Zad{p:Pos}(hm:X.mg "tuple"=aB)(ha:PE X a (Ze Z fa))(hg:Gl X "tuple":=by rfl)(he:ba [a] X.env=(aD,gw a X.env)::ba [] X.env:=by rfl)(hpl:(gp pos (ba [] X.env)).any (·.1)=aD:=by rfl):PE X (.Call (.Name "tuple" p) [a] [] pos) (Ze Z (Yd Eo (Zc fa Zi))):=
 R5 Fq Zjg hm boot_tuple (Zm ha Yn he) hg (by decide) (by decide) he hpl
theorem Zfd{p:Pos}(hm:X.mg "int"=aB)(ha:PE X a (Ze Z fa))(hg:Gl X "int":=by rfl)(he:ba [a] X.env=(aD,gw a X.env)::ba [] X.env:=by rfl)(hpl:(gp pos (ba [] X.env)).any (·.1)=aD:=by rfl):PE X (.Call (.Name "int" p) [a] [] pos) (Ze Z (Yd Zfa (Zc fa Zi))):=
 R5 Zb8 Zrd hm boot_int (Zm ha Yn he) hg (by decide) (by decide) he hpl
theorem Zrh{x:Str}{c:String}{p p2:Pos}(hm:X.mg "isinstance"=aB)(hmc:X.mg x=aB)(hv:bootBuiltins x=aA (.type c))(hk:∀d:D,d.isExc=aD->PySem.W.kitOne X.K (.type d.pyTy) (.type c)=aA (d.pyTy==c|| (c=="int" &&d.pyTy=="bool")))(ha:PE X a (Ze Z fa))(hg:Gl X "isinstance":=by rfl)(hgc:Gl X x:=by rfl)
  (hn:x≠"__name__":=by decide) (hdb:(x==("__debug__":Str))=aD:=by decide)
  (he:ba [a,.Name x p2] X.env=(aD,gw a X.env)::ba [.Name x p2] X.env:=by rfl) (he2:ba [.Name x p2] X.env=(aD,gw (.Name x p2) X.env)::ba [] X.env:=by rfl) (hpl:(gp pos (ba [.Name x p2] X.env)).any (·.1)=aD:=by rfl):
  PE X (.Call (.Name "isinstance" p) [a,.Name x p2] [] pos) (Ze Z (unF (Zjf c) fa)):=
 (Ss Ze9 hg hm boot_isinstance (Um ha (Um (Zid (v:=.ty c) hgc hmc hv rfl hn hdb) Bq he2) he) (by decide) (by decide) he hpl).imp λσ H Q h=>by have h2:=Ztz (Zrb hk) h;exact h2
theorem Zu(i:Nat){x:Str}(hN:X.N.Nodup)(hi:X.N[i]? =aA x:=by rfl)(hx:Loc X.env.scope x:=by first|exact Or.inl rfl|exact Or.inr rfl)(hf:X.fn x=aC\/X.env.scope.names.lookup x=aA .local:=by first|exact .inl rfl|exact .inr rfl):PG X (.Name x pos) (Cn Z (Zd i)):=(Zii hN hi hx hf).imp λ_ _ _ _ h=>Zi5 h
theorem Bw:PGs X [] (Cu Z Wg):=Zij.imp λ_ _ _ _ h=>Znm h
theorem Y1{es:List c5}{g:FG}{r:FGs}(h1:PG X a (Cn Z g))(h2:PGs X es (Cu Z r))(hs:(assignEach (a::es) X.env).map (·.2)=assign a X.env::(assignEach es X.env).map (·.2):=by rfl):PGs X (a::es) (Cu Z (Zs g r)):=(Zd4 h1 h2 hs).imp λ_ _ _ _ h=>Zi6 h
theorem R6{es:List c5}{k n:Nat}{g:FGs}(hc:X.calm=aC)(h:PGs X es (Cu Z g))(hn:(assignEach es X.env).length=n:=by rfl)(hst:(assignEach es X.env).findIdx? (·.1)=aB:=by rfl):PG X (.Tuple es k pos) (Cn Z (We n g)):=(Zmx hc h hn hst).imp λ_ _ _ _ h=>Znn h
theorem Tw{tg:c5}{p:Pos}(hm:X.mg "range"=aB)(ha:PE X a (Ze Z fa))(hg:Gl X "range":=by rfl)(hs:ba [a] X.env=[(aD,gw a X.env)]:=by rfl):PI X tg (.Call (.Name "range" p) [a] [] pos) (Qj Z (Fr (Zc fa Zi))):=(Zb5 hg hm (Zm ha Yn hs) hs).imp λ_ _ _ h=>Zno h
theorem Wn{N':List Str}{scope:Scope}{src:List BSrc}(kind:scope.kind= .function)(nocell:(scope.names.all λy=>!(y.2== .cell))=aC)(names:(scope.names.all λy=>!(y.2== .local)|| (scope.names.lookup y.1==aA .local))=aC)
  (free:(scope.names.all λy=>!(y.2== .free)|| (X.env.kindOf y.1==aA .cell)|| (X.env.kindOf y.1==aA .free))=aC) (len:src.length=N'.length)
  (cap:((cz src.length).all λk=>match src[k]?,N'[k]? with
   |some (.cap j),aA x=>(X.N[j]? ==aA x)&&((X.env.kindOf x==aA .cell)|| (X.env.kindOf x==aA .free))&&(scope.names.lookup x==aA .free)
   |some .acc,aA x=>scope.names.lookup x==aB
   |_,_=>aC)=aC):CompScope X N' scope src:=by
 have capk:∀(k:Nat) (q:BSrc) (x:Str),src[k]? =aA q->N'[k]? =aA x->(match aA q,aA x with
   |some (.cap j),aA x=>(X.N[j]? ==aA x)&&((X.env.kindOf x==aA .cell)|| (X.env.kindOf x==aA .free))&&(scope.names.lookup x==aA .free)
   |some .acc,aA x=>scope.names.lookup x==aB
   |_,_=>aC)=aC:=λk q x h1 h2=>by
  have hk:k<src.length:=(ax.mp h1).1;have:=ie.mp cap k (cn.mpr hk);rw[h1,h2]at this;exact this
 refine⟨kind,λy hy e=>?_,λy hy e=>?_,λy hy e=>?_,len,λk j x h1 h2=>?_,λk x h1 h2=>?_⟩
 ·have:=ie.mp nocell y hy;rw[e]at this;cases this
 ·have:=ie.mp names y hy;rw[e]at this;simpa using this
 ·have:=ie.mp free y hy;rw[e]at this;simpa using this
 ·have:=capk k (.cap j) x h1 h2;simp only[Bool.and_eq_true,Bool.or_eq_true,beq_iff_eq]at this;exact⟨this.1.1,this.1.2,this.2⟩
 ·have:=capk k .acc x h1 h2;simpa using this
theorem Cv{src:List BSrc}(k:Nat)(acc:src[k]? =aA .acc)(uni:((cz src.length).all λi=>match src[i]? with
   |some .acc=>i==k
   |_=>aC)=aC):SrcOk src k:=⟨acc,λi h=>by
  have hi:i<src.length:=(ax.mp h).1;have:=ie.mp uni i (cn.mpr hi);rw[h]at this;simpa using this⟩
theorem Zfe(K:ah):∀d:D,d.isExc=aD->PySem.W.kitOne K (.type d.pyTy) (.type "list")=aA (d.pyTy=="list" || ("list"=="int" &&d.pyTy=="bool")):=by intro d h;cases d<;> first| (cases h;done)|with_unfolding_all rfl
theorem xg{tg:c5}{g:FG}(h:∀Z:Ent X.K,PG X tg (Cn Z g)):PG X tg (xG X.K g):=λpins s σ H v u Q I r ⟨Z,q⟩=>h Z pins s σ H v u Q I r q
theorem xe{e:c5}{f:FE}(h:∀Z:Ent X.K,PE X e (Ze Z f)):PE X e (xE X.K f):=λpins s σ H Q I ⟨Z,q⟩=>h Z pins s σ H Q I q
theorem xt{e:c5}{f:FT}(h:∀Z:Ent X.K,PT X e (Ym Z f)):PTs X [e] (xT X.K f):=λpins s σ H Q I ⟨Z,q⟩=>Zi1 (h Z) pins s σ H Q I q
theorem xt0:PTs X [] (xT X.K W0):=λpins s σ H Q I ⟨Z,q⟩=>by obtain⟨F,δ,own,b,δ',sr,e,k⟩:=q;cases e;exact Zi0 pins s σ H Q I (k H F own (Zl.refl H) (Zl.refl F) sr)
theorem Bx{N':List Str}{scope:Scope}{src:List BSrc}{k:Nat}{tg elt iter:c5}{ifs:List c5}{fi:FD}{g:FG}{tt:FT}{te:FE}(hc:X.calm=aC)(S:CompScope X N' scope src)(So:SrcOk src k)(hk:k∉g.tch)(hi:PI X tg iter (Qj Z fi))
  (hg:∀(C:au) (s₀:aq) (H₀:Hp) (ex:List au),PG (X.block N' scope C s₀ H₀ ex) tg (xG X.K g)) (ht:∀(C:au) (s₀:aq) (H₀:Hp) (ex:List au),PTs (X.block N' scope C s₀ H₀ ex) ifs (xT X.K tt)) (he:∀(C:au) (s₀:aq) (H₀:Hp) (ex:List au),PE (X.block N' scope C s₀ H₀ ex) elt (xE X.K te))
  (hs:∀x,foldedSetIterable iter X.env x=pure x:=by intro _;rfl):PE X (.ListComp elt [⟨tg,iter,ifs,0⟩] scope pos) (Ze Z (Uk src k fi g tt te)):=(Zi2 hc S hi hg ht he hs).imp λ_ _ _ h=>Ze4 So hk h
theorem Q6:Tt X [] (Z9 Z Uj):=Zif.imp λ_ _ _ h=>Znl h
theorem Zf{st:Stmt}{rest:List Stmt}{f g:FS}(h1:PS X st (Z9 Z f))(h2:Tt X rest (Z9 Z g)):Tt X (st::rest) (Z9 Z (Z1 f g)):=(Zd1 h1 h2).imp λ_ _ _ h=>Zqs h
theorem Zq{st:Stmt}{f:FS}(h:PS X st (Z9 Z f)):Tt X [st] (Z9 Z f):=Zig h
theorem Wq(h:PE X a (Ze Z fa)):PS X (.Return (aA a) pos) (Z9 Z (Je fa)):=(Zd2 h).imp λ_ _ _ h=>Zqu h
theorem R7{t:FT}{f g:FS}{bt be:List Stmt}(hc:PT X c (Ym Z t))(ha:Tt X bt (Z9 Z f))(hb:Tt X be (Z9 Z g)):PS X (.If c bt be pos) (Z9 Z (Xk t f g)):=(Zpw hc ha hb).imp λ_ _ _ h=>Zqt h
theorem Z8(i:Nat){x:Str}{pos':Pos}(hN:X.N.Nodup)(he:PE X a (Ze Z fa))(hi:X.N[i]? =aA x:=by rfl)(hx:Loc X.env.scope x:=by first|exact Or.inl rfl|exact Or.inr rfl)(hs:swapsWith a (aA (.Name x pos')) pos.line X.env=pure aD:=by rfl)(hf:X.fn x=aC\/X.env.scope.names.lookup x=aA .local:=by first|exact .inl rfl|exact .inr rfl):
  PS X (.Assign [.Name x pos'] a pos) (Z9 Z (Yt i fa)):=(Zd5 hN hi hx he hs hf).imp λ_ _ _ h=>Zlm h
theorem K6(i:Nat){N':List Str}{scope:Scope}{src:List BSrc}{k:Nat}{tg elt iter:c5}{ifs:List c5}{fi:FD}{g:FG}{tt:FT}{te:FE}{y:Str}{py spos:Pos}(hc:X.calm=aC)(S:CompScope X N' scope src)(So:SrcOk src k)(hk:k∉g.tch)(hi:PI X tg iter (Qj Z fi))
  (hg:∀(C:au) (s₀:aq) (H₀:Hp) (ex:List au),PG (X.block N' scope C s₀ H₀ ex) tg (xG X.K g)) (ht:∀(C:au) (s₀:aq) (H₀:Hp) (ex:List au),PTs (X.block N' scope C s₀ H₀ ex) ifs (xT X.K tt)) (he:∀(C:au) (s₀:aq) (H₀:Hp) (ex:List au),PE (X.block N' scope C s₀ H₀ ex) elt (xE X.K te))
  (hN:X.N.Nodup) (hiy:X.N[i]? =aA y:=by rfl) (hx:X.env.scope.names.lookup y=aA .local:=by rfl) (hsw:swapsWith (.ListComp elt [⟨tg,iter,ifs,0⟩] scope pos) (aA (.Name y py)) spos.line X.env=pure aC:=by rfl)
  (hs:∀x,foldedSetIterable iter X.env x=pure x:=by intro _;rfl):PS X (.Assign [.Name y py] (.ListComp elt [⟨tg,iter,ifs,0⟩] scope pos) spos) (Z9 Z (Yt i (Uk src k fi g tt te))):=
 (X5 hc S hi hg ht he hN hiy hx hsw hs).imp λD σ H h=>by obtain⟨F,δ,own,rv,δ',s,e,q⟩:=Zlm h;exact Ze4 So hk ⟨F,δ,own,rv,δ',s,e,q⟩
theorem Es{tg:c5}{g:FG}(he:PE X a (Ze Z fa))(hg:PG X tg (Cn Z g))(hs:swapsWithSole [tg] a pos.line X.env=pure aD:=by rfl)(hw:swappedStores [tg] a X.env=pure aB:=by rfl)(h1:(assignEach [tg] X.env).map (·.2)=[assign tg X.env]:=by rfl):
  PS X (.Assign [tg] a pos) (Z9 Z (R1 g fa)):=(Zmy he hg hs hw h1).imp λ_ _ _ h=>Ze1 h
theorem Wh{tg iter:c5}{body:List Stmt}{fi:FD}{g:FG}{f:FS}(hp:PassesOwn (bz X.prog X.w) X.A X.env X.xe)(hc:X.calm=aC)(hi:PI X tg iter (Qj Z fi))(hg:PG X tg (Cn Z g))(hb:Tt X body (Z9 Z f))(hs:∀x,foldedSetIterable iter X.env x=pure x:=by intro _;rfl):
  PS X (.For tg iter body [] pos) (Z9 Z (Qr fi g f)):=(Zmz hp hc hi hg hb hs).imp λ_ _ _ h=>Zqx h
theorem Zjj(n:Nat){t:FT}{body:List Stmt}{f:FS}(hp:PassesOwn (bz X.prog X.w) X.A X.env X.xe)(hc:PT X c (Ym Z t))(hb:Tt X body (Z9 Z f)):PS X (.While c body [] pos) (Z9 Z (U3 t f n)):=(Zd7 hp hc hb).imp λ_ _ _ h=>Zi7 h
theorem Cw(i:Nat){x:Str}{px apos cpos:Pos}(hb:PE X b (Ze Z fb))(hN:X.N[i]? =aA x:=by rfl)(hv:D2 X.env.scope x:=by first|exact Or.inl rfl|exact Or.inr (Or.inl rfl)|exact Or.inr (Or.inr rfl))(hd:(x==("__debug__":Str))=aD:=by decide)
  (hcd:(x==("__classdict__":Str))=aD:=by decide) (hbase:attributeBase (.Name x px) "append" X.env (gw (.Name x px) X.env)=gw (.Name x px) X.env:=by rfl)
  (hfew:((gp cpos (ba [b] X.env)).all (λx=>!x.1)&&(backToKw cpos (keywordEach [] X.env)).all (λx=>x.1.isSome)&&decide ([b].length+([]:List Keyword).length+(if([]:List Keyword).isEmpty then 0 else 1)<30))=aC:=by rfl)
  (hline:(apos.endLine==cpos.line)=aC:=by rfl) (hs:ba [b] X.env=(aD,gw b X.env)::ba [] X.env:=by rfl) (hpl:(gp cpos (ba [] X.env)).any (·.1)=aD:=by rfl) (hsw:swapsWith (.Call (.Attribute (.Name x px) "append" apos) [b] [] cpos) aB pos.line X.env=pure aD:=by rfl):
  PS X (.Expr (.Call (.Attribute (.Name x px) "append" apos) [b] [] cpos) pos) (Z9 Z (R3 i fb)):=
 (Ae (Sv PySem.F.plainAttrs_list PySem.F.slot_list_append PySem.F.type_list_append M0 (O6 (i:=i) hN hv hd hcd) (Um hb Bq hs) hbase hfew hline hs hpl) hsw).imp λ_ _ _ h=>Zqy h
end
@[simp]noncomputable def W1(f:FS)(n:Nat)(ds:List D):Option SV:=match f (N7 n ds)with
 |some (.rt sv)=>aA sv
 |some (.nx _)=>aA (.fz .non)
 |_=>aB
theorem Zff{N:List Str}{n:Nat}{f:FS}{vs:List V}{H:Hp}{Q:VK}{E:XK}(h:Y5 K n (W1 f N.length) vs H Q E):∃F,Z9 (ent H F:Ent K) f {nx:=λ_ H'=>Q .non H',rt:=Q} (L2.Cl N vs) H:=by
 obtain⟨F,ds,sv,le,r,hn,e,k⟩:=h;unfold W1 at e;split at e
 ·rename_i sw hf;cases e;exact⟨F,F,_,_,.rt sv,S2 (N:=N) le r,hf,λv H' F' ns a b c d e' nd ok=>k v H' F' ns d a b c e' nd ok⟩
 ·rename_i δ hf;cases e;exact⟨F,F,_,_,.nx δ,S2 (N:=N) le r,hf,λσ' H' F' own' a s'=>k .non H' F' [] s'.old a s'.le s'.fro (.fz .non) cm λ_ h=>(nomatch h)⟩
 ·cases e
theorem S5{F:Hp}:∀ns:List Int,Reps K F (ns.map D.int) (ns.map V.int)
 | []=>.nil
 |n::r=>.cons (.int n) (S5 r)
end DL
namespace DL
open PySem PySem.Spec PyProof.Rows L2
variable{K:ah}
@[simp]noncomputable def Bi(f:D->D->Option Bool):List D->List D->Option Bool
 |x::xs,y::ys=>(f x y).bind λb=>(Bi f xs ys).bind λc=>aA (b&&c)
 |_,_=>aA aC
@[simp]noncomputable def M5(f:D->D->Option Bool):D->D->Option Bool
 | .lst xs,.lst ys=>if xs.length=ys.length then Bi f xs ys else aA aD
 | .tup xs,.tup ys=>(Bi f xs ys).bind λb=>aA (b&&decide (xs.length=ys.length))
 | .lst _,.tup _=>aA aD
 | .tup _,.lst _=>aA aD
 |d1,d2=>eqS d1 d2
@[simp]noncomputable def Wo:Nat->D->D->Option Bool
 |0=>λ_ _=>aB
 |n+1=>M5 (Wo n)
theorem Et{F H:Hp}{d1 d2:D}{x y:V}{b:Bool}(e:eqS d1 d2=aA b)(r1:Yf K F H d1 x)(r2:Yf K F H d2 y):Wt x=aC/\Wt y=aC/\b=Xw x y:=by unfold eqS at e;split at e<;> cases e<;> (first|obtain rfl:=r1.non|obtain rfl:=r1.int|obtain rfl:=r1.bl|obtain rfl:=r1.str)<;> (first|obtain rfl:=r2.non|obtain rfl:=r2.int|obtain rfl:=r2.bl|obtain rfl:=r2.str)<;> refine⟨rfl,rfl,?_⟩<;> first|rfl|simp[Xw]
section
variable{X:Cx}{pins:List (au×Obj)}{σ:L2.St}{F H:Hp}{s:aq}
theorem Zfg{x y:V}{v:aj}(rx:Zz x v)(ry:Zz y v)(fx:Wt x=aC)(fy:Wt y=aC):Xw x y=aC:=by
 cases x with
 |non=>cases rx;cases y with
  |non=>rfl
  |bl b=>cases ry
  |int b=>obtain⟨t,e⟩:=ry;cases e
  |str b=>obtain⟨t,e⟩:=ry;cases e
  |_=>cases fy
 |bl a=>cases rx;cases y with
  |non=>cases ry
  |bl b=>cases ry;simp[Xw]
  |int b=>obtain⟨t,e⟩:=ry;cases e
  |str b=>obtain⟨t,e⟩:=ry;cases e
  |_=>cases fy
 |int a=>obtain⟨t,rfl⟩:=rx;cases y with
  |non=>cases ry
  |bl b=>cases ry
  |int b=>obtain⟨t,e⟩:=ry;cases e;simp[Xw]
  |str b=>obtain⟨t,e⟩:=ry;cases e
  |_=>cases fy
 |str a=>obtain⟨t,rfl⟩:=rx;cases y with
  |non=>cases ry
  |bl b=>cases ry
  |int b=>obtain⟨t,e⟩:=ry;cases e
  |str b=>obtain⟨t,e⟩:=ry;cases e;simp[Xw]
  |_=>cases fy
 |_=>cases fx
theorem X9{h:f8}{a:au}{i1 i2:Array aj}(h1:h.IsList a i1)(h2:h.IsList a i2):i1=i2:=by obtain⟨o,e1,c1,n1,d1⟩:=h1;obtain⟨o2,e2,c2,n2,d2⟩:=h2;rw[e1]at e2;cases e2;rw[d1]at d2;cases d2;rfl
theorem S6{h:f8}{a:au}{i1 i2:Array aj}(h1:h.IsTuple a i1)(h2:h.IsTuple a i2):i1=i2:=by obtain⟨o,e1,c1,n1,d1⟩:=h1;obtain⟨o2,e2,c2,n2,d2⟩:=h2;rw[e1]at e2;cases e2;rw[d1]at d2;cases d2;rfl
theorem Zae{f:D->D->Option Bool}(hf:∀d1 d2 b x y v,Rep X.K F d1 x->Zz x v->Rep X.K F d2 y->Zz y v->f d1 d2=aA b->b=aC){xs:List D}:∀{ys:List D} {vs ws:List V} {us:List aj} {b:Bool},Reps X.K F xs vs->Z3 vs us->Reps X.K F ys ws->Z3 ws us->Bi f xs ys=aA b->b=aC:=by
 induction xs with
 |nil=>intro ys vs ws us b _ _ _ _ e;cases e;rfl
 |cons x xs ih=>
  intro ys vs ws us b r1 v1 r2 v2 e;cases r1 with
  |cons h1 t1=>
   cases v1 with
   |cons a1 w1=>
    cases v2 with
    |cons a2 w2=>
     cases r2 with
     |cons h2 t2=>obtain⟨b,e1,e2⟩:=aa.mp e;obtain⟨c,e3,e4⟩:=aa.mp e2;cases e4;rw[hf _ _ _ _ _ _ h1 a1 h2 a2 e1,ih t1 w1 t2 w2 e3];rfl
theorem Zck(I:Inv X pins σ H s)(le:Zl F H){f:D->D->Option Bool}(ih:∀(d1 d2:D) (b:Bool) (x y:V) (v:aj),Rep X.K F d1 x->Zz x v->Rep X.K F d2 y->Zz y v->f d1 d2=aA b->b=aC)(d1 d2:D)(b:Bool)(x y:V)(v:aj)(r1:Rep X.K F d1 x)(v1:Zz x v)(r2:Rep X.K F d2 y)(v2:Zz y v)(e:M5 f d1 d2=aA b):b=aC:=by
  unfold M5 at e;split at e
  ·rename_i xs ys;cases r1 with
   |lst q1 _ p1=>
   cases r2 with
   |lst q2 _ p2=>
   cases v1;cases v2;obtain⟨i1,w1,l1,_⟩:=I.list (Wb le q1);obtain⟨i2,w2,l2,_⟩:=I.list (Wb le q2);have z:=X9 l1.isList l2.isList;have z:i1=i2:=by simpa using z
   subst z;split at e
   ·exact Zae (ih) p1 w1 p2 w2 e
   ·rename_i hl;have h1:=w1.length;have h2:=w2.length;have h3:=p1.length;have h4:=p2.length;exact absurd (by omega) hl
  ·rename_i xs ys;cases r1 with
   |tup q1 p1=>
   cases r2 with
   |tup q2 p2=>
   cases v1;cases v2;obtain⟨i1,w1,l1,_⟩:=I.tuple (Qi le (G8 q1));obtain⟨i2,w2,l2,_⟩:=I.tuple (Qi le (G8 q2));have z:=S6 l1 l2;have z:i1=i2:=by simpa using z
   subst z;obtain⟨c,e1,e2⟩:=aa.mp e;cases e2;have h1:=w1.length;have h2:=w2.length;have h3:=p1.length;have h4:=p2.length;rw[Zae (ih) p1 w1 p2 w2 e1,decide_eq_true (by omega)];rfl
  ·cases r1 with
   |lst q1 _ p1=>
   cases r2 with
   |tup q2 p2=>
   cases v1;cases v2;obtain⟨i1,w1,l1,_⟩:=I.list (Wb le q1);obtain⟨i2,w2,l2,_⟩:=I.tuple (Qi le (G8 q2));exact absurd rfl (SeqAt.ne_of_list_tuple (s:=s) l1.isList l2)
  ·cases r1 with
   |tup q1 p1=>
   cases r2 with
   |lst q2 _ p2=>
   cases v1;cases v2;obtain⟨i1,w1,l1,_⟩:=I.tuple (Qi le (G8 q1));obtain⟨i2,w2,l2,_⟩:=I.list (Wb le q2);exact absurd rfl (SeqAt.ne_of_list_tuple (s:=s) l2.isList l1)
  ·obtain⟨f1,f2,rfl⟩:=Et (H:=H) e (Yf.of r1) (Yf.of r2);exact Zfg v1 v2 f1 f2
theorem S7(I:Inv X pins σ H s)(le:Zl F H):∀(n:Nat) (d1 d2:D) (b:Bool) (x y:V) (v:aj),Rep X.K F d1 x->Zz x v->Rep X.K F d2 y->Zz y v->Wo n d1 d2=aA b->b=aC
 |0,_,_,_,_,_,_,_,_,_,_,e=>by cases e
 |n+1,d1,d2,b,x,y,v,r1,v1,r2,v2,e=>Zck I le (S7 I le n) d1 d2 b x y v r1 v1 r2 v2 e
theorem S8{A:di}{f:D->D->Option Bool}(hf:∀d1 d2 b x y v u,Rep X.K F d1 x->Zz x v->Rep X.K F d2 y->Zz y u->f d1 d2=aA b->SeqAt.EqAt A s v u b){xs:List D}:∀{ys:List D} {vs ws:List V} {us zs:List aj} {b:Bool},Reps X.K F xs vs->Z3 vs us->Reps X.K F ys ws->Z3 ws zs->Bi f xs ys=aA b->
  ∃e:Nat->Bool,(∀j (h1:j<us.length) (h2:j<zs.length),SeqAt.EqAt A s us[j] zs[j] (e j))/\(cz (min us.length zs.length)).all e=b:=by
 induction xs with
 |nil=>intro ys vs ws us zs b r1 v1 _ _ e;cases r1;cases v1;cases e;exact⟨λ_=>aC,λj h1=>absurd h1 (dz _),by rw[List.length_nil,Nat.zero_min];rfl⟩
 |cons x xs ih=>
  intro ys vs ws us zs b r1 v1 r2 v2 e;cases r1 with
  |cons h1 t1=>
   cases v1 with
   |cons a1 w1=>
    cases v2 with
    |nil=>cases r2;cases e;exact⟨λ_=>aC,λj _ h2=>absurd h2 (dz _),by rw[List.length_nil,Nat.min_zero];rfl⟩
    |cons a2 w2=>
     cases r2 with
     |cons h2 t2=>
      obtain⟨b,e1,e2⟩:=aa.mp e;obtain⟨c,e3,e4⟩:=aa.mp e2;cases e4;obtain⟨g,g1,g2⟩:=ih t1 w1 t2 w2 e3;refine⟨λj=>Nat.casesOn j b g,λj h1 h2=>?_,?_⟩
      ·cases j with
       |zero=>exact hf _ _ _ _ _ _ _ ‹_› a1 ‹_› a2 e1
       |succ j=>exact g1 j (Nat.lt_of_succ_lt_succ h1) (Nat.lt_of_succ_lt_succ h2)
      ·rw[bc,bc,Nat.succ_min_succ,List.range_succ_eq_map,List.all_cons,List.all_map,<-g2];rfl
theorem rcN(I:Inv X pins σ H s)(le:Zl F H){A:di}{f:D->D->Option Bool}{d1 d2:D}{b:Bool}{x y:V}{v u:aj}
  (ih:∀d1 d2 b x y v u,Rep X.K F d1 x->Zz x v->Rep X.K F d2 y->Zz y u->f d1 d2=aA b->SeqAt.EqAt A.in1 s v u b) (r1:Yf X.K F H d1 x) (v1:Zz x v) (r2:Yf X.K F H d2 y) (v2:Zz y u)
  (e:M5 f d1 d2=aA b) (hu:A.units<fg) (hr:Wt x=aD\/Wt y=aD):(∃a c,v= .ref a/\u= .ref c)/\SeqAt.RcAt A s v u b/\SeqAt.RcNeAt A s v u (!b):=by
 unfold M5 at e;split at e
 ·obtain⟨a1,vs1,rfl,q1,p1⟩:=r1.lst le;obtain⟨a2,vs2,rfl,q2,p2⟩:=r2.lst le;cases v1;cases v2;obtain⟨i1,w1,l1,_⟩:=I.list q1;obtain⟨i2,w2,l2,_⟩:=I.list q2;have h1:=w1.length;have h2:=w2.length;have h3:=p1.length;have h4:=p2.length;refine⟨⟨_,_,rfl,rfl⟩,?_⟩;split at e
  ·rename_i hl;obtain⟨g,g1,g2⟩:=S8 ih p1 w1 p2 w2 e;have hm:min i1.length i2.length=i1.toArray.size:=by simp;omega
   rw[hm]at g2;subst g2;have hz:i1.toArray.size=i2.toArray.size:=by simp;omega
   exact⟨SeqAt.RcAt.lists l1.isList l2.isList hz hu (λj j1 j2=>by simpa using g1 j (by simpa using j1) (by simpa using j2)),SeqAt.RcNeAt.lists l1.isList l2.isList hz hu (λj j1 j2=>by simpa using g1 j (by simpa using j1) (by simpa using j2))⟩
  ·rename_i hl;cases e;have hz:(i1.toArray.size !=i2.toArray.size)=aC:=by simp;omega
   exact⟨SeqAt.RcAt.lists_lengths l1.isList l2.isList hz hu,SeqAt.RcNeAt.lists_lengths l1.isList l2.isList hz hu⟩
 ·rename_i xs ys;obtain⟨a1,vs1,rfl,q1,p1⟩:=r1.tup le;obtain⟨a2,vs2,rfl,q2,p2⟩:=r2.tup le;cases v1;cases v2;obtain⟨i1,w1,l1,_⟩:=I.tuple q1;obtain⟨i2,w2,l2,_⟩:=I.tuple q2;have h1:=w1.length;have h2:=w2.length;have h3:=p1.length;have h4:=p2.length;obtain⟨c,e1,e2⟩:=aa.mp e;cases e2;refine⟨⟨_,_,rfl,rfl⟩,?_⟩;obtain⟨g,g1,g2⟩:=S8 ih p1 w1 p2 w2 e1;subst g2;have e3:((cz (min i1.length i2.length)).all g&&decide (xs.length=ys.length))=((cz (min i1.toArray.size i2.toArray.size)).all g&&i1.toArray.size==i2.toArray.size):=by
   have:(i1.toArray.size==i2.toArray.size)=decide (xs.length=ys.length):=by rw[bp,bp,<-h1,<-h2,<-h3,<-h4];rfl
   rw[this];simp
  rw[e3];exact⟨SeqAt.RcAt.tuples l1 l2 hu (λj j1 j2=>by simpa using g1 j (by simpa using j1) (by simpa using j2)),SeqAt.RcNeAt.tuples l1 l2 hu (λj j1 j2=>by simpa using g1 j (by simpa using j1) (by simpa using j2))⟩
 ·obtain⟨a1,vs1,rfl,q1,p1⟩:=r1.lst le;obtain⟨a2,vs2,rfl,q2,p2⟩:=r2.tup le;cases v1;cases v2;cases e;obtain⟨i1,w1,l1,_⟩:=I.list q1;obtain⟨i2,w2,l2,_⟩:=I.tuple q2;exact⟨⟨_,_,rfl,rfl⟩,SeqAt.RcAt.list_tuple l1.isList l2 hu,SeqAt.RcNeAt.list_tuple l1.isList l2 hu⟩
 ·obtain⟨a1,vs1,rfl,q1,p1⟩:=r1.tup le;obtain⟨a2,vs2,rfl,q2,p2⟩:=r2.lst le;cases v1;cases v2;cases e;obtain⟨i1,w1,l1,_⟩:=I.tuple q1;obtain⟨i2,w2,l2,_⟩:=I.list q2;exact⟨⟨_,_,rfl,rfl⟩,SeqAt.RcAt.tuple_list l1 l2.isList hu,SeqAt.RcNeAt.tuple_list l1 l2.isList hu⟩
 ·obtain⟨f1,f2,_⟩:=Et e r1 r2;rcases hr with hr|hr
  ·rw[f1]at hr;cases hr
  ·rw[f2]at hr;cases hr
theorem M6(I:Inv X pins σ H s)(le:Zl F H):∀(n:Nat) (A:di) (d1 d2:D) (b:Bool) (x y:V) (v u:aj),A.units+n<fg->Rep X.K F d1 x->Zz x v->Rep X.K F d2 y->Zz y u->Wo n d1 d2=aA b->SeqAt.EqAt A s v u b
 |0,_,_,_,_,_,_,_,_,_,_,_,_,_,e=>by cases e
 |n+1,A,d1,d2,b,x,y,v,u,hu,r1,v1,r2,v2,e=>by
  by_cases hf:Wt x=aC/\Wt y=aC
  ·have e':eqS d1 d2=aA b:=by
    unfold Wo M5 at e;split at e
    ·cases r1;cases hf.1
    ·cases r1;cases hf.1
    ·cases r1;cases hf.1
    ·cases r1;cases hf.1
    ·exact e
   obtain⟨f1,f2,rfl⟩:=Et (H:=H) e' (Yf.of r1) (Yf.of r2);exact Zef v1 v2 f1 f2
  ·have hf':Wt x=aD\/Wt y=aD:=by
    cases h1:Wt x with
    |false=>exact .inl rfl
    |true=>cases h2:Wt y with
     |false=>exact .inr rfl
     |true=>exact absurd ⟨h1,h2⟩ hf
   obtain⟨⟨a,c,rfl,rfl⟩,h1,_⟩:=rcN I le (A:=A) (f:=Wo n) (λd1 d2 b x y v u q1 w1 q2 w2 e=>M6 I le n A.in1 d1 d2 b x y v u (by have:A.in1.units=A.units+1:=rfl;omega) q1 w1 q2 w2 e) (Yf.of r1) v1 (Yf.of r2) v2 e (by omega) hf';by_cases hac:a=c
   ·subst hac;rw[S7 I le (n+1) d1 d2 b x y _ r1 v1 r2 v2 e];exact SeqAt.EqAt.same _
   ·exact SeqAt.EqAt.of_refs hac h1
noncomputable def Zjk(K:ah)(neg:Bool):R2:=λx y H Q=>∃F d1 d2 b,Zl F H/\Yf K F H d1 x/\Yf K F H d2 y/\Wo 48 d1 d2=aA b/\(Wt x=aD\/Wt y=aD)/\Q (.bl (if neg then !b else b)) H
theorem Zfh(hu:X.A.units+64<fg):Cq X (g6 .Eq) (Zjk X.K aD):=by intro pins s σ H x y v u Q I rx ry h;obtain⟨F,d1,d2,b,le,r1,r2,e,hf,q⟩:=h;obtain⟨_,h1,_⟩:=rcN I le (A:=X.A) (f:=Wo 47) (λd1 d2 b x y v u q1 w1 q2 w2 e=>M6 I le 47 X.A.in1 d1 d2 b x y v u (by have:X.A.in1.units=X.A.units+1:=rfl;omega) q1 w1 q2 w2 e) r1 rx r2 ry e (by omega) hf;exact h1 X.prog X.w X.xe _ ⟨.bl b,H,I,rfl,q⟩
theorem Znv(hu:X.A.units+64<fg):Cq X (g6 .NotEq) (Zjk X.K aC):=by intro pins s σ H x y v u Q I rx ry h;obtain⟨F,d1,d2,b,le,r1,r2,e,hf,q⟩:=h;obtain⟨_,_,h1⟩:=rcN I le (A:=X.A) (f:=Wo 47) (λd1 d2 b x y v u q1 w1 q2 w2 e=>M6 I le 47 X.A.in1 d1 d2 b x y v u (by have:X.A.in1.units=X.A.units+1:=rfl;omega) q1 w1 q2 w2 e) r1 rx r2 ry e (by omega) hf;exact h1 X.prog X.w X.xe _ ⟨.bl !b,H,I,rfl,q⟩
end
@[simp]noncomputable def D.isFlat:D->Bool
 | .non=>aC| .bl _=>aC| .int _=>aC| .str _=>aC|_=>aD
@[simp]noncomputable def eqX(d1 d2:D):Option SV:=if d1.isFlat=true/\d2.isFlat=true then eqD d1 d2 else(Wo 48 d1 d2).bind λb=>some (.fz (.bl b))
@[simp]noncomputable def neX(d1 d2:D):Option SV:=if d1.isFlat=true/\d2.isFlat=true then neD d1 d2 else(Wo 48 d1 d2).bind λb=>some (.fz (.bl !b))
theorem Bz{F H:Hp}{d:D}{x:V}(r:Yf K F H d x)(h:d.isFlat=aD):Wt x=aD:=by
 obtain⟨sv,ns,e,n,sh,hp⟩:=r;cases sh with
 |fz r=>cases e;cases r<;> first|rfl|cases h
 |ol r=>rfl
 |oK e' r=>rfl
 |oT kb e' r=>rfl
 |oN e' r=>rfl
 |oX kb' e' r=>rfl
 |oD r=>rfl
 |oM kb' e' r=>rfl
 |oL _ r=>rfl
 |oQ e' r=>rfl
section
variable{Z:Ent K}
theorem Zlw:Y6 Z (λx y H Q=>rEq x y H Q\/Zjk K aD x y H Q) eqX:=by
 intro F H σ δ own x y d1 d2 sv Q s r1 r2 e k;unfold eqX at e;split at e
 ·exact .inl (Zt6 F H σ δ own x y d1 d2 sv Q s r1 r2 e k)
 ·rename_i hf;obtain⟨b,e1,e2⟩:=aa.mp e;cases e2;refine .inr ⟨F,d1,d2,b,s.le,r1,r2,e1,?_,k.fz s (.bl _)⟩;cases h1:d1.isFlat with
  |false=>exact .inl (Bz r1 h1)
  |true=>cases h2:d2.isFlat with
   |false=>exact .inr (Bz r2 h2)
   |true=>exact absurd ⟨h1,h2⟩ hf
theorem Zri:Y6 Z (λx y H Q=>rNe x y H Q\/Zjk K aC x y H Q) neX:=by
 intro F H σ δ own x y d1 d2 sv Q s r1 r2 e k;unfold neX at e;split at e
 ·exact .inl (Zt7 F H σ δ own x y d1 d2 sv Q s r1 r2 e k)
 ·rename_i hf;obtain⟨b,e1,e2⟩:=aa.mp e;cases e2;refine .inr ⟨F,d1,d2,b,s.le,r1,r2,e1,?_,k.fz s (.bl _)⟩;cases h1:d1.isFlat with
  |false=>exact .inl (Bz r1 h1)
  |true=>cases h2:d2.isFlat with
   |false=>exact .inr (Bz r2 h2)
   |true=>exact absurd ⟨h1,h2⟩ hf
end
section
variable{X:Cx}{Z:Ent X.K}{a b c:c5}{fa fb fc:FE}{pos:Pos}
theorem Va(hv:X.A.units+64<fg)(ha:PE X a (Ze Z fa))(hb:PE X b (Ze Z fb)):PE X (.Compare a [.Eq] [b] pos) (Ze Z (Zn eqX fa fb)):=Zlu (Zlb.or (Zfh hv)) Zlw ha hb (Ed _)
theorem Zrj(hv:X.A.units+64<fg)(ha:PE X a (Ze Z fa))(hb:PE X b (Ze Z fb)):PT X (.Compare a [.Eq] [b] pos) (Ym Z (Yy (Zn eqX fa fb))):=Ep (Zlb.or (Zfh hv)) Zlw ha hb (Ed _)
theorem Tx(hv:X.A.units+64<fg)(ha:PE X a (Ze Z fa))(hb:PE X b (Ze Z fb)):PT X (.Compare a [.NotEq] [b] pos) (Ym Z (Yy (Zn neX fa fb))):=Ep (Zp3.or (Znv hv)) Zri ha hb (Ed _)
end
end DL
namespace L2
open PySem PySem.Spec PyProof.Rows
section
variable{X:Cx}{tg:c5}
noncomputable def Its(z:Str):It:=⟨λi _=>i<z.length,λi H x H'=>H'=H/\∃c,z.cps[i]? =aA c/\x= .str ⟨#[c]⟩,λi _=>z.length<=i⟩
theorem Zcl{P:bv}{w:c6}{K:ah}{tg:c5}(z:Str)(t:Tok)(it:au):Turn P w K tg (Its z) [it] it (λi h=>h.IsStrIter it (g7 z) z t i)where
 mem:=by simp
 obj:=λi h st b hb=>by
  have e:b=it:=by simpa using hb
  subst e;obtain⟨o,e,c,d⟩:=st;exact⟨o,e,λv q=>by rw[d]at q;cases q⟩
 keep:=λi h h' st k=>by obtain⟨o,e,c,d⟩:=st;exact⟨o,k it (by simp) o e,c,d⟩
 item:=by
  intro X hP hw hK hc i pins s σ H E I hf st hg;subst hP hw hK;obtain⟨f0,f1,f2,f3,f4,f5⟩:=hf it (by simp);have hlt:i<z.cps.size:=hg;have hx:z.cps[i]? =aA z.cps[i]:=by simp[hlt]
  have fin:∀h',h'.IsStrIter it (g7 z) z t (i+1)->gz it s.heap h'->∃u,aA (Value.str ⟨#[z.cps[i]]⟩ s.toks)=aA u/\bd (bz X.prog X.w) X.A (letOwnedTupleGo tg (.ref it) u) (λ_ s2=>∃x H',Inv X pins σ H' s2/\Zz x u/\(Its z).yld i H x H'/\s2.heap.IsStrIter it (g7 z) z t (i+1)/\∀b∈[it],H' b=aB) E {s with heap:=h',toks:=s.toks+1}:=λh' st' sb=>by
   have I1:Inv X pins σ H {s with heap:=h',toks:=s.toks+1}:=I.turned (t':=s.toks+1) (λb o hb q=>(sb.2 b hb).trans q) f0 f1 f3 f4 f5;obtain⟨o,e,c,d⟩:=id st';have hn:["enumerate","zip","dict_itemiterator","dict_reverseitemiterator","odict_iterator","itertools.zip_longest","itertools.pairwise"].contains (g7 z)=aD:=by unfold g7;split<;> decide
   exact⟨_,rfl,Tu (s:={s with heap:=h',toks:=s.toks+1}) e c d hn ⟨.str ⟨#[z.cps[i]]⟩,H,I1,⟨_,rfl⟩,⟨rfl,_,hx,rfl⟩,st',λb hb=>(hf b hb).1⟩⟩
  cases ha:z.cps.all (· <128)with
  |false=>
   have et:g7 z="str_iterator":=by unfold g7;rw[ha];rfl
   rw[et]at st fin;rw[et];exact wpAny_pyNext_wide_item st hx fin
  |true=>
   have et:g7 z="str_ascii_iterator":=by unfold g7;rw[ha];rfl
   rw[et]at st fin;rw[et];exact wpAny_pyNext_ascii_item st hx fin
 done:=by
  intro X hP hw hK hc i pins s σ H E I hf st hg;subst hP hw hK;obtain⟨f0,f1,f2,f3,f4,f5⟩:=hf it (by simp);have hge:z.cps.size<=i:=hg;have hx:z.cps[i]? =aB:=by simp[hge]
  cases ha:z.cps.all (· <128)with
  |false=>
   have et:g7 z="str_iterator":=by unfold g7;rw[ha];rfl
   rw[et]at st;exact wpAny_pyNext_wide_end (I.ok.hd hc) st hx λh' eb=>⟨rfl,I.turned (t':=s.toks) (λb o hb q=>eb b o hb q) f0 f1 f3 f4 f5⟩
  |true=>
   have et:g7 z="str_ascii_iterator":=by unfold g7;rw[ha];rfl
   rw[et]at st;exact wpAny_pyNext_ascii_end (I.ok.hd hc) st hx λh' eb=>⟨rfl,I.turned (t':=s.toks) (λb o hb q=>eb b o hb q) f0 f1 f3 f4 f5⟩
 self:=λ_ _ _ _ _ st h=>by
  cases ha:z.cps.all (· <128)with
  |false=>
   have et:g7 z="str_iterator":=by unfold g7;rw[ha];rfl
   rw[et]at st;exact wpAny_pyIter_striter_wide st h
  |true=>
   have et:g7 z="str_ascii_iterator":=by unfold g7;rw[ha];rfl
   rw[et]at st;exact wpAny_pyIter_striter_ascii st h
noncomputable def Zrk(K:ah)(tl:TE):TI:=λσ H R=>tl σ H λx H1=>(∃a,x= .ref a/\(∃xs,U0 K H1 a xs)/\R (Itl K a) H1)\/(∃a,x= .ref a/\(∃xs,Mw K H1 a xs)/\R (Itt K a) H1)\/(∃z,x= .str z/\R (Its z) H1)
theorem Znw{l:c5}{tl:TE}(hl:PE X l tl):PI X tg l (Zrk X.K tl):=by
 intro pins s σ H R I h;refine Wv (hl pins s σ H _ I h) λv s1 zq9=>?_;obtain⟨x,H1,I1,r1,q1⟩:=zq9;rcases q1 with⟨a,e,⟨xs,hq⟩,q⟩|⟨a,e,⟨xs,hq⟩,q⟩|⟨z,e,q⟩
 ·subst e;cases r1;obtain⟨its,rv,p,hz⟩:=I1.list hq;refine wpAny_pyIter_list p.isList ?_;refine⟨s1.heap.objs.size,[s1.heap.objs.size],_,_,H1,rfl,I1.kept (t':=s1.toks) λb o e=>ar _ e,Zb4 a _,⟨_,a9 _ rfl,rfl,rfl⟩,λb hb=>?_,q⟩;have e:b=s1.heap.objs.size:=by simpa using hb
  subst e;exact I1.fpOk (az _) (I1.hok.fresh (az _))
 ·subst e;cases r1;obtain⟨its,rv,p,hz⟩:=I1.tuple hq;refine wpAny_pyIter_tuple (show s1.heap.IsTuple a its.toArray from p) ?_;refine⟨s1.heap.objs.size,[s1.heap.objs.size],_,_,H1,rfl,I1.kept (t':=s1.toks) λb o e=>ar _ e,Xp a _,⟨_,a9 _ rfl,rfl,rfl⟩,λb hb=>?_,q⟩;have e:b=s1.heap.objs.size:=by simpa using hb
  subst e;exact I1.fpOk (az _) (I1.hok.fresh (az _))
 ·subst e;obtain⟨t,rfl⟩:=r1;refine wpAny_pyIter_strU ?_;refine⟨s1.heap.objs.size,[s1.heap.objs.size],_,_,H1,rfl,I1.kept (t':=s1.toks) λb o e=>ar _ e,Zcl z t _,⟨_,a9 _ rfl,rfl,rfl⟩,λb hb=>?_,q⟩;have e:b=s1.heap.objs.size:=by simpa using hb
  subst e;exact I1.fpOk (az _) (I1.hok.fresh (az _))
noncomputable def Zrl(K:ah):List V->Hp->VK->Prop:=λxs H Q=>∃(p:au) (bs:List Bool),xs=[.ref p]/\U0 K H p (bs.map V.bl)/\Q (.bl (bs.all id)) H
theorem Vb:∀{bs:List Bool} {us:List aj},Z3 (bs.map V.bl) us->us=bs.map Value.bool
 | [],_,r=>by rw[List.map_nil]at r;cases r;rfl
 |b::bs,_,r=>by
  rw[a7]at r;cases r with
  |cons h t=>cases(show _=Value.bool b from h);rw[Vb t];rfl
theorem K7:∀bs:List Bool,(cz bs.length).all (λi=>(bs[i]?).getD aC)=bs.all id
 | []=>rfl
 |b::bs=>by rw[bc,List.range_succ_eq_map,List.all_cons,List.all_map,List.all_cons,<-K7 bs];rfl
theorem Zfi(hc:X.calm=aC):Q4 X (.builtin "all") (Zrl X.K):=by
 intro pins s σ H xs us Q I rs h;obtain⟨p,bs,rfl,hq,q⟩:=h;obtain⟨u,rfl,ru⟩:=Ui rs;cases ru;obtain⟨its,rv,pl,hz⟩:=I.list hq;have e:=Vb rv;subst e;refine call_all_walk (wpAny_pyIter_list pl.isList ?_);have hne:p≠s.heap.objs.size:=λz=>by obtain⟨o,ho,_⟩:=pl.isList;have:=bf ho;rw[z]at this;exact g9 _ this
 refine⟨s.heap.objs.size,_,_,_,_,_,λi=>(bs[i]?).getD aC,rfl,Walks.list (by first|exact I.ok.hd hc| (rw[show X.A.in1.handled=X.A.handled from rfl];exact I.ok.hd hc)) _ p hne (bs.map Value.bool).toArray,⟨⟨_,a9 _ rfl,rfl,rfl⟩,pl.isList.at λo e=>ar _ e⟩,?_,λh' tk hk=>?_⟩
 ·intro i v s' Q' E' hP hQ;have hP':(bs.map Value.bool)[i]? =aA v:=by simpa using hP
  rw[a8]at hP';cases hb:bs[i]? with
  |none=>rw[hb]at hP';cases hP'
  |some b=>rw[hb]at hP';cases hP';dsimp only at hQ;rw[hb]at hQ;exact wpAny_truthy_bool hQ
 ·have e:(cz (bs.map Value.bool).toArray.size).all (λi=>(bs[i]?).getD aC)=bs.all id:=by rw[bp,ag];exact K7 bs
  rw[e];refine⟨.bl _,H,I.kept (t':=tk) λb o hb=>hk b o (λz=>?_) (ar _ hb),rfl,q⟩;have z':b=s.heap.objs.size:=by simpa using z
  have:=bf hb;rw[z']at this;exact g9 _ this
end
end L2
namespace DL
open PySem PySem.Spec PyProof.Rows L2
variable{K:ah}
noncomputable def Vc(z:Str):List D:=z.cps.toList.map λc=>.str ⟨#[c]⟩
theorem Vd{z:Str}{F:Hp}:U2 K (Its z) F (Vc z):=λF' H sF sH i=>by
 have hl:(Vc z).length=z.length:=by unfold Vc;rw[ag];rfl
 refine⟨λd hd=>?_,λh=>by rw[hl]at h;exact h⟩;have hi:i<z.length:=by have:=(ax.mp hd).1;rw[hl]at this;exact this
 refine⟨hi,λx H' zq9=>?_⟩;obtain⟨e1,c,e2,e3⟩:=zq9;subst e1 e3;unfold Vc at hd;rw[a8]at hd;have e4:z.cps.toList[i]? =aA c:=by simpa using e2
 rw[e4]at hd;cases hd;exact⟨Zl.refl _,[],cm,λ_ h=>(nomatch h),.str _⟩
section
variable{Z:Ent K}{H:Hp}{σ:L2.St}{Q:VK}{E:Ends}
@[simp]noncomputable def Ua(fe:FE):FD:=λδ=>(fe δ).bind λp=>(frz p.1 p.2).bind λq=>match q.1 with
 | .lst xs=>aA (xs,q.2)
 | .tup xs=>aA (xs,q.2)
 | .str z=>aA (Vc z,q.2)
 |_=>aB
theorem Znx{fe:FE}{R:It->Hp->Prop}(h:Qj Z (Ua fe) σ H R):Zrk K (Ze Z fe) σ H R:=by
 obtain⟨F,δ,own,ds,δ',s,e,k⟩:=h;obtain⟨⟨rv,δ1⟩,e1,e2⟩:=aa.mp e;obtain⟨⟨d,δ2⟩,e3,e4⟩:=aa.mp e2;refine⟨F,δ,own,rv,δ1,s,e1,λv H1 F1 own1 sH sF s1 r1=>?_⟩;obtain⟨F2,sF2,s2,r2⟩:=s1.settleR r1;obtain⟨F3,own3,sF3,s3,r3⟩:=s2.frzR r2 e3;dsimp only at e4;split at e4
 ·cases e4;cases r3 with
  |lst h _ r=>exact .inl ⟨_,rfl,⟨_,Wb s3.le h⟩,k _ H1 F3 own3 sH (sF.trans (sF2.trans sF3)) s3 (S1 h r)⟩
 ·cases e4;cases r3 with
  |tup h r=>exact .inr (.inl ⟨_,rfl,⟨_,Qi s3.le (G8 h)⟩,k _ H1 F3 own3 sH (sF.trans (sF2.trans sF3)) s3 (X7 (G8 h) r)⟩)
 ·cases e4;cases r3 with
  |str x=>exact .inr (.inr ⟨_,rfl,k _ H1 F3 own3 sH (sF.trans (sF2.trans sF3)) s3 Vd⟩)
 ·cases e4
@[simp]noncomputable def inS(i j:Str):Bool:=!(dw j i 0 j.length 1).isEmpty
@[simp]noncomputable def inD:D->D->Option SV
 | .str i,.str j=>aA (.fz (.bl (inS i j)))
 |_,_=>aB
@[simp]noncomputable def Ha:D->D->Option SV
 | .str i,.str j=>aA (.fz (.bl (!inS i j)))
 |_,_=>aB
theorem Zuh:Y6 Z (λx y H Q=>∃i j,x= .str i/\y= .str j/\Q (.bl (!(dw j i 0 j.length 1).isEmpty)) H) inD:=by
 intro F H σ δ own x y d1 d2 sv Q s r1 r2 e k;unfold inD at e;split at e
 ·cases e;exact⟨_,_,r1.str,r2.str,k.fz s (.bl _)⟩
 ·cases e
theorem Zjl:Y6 Z (λx y H Q=>∃i j,x= .str i/\y= .str j/\Q (.bl (!(!(dw j i 0 j.length 1).isEmpty))) H) Ha:=by
 intro F H σ δ own x y d1 d2 sv Q s r1 r2 e k;unfold Ha at e;split at e
 ·cases e;exact⟨_,_,r1.str,r2.str,k.fz s (.bl _)⟩
 ·cases e
@[simp]noncomputable def bools?:List D->Option (List Bool)
 | []=>aA []
 | .bl x::r=>(bools? r).bind λt=>aA (x::t)
 |_=>aB
theorem Ve{F:Hp}:∀{ds:List D} {xs:List Bool} {vs:List V},bools? ds=aA xs->Reps K F ds vs->vs=xs.map V.bl
 | [],_,_,e,r=>by cases e;cases r;rfl
 |d::ds,_,_,e,r=>by
  cases r with
  |cons h t=>
   unfold bools? at e;split at e
   ·rename_i e0;cases e0
   ·rename_i x r0 e0;cases e0;obtain⟨ys,e1,e2⟩:=aa.mp e;cases e2;cases h;rw[Ve e1 t];rfl
   ·cases e
@[simp]noncomputable def Zjm:List D->Option SV
 | [.lst xs]=>(bools? xs).bind λbs=>aA (.fz (.bl (bs.all id)))
 |_=>aB
theorem Zrm:Ot Z (Zrl K) Zjm:=by
 intro F H σ δ own vs ds sv Q s r e k;unfold Zjm at e;split at e
 ·obtain⟨bs,e1,e2⟩:=aa.mp e;cases e2;cases r with
  |cons h1 t=>cases t;obtain⟨a,vs,rfl,ha,ra⟩:=h1.lst s.le;rw[Ve e1 ra]at ha;exact⟨a,bs,rfl,ha,k.fz s (.bl _)⟩
 ·cases e
end
section
variable{X:Cx}{Z:Ent X.K}{a b c:c5}{fa fb fc:FE}{pos:Pos}{tg:c5}
theorem Qe(ha:PE X a (Ze Z fa)):PI X tg a (Qj Z (Ua fa)):=λpins s σ H R I h=>Znw ha pins s σ H R I (Znx h)
theorem Zrn{p:Pos}(hm:X.mg "all"=aB)(ha:PE X a (Ze Z fa))(hc:X.calm=aC:=by rfl)(hg:Gl X "all":=by rfl)(he:ba [a] X.env=(aD,gw a X.env)::ba [] X.env:=by rfl)(hpl:(gp pos (ba [] X.env)).any (·.1)=aD:=by rfl):PE X (.Call (.Name "all" p) [a] [] pos) (Ze Z (Yd Zjm (Zc fa Zi))):=
 Ah (Zfi hc) Zrm hm boot_all (Zm ha Yn he) hg (by decide) (by decide) he hpl
end
end DL
namespace L2
open PySem PySem.Spec PyProof.Rows
open AutoSeq1 (wpAny_loadPart')
section
variable{prog:bv}{w:c6}{A:di}{E:aj->aq->Prop}{s:aq}
theorem T9{it t:au}{i:Nat}{items:Array aj}{x:aj}{Q:aj->aq->Prop}(hit:s.heap.IsTupleIter it t i)(ht:s.heap.IsTuple t items)(hx:items[i]? =aA x)
  (hQ:∀h',h'.IsTupleIter it t (i+1)->gz it s.heap h'->Q x {s with heap:=h'}):bd (bz prog w) A (Builtin.SmallTypes.nextOf (.ref it)) Q E s:=by
 obtain⟨o,ho,hc,hd⟩:=id hit;obtain⟨ol,hol,_,nl,hdl⟩:=ht;unfold Builtin.SmallTypes.nextOf;refine ab (du (name:=gh "__next__") hit.typeIs F.slot_tuple_iterator_next (de F.slot_tuple_iterator_next hit.typeIs F.entry_tuple_iterator_next ?_ (F.args_tuple_iterator_next_1 _)));show bd _ _ (field (.ref it) 0 >>=_) _ _ s;refine ab (wpAny_field ho hd (x:=.ref t) rfl ?_);show bd _ _ (if(bu t==ci)=aC then _ else _) _ _ s;rw[if_neg (show¬((bu t==ci)=aC)from bj)];show bd _ _ (field (.ref it) 1 >>=_) _ _ s;refine ab (wpAny_field ho hd (x:=.int i 0) rfl ?_);show bd _ _ (seqItems? (.ref t) >>=_) _ _ s;refine ab (wpAny_seqItems hol hdl ?_);simp only[gy,hx];refine ab (wpAny_setField ho hd (by simp) (af ⟨x,rfl,af (hQ _ ⟨_,gv _ ho (Obj.isFreed_of_fields (Obj.data_mapFields hd _)),(Obj.cls_mapFields ..).trans hc,by rw[Obj.data_mapFields hd];simp[rawInt]⟩ (gr ..))⟩))
theorem Cy{it t:au}{i:Nat}{items:Array aj}{Q:aj->aq->Prop}(hh:A.handled=aB)(hit:s.heap.IsTupleIter it t i)(ht:s.heap.IsTuple t items)(hx:items[i]? =aB)
  (hE:∀h' e,Heap.ExtBut it s.heap h'->(∃o,h'.get? e=aA o/\o.cls= .type "StopIteration")->E (.ref e) {s with heap:=h'}):bd (bz prog w) A (Builtin.SmallTypes.nextOf (.ref it)) Q E s:=by
 obtain⟨o,ho,hc,hd⟩:=id hit;obtain⟨ol,hol,_,nl,hdl⟩:=ht;unfold Builtin.SmallTypes.nextOf;refine ab (du (name:=gh "__next__") hit.typeIs F.slot_tuple_iterator_next (de F.slot_tuple_iterator_next hit.typeIs F.entry_tuple_iterator_next ?_ (F.args_tuple_iterator_next_1 _)));show bd _ _ (field (.ref it) 0 >>=_) _ _ s;refine ab (wpAny_field ho hd (x:=.ref t) rfl ?_);show bd _ _ (if(bu t==ci)=aC then _ else _) _ _ s;rw[if_neg (show¬((bu t==ci)=aC)from bj)];show bd _ _ (field (.ref it) 1 >>=_) _ _ s;refine ab (wpAny_field ho hd (x:=.int i 0) rfl ?_);show bd _ _ (seqItems? (.ref t) >>=_) _ _ s;refine ab (wpAny_seqItems hol hdl ?_);simp only[gy,hx];refine ab (wpAny_rule (ab (wpAny_setField ho hd (by simp) ?_)));show bd _ _ (newExc (.type "StopIteration") [] >>=_) _ _ _;refine ab ?_;simp only[newExc,newTuple];refine ab (dn ?_ (by size_fits));refine ab (m:=firstArgMember _ _) (wpAny_of_eq (a:=ci) (by first|rfl| (simp only[firstArgMember];rfl)) ?_);refine dn ?_ (by size_fits);simp only[raiseNew];refine ab (wpAny_handled ?_);first|rw[show A.in1.handled=aB from hh]|rw[hh]
 refine ab (af (wpAny_throw ?_));exact hE _ _ (((gr ..).extBut.push _).push _) ⟨_,a9 _ rfl,rfl⟩
theorem Vf{h h':f8}{t it:au}{items:Array aj}(x:h.IsTuple t items)(hs:Heap.ExtBut it h h')(hne:t≠it):h'.IsTuple t items:=let⟨o,ho,r⟩:=x;⟨o,hs t o hne ho,r⟩
theorem Zcm{prog:bv}{w:c6}{A:di}(hh:A.handled=aB)(it l:au)(hne:l≠it)(items:Array aj):
  Draws prog w A it [it,l] items.size (λi v=>items[i]? =aA v) (λi h=>h.IsTupleIter it l i/\h.IsTuple l items)where
 live:=λ_ _ st=>let⟨o,ho,_⟩:=st.1;⟨o,ho⟩
 frame:=λ_ _ _ st hk=>⟨st.1.at λo e=>hk it (by simp) o e,let⟨o,ho,r⟩:=st.2;⟨o,hk l (by simp) o ho,r⟩⟩
 item:=λi s Q E hi st hQ=>by refine T9 st.1 st.2 (x:=items[i]) (by simp[hi]) λh' hit' hs'=>?_;exact hQ _ h' s.toks (by simp[hi]) ⟨hit',Vf st.2 hs'.extBut hne⟩ hs'
 done:=λs Q E st hE=>Cy hh st.1 st.2 (by simp) hE
theorem N9(l:au)(items:Array aj)(n:Nat)(dct:Option au)(sl:Array (Option aj)):
  Meets (Builtin.«enumerate.__new__» ⟨[.type "enumerate",.ref l],[]⟩) (λ_ R s=>s.heap.get? l=aA {cls:=.type "tuple",dict:=dct,data:=.seq items n,slots:=sl}/\
   R (.ok (.ret (.ref (s.heap.push {cls:=.type "tuple_iterator",data:=.fields #[.ref l,.int 0 0]}).objs.size))) {s with heap:=(s.heap.push {cls:=.type "tuple_iterator",data:=.fields #[.ref l,.int 0 0]}).push {cls:=.type "enumerate",data:=.fields #[.none,.bool aD,.ref s.heap.objs.size,rawInt 0,.none,.none]}}):=
 .of_wp λprog w A R s h=>by
  obtain⟨hp,g,d,tk,os⟩:=s;obtain⟨hl,h⟩:=h;have hsub:=sub_enumerate;have hL:Heap.IsTuple (Shared.heap ⟨hp,g,d,tk,os⟩) l items:=⟨_,hl,rfl,n,rfl⟩
  wp_walk using dq hl;refine wpAny_stack_any λst=>af ?_;split
  ·rename_i c _ _ _ _ _;cases(c==Value.type "enumerate")
   ·wp_walk using dq hl,wpAny_pyIter_tuple hL;exact⟨_,rfl,h⟩
   ·wp_walk using dq hl,wpAny_pyIter_tuple hL;exact⟨_,rfl,h⟩
  ·wp_walk using dq hl,wpAny_pyIter_tuple hL;exact⟨_,rfl,h⟩
theorem Fu{l:au}{items:Array aj}{Q:aj->aq->Prop}(hL:s.heap.IsTuple l items)
  (h:∀h',IsEnum h' (s.heap.objs.size+1) s.heap.objs.size 0 .none->h'.IsTupleIter s.heap.objs.size l 0->h'.objs.size=s.heap.objs.size+2->(∀b o,s.heap.get? b=aA o->h'.get? b=aA o)->Q (.ref (s.heap.objs.size+1)) {s with heap:=h'}):
  bd (bz prog w) A (call (.type "enumerate") [.ref l]) Q E s:=by
 obtain⟨⟨c,dct,dt,sl⟩,hl,hc,n,hd⟩:=hL;replace hc:c= .type "tuple":=hc;replace hd:dt= .seq items n:=hd;subst hc hd;refine callType_new F.called_enumerate (by decide) (F.typeCall_enumerate_1 _) (F.newCall_enumerate_1 _) (λobj=>F.args_object_init_2 obj _) F.entry_enumerate_new (N9 l items n dct sl) ⟨hl,?_⟩;have hz:(s.heap.push {cls:=.type "tuple_iterator",data:=.fields #[.ref l,.int 0 0]}).objs.size=s.heap.objs.size+1:=Heap.size_push ..;show _/\_;rw[hz];have he:IsEnum ((s.heap.push {cls:=.type "tuple_iterator",data:=.fields #[.ref l,.int 0 0]}).push {cls:=.type "enumerate",data:=.fields #[.none,.bool aD,.ref s.heap.objs.size,rawInt 0,.none,.none]}) (s.heap.objs.size+1) s.heap.objs.size 0 .none:=by have:=a9 (s.heap.push {cls:=.type "tuple_iterator",data:=.fields #[.ref l,.int 0 0]}) (o:={cls:=.type "enumerate",data:=.fields #[.none,.bool aD,.ref s.heap.objs.size,rawInt 0,.none,.none]}) rfl;rw[hz]at this;exact this
 exact⟨⟨_,he,rfl⟩,h _ he ⟨_,ar _ (a9 _ rfl),rfl,rfl⟩ (by rw[Heap.size_push,hz]) λb o x=>ar _ (ar _ x)⟩
theorem Pa{e it l:au}{i:Nat}{items:Array aj}{old:aj}{Q:Option aj->aq->Prop}(hh:A.handled=aB)(he:IsEnum s.heap e it i old)(hit:s.heap.IsTupleIter it l i)(hl:s.heap.IsTuple l items)(hx:items[i]? =aB)
  (hQ:∀h',Heap.ExtBut it s.heap h'->Q aB {s with heap:=h'}):bd (bz prog w) A (pyNext (.ref e)) Q E s:=by
 have hT:s.TypeIs (.ref e) "enumerate":=⟨_,he,rfl⟩;unfold pyNext;refine ab (wpAny_attempt (du (name:=gh "__next__") hT F.slot_enumerate_next (de F.slot_enumerate_next hT F.entry_enumerate_next ?_ (F.args_enumerate_next_1 _))));show bd _ _ (field (.ref e) 2 >>=_) _ _ _;refine ab (wpAny_field he rfl (x:=.ref it) rfl ?_);refine ab (Cy (by first|exact hh| (rw[show A.in1.handled=A.handled from rfl];exact hh)) hit hl hx λh' x he' hx'=>?_);obtain⟨o,ho,hc⟩:=hx';refine ab (ic (T:="StopIteration") (b:=aC) ⟨o,ho,hc⟩ isSubtype_stop ?_);exact af (hQ _ he')
end
section
variable{X:Cx}{tg:c5}
noncomputable def Znz(K:ah)(a:au):It:=
 ⟨λi H=>∃xs x,Mw K H a xs/\xs[i]? =aA x,λi H x H'=>∃p v,x= .ref p/\H p=aB/\H'=Y0 H p (.tup [.int (i:Nat),v])/\∀xs,Mw K H a xs->xs[i]? =aA v,λi H=>∃xs,Mw K H a xs/\xs.length<=i⟩
theorem Hb{P:bv}{w:c6}{K:ah}{elts:List c5}{kk:Nat}{tpos:Pos}(a e it:au)(hei:e≠it):Turn P w K (.Tuple elts kk tpos) (Znz K a) [e,it] e (λi h=>(∃old,IsEnum h e it ((i:Nat):Int) old)/\h.IsTupleIter it a i)where
 mem:=by simp
 obj:=λi h st b hb=>by
  have hb':b=e\/b=it:=by simpa using hb
  rcases hb' with z|z
  ·subst z;obtain⟨old,q⟩:=st.1;exact⟨_,q,λv y=>by
    have y':Data.fields _=Data.cell v:=y;cases y'⟩
  ·subst z;obtain⟨o,q,c,d⟩:=st.2;exact⟨o,q,λv y=>by rw[d]at y;cases y⟩
 keep:=λi h h' st k=>⟨let⟨old,q⟩:=st.1;⟨old,k e (by simp) _ q⟩,st.2.at λo q=>k it (by simp) o q⟩
 item:=by
  intro X hP hw hK hc i pins s σ H E I hf st hg;subst hP hw hK;obtain⟨xs,x,hq,hx⟩:=hg;obtain⟨its,rv,p,hz⟩:=I.tuple hq;obtain⟨u,hu,ru⟩:=rv.get hx;obtain⟨⟨old,he⟩,hit⟩:=st;have hl:s.heap.IsTuple a its.toArray:=p;have ai:a≠it:=λz=>by obtain⟨o1,q1,c1,_⟩:=hit;obtain⟨o2,q2,c2,_⟩:=hl;rw[z,q1]at q2;cases q2;rw[c1]at c2;exact absurd c2 (by decide)
  have ae:e∉[it,a]:=λz=>by
   have z':e=it\/e=a:=by simpa using z
   rcases z' with z|z
   ·exact hei z
   ·obtain⟨o2,q2,c2,_⟩:=hl;rw[<-z,he]at q2;cases q2;exact absurd (show Value.type "enumerate"=Value.type "tuple"from c2) (by decide)
  have D:=Zcm (prog:=X.prog) (w:=X.w) (A:=X.A.in1) (by first|exact I.ok.hd hc| (rw[show X.A.in1.handled=X.A.handled from rfl];exact I.ok.hd hc)) it a ai its.toArray;have hlt:i<its.toArray.size:=by have:=(ax.mp hu).1;rw[bp];exact this
  refine wpAny_pyNext_enum_itemD D he ⟨hit,hl⟩ hlt hei ae λy h' tk hy hout st' hT hsz hk=>⟨.ref s.heap.objs.size,rfl,?_⟩
  refine wpAny_letOwnedTupleGo_enum hout λh2 he2 hs2=>?_;have hy':its.toArray[i]? =aA y:=hy;have ey:y=u:=by
   have:its[i]? =aA y:=by simpa using hy'
   rw[hu]at this;cases this;rfl
  subst ey;have kk:∀b o,b≠e->b≠it->s.heap.get? b=aA o->h2.get? b=aA o:=λb o h1 h3 q=>(hs2.2 b h1).trans (hk b o h1 h3 q);have neT:s.heap.objs.size≠e:=Nat.ne_of_gt (bf he);have I2:=I.turnedT (h':=h2) (t':=tk+1) (e:=e) (it:=it) (T:=s.heap.objs.size) (xs:=[.int (i:Nat),x]) (its:=[.int i tk,y]) kk (hf e (by simp)) (hf it (by simp)) rfl ⟨_,(hs2.2 _ neT).trans hT,rfl,_,rfl⟩ (.cons ⟨tk,rfl⟩ (.cons ru .nil)) (by show 2<=sizeLine;decide)
   ⟨_,he2⟩ (let⟨o,q,_⟩:=st'.1;⟨o,(hs2.2 it (Ne.symm hei)).trans q⟩)
  refine⟨.ref s.heap.objs.size,_,I2,rfl,⟨s.heap.objs.size,x,rfl,I.hok.fresh (az _),rfl,λys hy2=>by rw[I.tuple_inj hy2 hq];exact hx⟩,⟨⟨_,he2⟩,st'.1.at λo q=>(hs2.2 it (Ne.symm hei)).trans q⟩,λb hb=>?_⟩;rw[Zv λz=>?_]
  ·exact(hf b hb).1
  ·have hb':b=e\/b=it:=by simpa using hb
   rcases hb' with y|y
   ·rw[<-z,y]at neT;exact neT rfl
   ·obtain⟨o,q,_⟩:=hit;rw[y]at z;exact absurd (bf q) (by rw[z];exact g9 _)
 done:=by intro X hP hw hK hc i pins s σ H E I hf st hg;subst hP hw hK;obtain⟨xs,hq,hx⟩:=hg;obtain⟨its,rv,p,hz⟩:=I.tuple hq;obtain⟨⟨old,he⟩,hit⟩:=st;obtain⟨f0,f1,f2,f3,f4,f5⟩:=hf it (by simp);have hl:=rv.length;exact Pa (I.ok.hd hc) he hit (show s.heap.IsTuple a its.toArray from p) (by simp;omega) λh' eb=>⟨rfl,I.turned (t':=s.toks) (λb o hb q=>eb b o hb q) f0 f1 f3 f4 f5⟩
 self:=λ_ _ _ _ _ st h=>let⟨⟨old,he⟩,_⟩:=st;wpAny_pyIter_enum he h
noncomputable def Zfj(K:ah)(ta:TA):TI:=λσ H R=>ta σ H λvs H1=>∃a xs,vs=[.ref a]/\Mw K H1 a xs/\R (Znz K a) H1
theorem Zfk{l:c5}{elts:List c5}{kk:Nat}{tpos p pos:Pos}{ta:TA}(hg:Gl X "enumerate")(hm:X.mg "enumerate"=aB)(ha:PA X [l] ta)(hs:ba [l] X.env=[(aD,gw l X.env)]:=by rfl):
  PI X (.Tuple elts kk tpos) (.Call (.Name "enumerate" p) [l] [] pos) (Zfj X.K ta):=by
 intro pins s σ H R I h;refine Call_ (Bo I hg hm boot_enumerate (PyProof.Rows.callWith_type1 (Wv (ha pos pins s σ H _ I h) λus s1 ⟨vs,H1,I1,r1,q1⟩=>?_) hs rfl));obtain⟨a,xs,e,hq,q⟩:=q1;subst e;obtain⟨u,rfl,ru⟩:=Ui r1;cases ru;obtain⟨its,rv,p,hz⟩:=I1.tuple hq;refine Fu (show s1.heap.IsTuple a its.toArray from p) λh' he hit hsz hk=>wpAny_pyIter_enum he ?_;have I2:Inv X pins σ H1 {s1 with heap:=h'}:=I1.kept (t':=s1.toks) hk;refine⟨s1.heap.objs.size+1,[s1.heap.objs.size+1,s1.heap.objs.size],_,_,H1,rfl,I2,Hb a _ _ (Nat.succ_ne_self _),⟨⟨.none,by simpa using he⟩,hit⟩,λb hb=>?_,q⟩;have hb':b=s1.heap.objs.size+1\/b=s1.heap.objs.size:=by simpa using hb
 rcases hb' with z|z
 ·subst z;exact I1.fpOk (Nat.le_succ _) (I1.hok.fresh (Nat.le_succ _))
 ·subst z;exact I1.fpOk (az _) (I1.hok.fresh (az _))
end
end L2
namespace DL
open PySem PySem.Spec PyProof.Rows L2
variable{K:ah}
theorem Pb{F:Hp}{a:au}{xs:List D}{vs:List V}(h:Mw K F a vs)(r:Reps K F xs vs):U2 K (Znz K a) F (Q5 xs):=λF' H sF sH i=>by
 have q:Mw K H a vs:=Qi (sF.trans sH) h;refine⟨λd hd=>?_,λhl=>⟨vs,q,by rw[<-r.length,<-K5];exact hl⟩⟩;obtain⟨x,hx,rfl⟩:=Kz hd;obtain⟨v,h1,h2⟩:=r.get hx;refine⟨⟨vs,v,q,h1⟩,λy H' zq9=>?_⟩;obtain⟨p,w,e1,e2,e3,e4⟩:=zq9;subst e1 e3;have e5:=e4 vs q;rw[h1]at e5;cases e5;have hp:F' p=aB:=sH.free e2;have sm:Zl F' (Up F' [(p,.tup [.int (i:Nat),v])]):=Qu λz hz=>by obtain rfl:=ao.mp hz;exact hp
 refine⟨J1 e2,[(p,.tup [.int (i:Nat),v])],Ku,λz hz=>?_,.tup Yr (.cons (.int _) (.cons (h2.mono (sF.trans sm)) .nil))⟩;obtain rfl:=ao.mp hz;exact⟨e2,Yr⟩
section
variable{Z:Ent K}{H:Hp}{σ:L2.St}{Q:VK}
@[simp]noncomputable def Zfl(fd:FD):FD:=λδ=>(fd δ).bind λp=>match p.1 with
 | [.tup xs]=>aA (Q5 xs,p.2)
 |_=>aB
theorem Zfm{fd:FD}{R:It->Hp->Prop}(h:Qj Z (Zfl fd) σ H R):Zfj K (Qd Z fd) σ H R:=by
 obtain⟨F,δ,own,ds,δ',s,e,k⟩:=h;obtain⟨⟨ds1,δ1⟩,e1,e2⟩:=aa.mp e;refine⟨F,δ,own,ds1,δ1,s,e1,λvs H1 F1 own1 sH sF s1 r1=>?_⟩;dsimp only at e2;split at e2
 ·rename_i xs;cases e2;cases r1 with
  |cons h t=>
   cases t;cases h with
   |tup h r=>exact⟨_,_,rfl,Qi s1.le (G8 h),k _ H1 F1 own1 sH sF s1 (Pb (G8 h) r)⟩
 ·cases e2
end
section
variable{X:Cx}{Z:Ent X.K}{a:c5}{fa:FE}{pos:Pos}
@[simp]noncomputable def Rg(fd:FD):FD:=λδ=>(fd δ).bind λp=>match p.1 with
 | [.lst xs]=>aA (Q5 xs,p.2)
 | [.tup xs]=>aA (Q5 xs,p.2)
 |_=>aB
theorem Zfn{H:Hp}{σ:L2.St}{fd:FD}{R:It->Hp->Prop}(h:Qj Z (Rg fd) σ H R):Qj Z (Zlt fd) σ H R\/Qj Z (Zfl fd) σ H R:=by
 obtain⟨F,δ,own,ds,δ',s,e,k⟩:=h;obtain⟨⟨ds1,δ1⟩,e1,e2⟩:=aa.mp e;dsimp only at e2;split at e2
 ·rename_i xs;exact .inl ⟨F,δ,own,ds,δ',s,aa.mpr ⟨_,e1,e2⟩,k⟩
 ·rename_i xs;exact .inr ⟨F,δ,own,ds,δ',s,aa.mpr ⟨_,e1,e2⟩,k⟩
 ·cases e2
theorem R8{elts:List c5}{kk:Nat}{tpos p:Pos}{fd:FD}(hm:X.mg "enumerate"=aB)(ha:PA X [a] (Qd Z fd))(hg:Gl X "enumerate":=by rfl)(hs:ba [a] X.env=[(aD,gw a X.env)]:=by rfl):
  PI X (.Tuple elts kk tpos) (.Call (.Name "enumerate" p) [a] [] pos) (Qj Z (Rg fd)):=λpins s σ H R I h=>by
 rcases Zfn h with h|h
 ·exact Zjc hg hm ha hs pins s σ H R I (Zjd h)
 ·exact Zfk hg hm ha hs pins s σ H R I (Zfm h)
end
end DL
namespace L2
open PySem PySem.Spec PyProof.Rows
variable{X:Cx}
end L2
namespace DL
open PySem PySem.Spec PyProof.Rows L2
variable{K:ah}
end DL
namespace L2
open PySem PySem.Spec PyProof.Rows
variable{X:Cx}
noncomputable def Zro:R2:=λx y H Q=>∃a v,x= .ref a/\Bf H a y (aA v)/\Q v H
noncomputable def Zfo:R2:=λy x H Q=>∃a o,x= .ref a/\Bf H a y o/\Q (.bl o.isSome) H
noncomputable def R9:R2:=λy x H Q=>∃a o,x= .ref a/\Bf H a y o/\Q (.bl (!o.isSome)) H
theorem Hc(hu:X.A.units+1<fg):Cq X (g6 .In) Zfo:=by intro pins s σ H y x v u Q I ry rx h;obtain⟨a,o,rfl,g,q⟩:=h;cases rx;exact Ztx hu I g ry λs' I'=>⟨.bl o.isSome,H,I',rfl,q⟩
theorem Fv(hu:X.A.units+1<fg):Cq X (g6 .NotIn) R9:=by intro pins s σ H y x v u Q I ry rx h;obtain⟨a,o,rfl,g,q⟩:=h;cases rx;exact Ziu hu I g ry λs' I'=>⟨.bl (!o.isSome),H,I',rfl,q⟩
end L2
namespace DL
open PySem PySem.Spec PyProof.Rows L2
variable{K:ah}
@[simp]noncomputable def D.key?:D->Option Key
 | .int i=>aA (.inl i)
 | .str x=>aA (.inr x)
 |_=>aB
@[simp]noncomputable def keys?:List D->Option (List Key)
 | []=>aA []
 |d::r=>d.key?.bind λk=>(keys? r).bind λt=>aA (k::t)
section
variable{κ:Type}[DecidableEq κ]
@[simp]noncomputable def look(ks:List κ)(vs:List D)(k:κ):Option D:=match ks,vs with
 |a::ks,v::vs=>if a=k then aA v else look ks vs k
 |_,_=>aB
theorem Ai{F:Hp}(k:κ):∀(kvs:List (κ×V)) (ds:List D),Reps K F ds (kvs.map (·.2))->match look (kvs.map (·.1)) ds k with
  |some d=>∃v,Jd kvs k=aA v/\Rep K F d v
  |none=>Jd kvs k=aB
 | [],_,r=>by cases r;exact Zej
 |p::kvs,_,r=>by
  cases r with
  | @cons d v ds vs h t=>
   show match(if p.1=k then aA d else look (kvs.map (·.1)) ds k)with
    |some d=>∃v,Jd (p::kvs) k=aA v/\Rep K F d v
    |none=>Jd (p::kvs) k=aB
   by_cases e:p.1=k
   ·rw[if_pos e];exact⟨p.2,Be e,h⟩
   ·rw[if_neg e,U1 e];exact Ai k kvs ds t
@[simp]noncomputable def Y3(ks:List κ)(vs:List D)(k:κ)(v:D):List κ×List D:=
 if k∈ks then(ks,(ks.zip vs).map λp=>if p.1=k then v else p.2)else(ks++[k],vs++[v])
theorem Reps.length_map{F:Hp}{α:Type}{ds:List D}{kvs:List (α×V)}(r:Reps K F ds (kvs.map (·.2))):ds.length=kvs.length:=by rw[r.length,ag]
theorem Zaf{F:Hp}{k:κ}{d:D}{v:V}(hd:Rep K F d v):∀(kvs:List (κ×V)) (ds:List D),Reps K F ds (kvs.map (·.2))->
  Reps K F (((kvs.map (·.1)).zip ds).map λp=>if p.1=k then d else p.2) ((kvs.map λkv=>if kv.1=k then(kv.1,v)else kv).map (·.2))
 | [],_,r=>by cases r;exact .nil
 |p::kvs,_,r=>by
  cases r with
  | @cons d' v' ds vs h t=>
   have ih:=Zaf (k:=k) hd kvs ds t;show Reps K F ((if p.1=k then d else d')::(((kvs.map (·.1)).zip ds).map λp=>if p.1=k then d else p.2)) ((if p.1=k then(p.1,v)else p).2::((kvs.map λkv=>if kv.1=k then(kv.1,v)else kv).map (·.2)));refine .cons ?_ ih;by_cases e:p.1=k
   ·rw[if_pos e,if_pos e];exact hd
   ·rw[if_neg e,if_neg e];exact h
theorem Zfp{k:κ}{v:V}(kvs:List (κ×V)):(kvs.map λkv=>if kv.1=k then(kv.1,v)else kv).map (·.1)=kvs.map (·.1):=by rw[bi];refine fj λp _=>?_;show(if p.1=k then(p.1,v)else p).1=p.1;split<;> rfl
theorem Ma(k:κ)(kvs:List (κ×V)):(kvs.any λkv=>decide (kv.1=k))=aC↔k∈kvs.map (·.1):=by
 rw[List.any_eq_true,av];constructor
 ·rintro⟨p,h1,h2⟩;exact⟨p,h1,of_decide_eq_true h2⟩
 ·rintro⟨p,h1,h2⟩;exact⟨p,h1,decide_eq_true h2⟩
theorem He{F:Hp}{k:κ}{d:D}{v:V}(hd:Rep K F d v)(kvs:List (κ×V))(ds:List D)(r:Reps K F ds (kvs.map (·.2))):
  (Q2 kvs k v).map (·.1)=(Y3 (kvs.map (·.1)) ds k d).1/\Reps K F (Y3 (kvs.map (·.1)) ds k d).2 ((Q2 kvs k v).map (·.2)):=by
 unfold Q2 Y3;by_cases h:k∈kvs.map (·.1)
 ·rw[if_pos h,if_pos ((Ma k kvs).mpr h)];exact⟨Zfp kvs,Zaf hd kvs ds r⟩
 ·rw[if_neg h,if_neg λz=>h ((Ma k kvs).mp z),b4,b4];exact⟨rfl,r.snoc hd⟩
end
theorem Pc{F H:Hp}{d:D}{k:Key}{y:V}(e:d.key? =aA k)(r:Yf K F H d y):y=kV k:=by
 cases d with
 |int i=>cases e;exact r.int
 |str x=>cases e;exact r.str
 |_=>cases e
theorem Zag{F:Hp}{d:D}{k:Key}{y:V}(e:d.key? =aA k)(r:Rep K F d y):y=kV k:=Pc (H:=F) e (Yf.of r)
theorem Pd{F:Hp}:∀{ds:List D} {ks:List Key} {vs:List V},keys? ds=aA ks->Reps K F ds vs->vs=ks.map kV
 | [],_,_,e,r=>by cases e;cases r;rfl
 |d::ds,_,_,e,r=>by
  cases r with
  |cons h t=>obtain⟨k,e1,e2⟩:=aa.mp e;obtain⟨t',e3,e4⟩:=aa.mp e2;cases e4;rw[Zag e1 h,Pd e3 t];rfl
theorem Yf.tupH{F H:Hp}{xs:List D}{v:V}(le:Zl F H)(h:Yf K F H (.tup xs) v):∃a vs,v= .ref a/\H a=aA (.tup vs)/\Reps K F xs vs:=by
 obtain⟨sv,ns,e,n,sh,hp⟩:=h;cases sh with
 |fz r=>cases e;cases r with|tup h r=>exact⟨_,_,rfl,le _ _ h,r⟩
 |ol r=>cases e
 |oK e' r=>cases e
 |oT kb e' r=>cases e
 |oN e' r=>cases n
 |oX kb' e' r=>cases n
 |oD r=>cases n
 |oM kb' e' r=>cases n
 |oL _ r=>cases n
 |oQ e' r=>cases e
@[simp]noncomputable def Hf:D->D->Option (Option D)
 | .dK ks vs,d=>d.key?.bind λk=>aA (look ks vs k)
 | .dT ks vs,.tup xs=>(keys? xs).bind λk=>aA (look ks vs k)
 |_,_=>aB
theorem Eu{F H:Hp}{d1 d2:D}{x y:V}{o:Option D}(le:Zl F H)(e:Hf d1 d2=aA o)(r1:Yf K F H d1 x)(r2:Yf K F H d2 y):
  ∃a,x= .ref a/\IsD H a/\match o with
   |some d=>∃v,Bf H a y (aA v)/\Rep K F d v
   |none=>Bf H a y aB:=by
 unfold Hf at e;split at e
 ·obtain⟨k,e1,e2⟩:=aa.mp e;obtain⟨a,kvs,rfl,ha,rfl,rr⟩:=r1.dK le;refine⟨a,rfl,.inl ⟨kvs,ha.rd⟩,?_⟩;rw[Pc e1 r2];have z:=Ai k kvs _ rr;have g:=Bf.k (k:=k) ha;rw[df.inj e2]at z;cases o with
  |none=>rw[show Jd kvs k=aB from z]at g;exact g
  |some d=>obtain⟨v,z1,z2⟩:=z;rw[z1]at g;exact⟨v,g,z2⟩
 ·obtain⟨k,e1,e2⟩:=aa.mp e;obtain⟨a,kvs,rfl,ha,rfl,rr⟩:=r1.dT le;obtain⟨b,vs,rfl,hb,rb⟩:=r2.tupH le;refine⟨a,rfl,.inr ⟨kvs,ha.rd⟩,?_⟩;rw[Pd e1 rb]at hb;have z:=Ai k kvs _ rr;have g:=Bf.t ha hb;rw[df.inj e2]at z;cases o with
  |none=>rw[show Jd kvs k=aB from z]at g;exact g
  |some d=>obtain⟨v,z1,z2⟩:=z;rw[z1]at g;exact⟨v,g,z2⟩
 ·cases e
section
variable{Z:Ent K}
@[simp]noncomputable def Zfq(d1 d2:D):Option SV:=(Hf d1 d2).bind λo=>o.bind λd=>some (.fz d)
theorem Zn0:Y6 Z Zro Zfq:=by intro F H σ δ own x y d1 d2 sv Q s r1 r2 e k;obtain⟨o,e1,e2⟩:=aa.mp e;obtain⟨d,e3,e4⟩:=aa.mp e2;cases e4;subst e3;obtain⟨a,rfl,_,v,g,rv⟩:=Eu s.le e1 r1 r2;exact⟨a,v,rfl,g,k.fz s rv⟩
@[simp]noncomputable def Zrp(d1 d2:D):Option SV:=(Hf d2 d1).bind λo=>some (.fz (.bl o.isSome))
@[simp]noncomputable def Zah(d1 d2:D):Option SV:=(Hf d2 d1).bind λo=>some (.fz (.bl (!o.isSome)))
theorem Zn1:Y6 Z Zfo Zrp:=by
 intro F H σ δ own x y d1 d2 sv Q s r1 r2 e k;obtain⟨o,e1,e2⟩:=aa.mp e;cases e2;obtain⟨a,rfl,_,g⟩:=Eu s.le e1 r2 r1;cases o with
 |none=>exact⟨a,aB,rfl,g,k.fz s (.bl _)⟩
 |some d=>obtain⟨v,g,_⟩:=g;exact⟨a,aA v,rfl,g,k.fz s (.bl _)⟩
theorem Zcn:Y6 Z R9 Zah:=by
 intro F H σ δ own x y d1 d2 sv Q s r1 r2 e k;obtain⟨o,e1,e2⟩:=aa.mp e;cases e2;obtain⟨a,rfl,_,g⟩:=Eu s.le e1 r2 r1;cases o with
 |none=>exact⟨a,aB,rfl,g,k.fz s (.bl _)⟩
 |some d=>obtain⟨v,g,_⟩:=g;exact⟨a,aA v,rfl,g,k.fz s (.bl _)⟩
@[simp]noncomputable def D.isD:D->Bool
 | .dK _ _=>aC| .dT _ _=>aC|_=>aD
@[simp]noncomputable def Ou(d1 d2:D):Option SV:=if d1.isD=true then Zfq d1 d2 else ixD d1 d2
@[simp]noncomputable def inX(d1 d2:D):Option SV:=if d2.isD=true then Zrp d1 d2 else inD d1 d2
@[simp]noncomputable def Hg(d1 d2:D):Option SV:=if d2.isD=true then Zah d1 d2 else Ha d1 d2
theorem Zco{H:Hp}{σ:L2.St}{Q:VK}{fa fb:FE}{g g1 g2':D->D->Option SV}(hg:∀d1 d2 sv,g d1 d2=aA sv->g1 d1 d2=aA sv\/g2' d1 d2=aA sv)(h:Ze Z (Zn g fa fb) σ H Q):Ze Z (Zn g1 fa fb) σ H Q\/Ze Z (Zn g2' fa fb) σ H Q:=by
 obtain⟨F,δ,own,rv,δ',s,e,k⟩:=h;obtain⟨⟨rvs,δ1⟩,e1,e2⟩:=aa.mp e;obtain⟨ds,e3,e4⟩:=aa.mp e2;obtain⟨sv,e5,e6⟩:=aa.mp e4;have:(g2 g1) ds=aA sv\/(g2 g2') ds=aA sv:=by
  unfold g2 at e5⊢;split at e5
  ·exact hg _ _ _ e5
  ·cases e5
 rcases this with z|z
 ·exact .inl ⟨F,δ,own,rv,δ',s,aa.mpr ⟨_,e1,aa.mpr ⟨_,e3,aa.mpr ⟨_,z,e6⟩⟩⟩,k⟩
 ·exact .inr ⟨F,δ,own,rv,δ',s,aa.mpr ⟨_,e1,aa.mpr ⟨_,e3,aa.mpr ⟨_,z,e6⟩⟩⟩,k⟩
theorem Zrq:Y6 Z (λx y H Q=>(∃i j,x= .str i/\y= .str j/\Q (.bl (!(dw j i 0 j.length 1).isEmpty)) H)\/Zfo x y H Q) inX:=by
 intro F H σ δ own x y d1 d2 sv Q s r1 r2 e k;unfold inX at e;split at e
 ·exact .inr (Zn1 F H σ δ own x y d1 d2 sv Q s r1 r2 e k)
 ·exact .inl (Zuh F H σ δ own x y d1 d2 sv Q s r1 r2 e k)
theorem Zfr:Y6 Z (λx y H Q=>(∃i j,x= .str i/\y= .str j/\Q (.bl (!(!(dw j i 0 j.length 1).isEmpty))) H)\/R9 x y H Q) Hg:=by
 intro F H σ δ own x y d1 d2 sv Q s r1 r2 e k;unfold Hg at e;split at e
 ·exact .inr (Zcn F H σ δ own x y d1 d2 sv Q s r1 r2 e k)
 ·exact .inl (Zjl F H σ δ own x y d1 d2 sv Q s r1 r2 e k)
end
section
variable{X:Cx}{Z:Ent X.K}{a b c:c5}{fa fb fc:FE}{pos:Pos}
theorem Yi(hu:X.A.units+1<fg)(ha:PE X a (Ze Z fa))(hb:PE X b (Ze Z fb))(hs:Nr b:=by intro _ _;rfl):PE X (.Subscript a b pos) (Ze Z (Zn Ou fa fb)):=λpins s σ H Q I h=>by
 rcases Zco (g1:=Zfq) (g2':=ixD) (λd1 d2 sv e=>by
  unfold Ou at e;split at e
  ·exact .inl e
  ·exact .inr e) h with h|h
 ·exact Ziv hu ha hb hs pins s σ H Q I (Kv Zn0 h)
 ·exact Zlg Zee ha hb hs pins s σ H Q I (Kv Zq7 h)
end
end DL
namespace L2
open PySem PySem.Spec PyProof.Rows
variable{X:Cx}
noncomputable def Zfs:V->List V->Hp->VK->Prop:=λx xs H Q=>∃a,x= .ref a/\((∃y o,xs=[y]/\Bf H a y o/\Q (o.getD .non) H)\/(∃y z o,xs=[y,z]/\Bf H a y o/\Q (o.getD z) H))
theorem Zjn(hu:X.A.units+1<fg):MtR X "dict.get" Zfs:=by
 intro pins s σ H x xs v us Q I rx rs h;obtain⟨a,rfl,h⟩:=h;cases rx;rcases h with⟨y,o,rfl,g,q⟩|⟨y,z,o,rfl,g,q⟩
 ·obtain⟨u,rfl,ru⟩:=Ui rs;exact Znf hu I g ru λw' s' I' r'=>⟨_,H,I',r',q⟩
 ·obtain⟨u,w',rfl,r1,r2⟩:=Zld rs;exact Zng hu I g r1 r2 λw' s' I' r'=>⟨_,H,I',r',q⟩
end L2
namespace DL
open PySem PySem.Spec PyProof.Rows L2
variable{K:ah}
section
variable{Z:Ent K}{H:Hp}{σ:L2.St}{Q:VK}{E:Ends}
@[simp]noncomputable def K8:FE:=λδ=>some (.tmp (.oK [] []),δ)
@[simp]noncomputable def Zai:FE:=λδ=>some (.tmp (.oT [] []),δ)
theorem Zjo(h:Ze Z K8 σ H Q):Zem σ H Q:=by obtain⟨F,δ,own,rv,δ',s,e,k⟩:=h;cases e;intro p hp;have f:Fin Z F H σ δ own (.oK [] []) Q:=λv H' F' ns a b c t=>k v H' F' own a b c ⟨ns,t⟩;exact f.one s (.oK (kvs:=[]) rfl .nil) hp
theorem Zjp(h:Ze Z Zai σ H Q):Zen σ H Q:=by obtain⟨F,δ,own,rv,δ',s,e,k⟩:=h;cases e;intro p hp;have f:Fin Z F H σ δ own (.oT [] []) Q:=λv H' F' ns a b c t=>k v H' F' own a b c ⟨ns,t⟩;exact f.one s (.oT (kvs:=[]) .nil rfl .nil) hp
@[simp]noncomputable def SV.isOD:Option (Option SV)->Bool
 |some (aA (.oK _ _))=>aC
 |some (aA (.oT _ _))=>aC
 |some (aA (.oQ _ _ _))=>aC
 |_=>aD
@[simp]noncomputable def Zrr(kd d:D):Option (Option SV)->Option SV
 |some (aA (.oK ks vs))=>kd.key?.bind λk=>if vs.length<cx then aA (.oK (Y3 ks vs k d).1 (Y3 ks vs k d).2)else aB
 |some (aA (.oT ks vs))=>match kd with
  | .tup xs=>(keys? xs).bind λk=>if vs.length<cx then aA (.oT (Y3 ks vs k d).1 (Y3 ks vs k d).2)else aB
  |_=>aB
 |some (aA (.oQ q ks vs))=>kd.key?.bind λk=>if vs.length<cx then aA (.oQ q (Y3 ks vs k d).1 (Y3 ks vs k d).2)else aB
 |_=>aB
@[simp]noncomputable def Mz(i:Nat)(fk fv:FE):FS:=λδ=>(fv δ).bind λp=>(frz p.1 p.2).bind λq=>if SV.isOD (q.2[i]?)=true then(fk q.2).bind λr=>(rdv r.1 r.2).bind λkd=>(Zrr kd q.1 (r.2[i]?)).bind λsv=>some (.nx (r.2.set i (some sv)))else none
theorem Zft{F:Hp}{ks:List Key}{ds:List D}{v:V}{ns:Zr}(h:Shape K F (.oK ks ds) v ns):∃a kvs ep,v= .ref a/\ns=[(a,.dK kvs ep)]/\kvs.map (·.1)=ks/\Reps K F ds (kvs.map (·.2)):=by
 cases h with
 |oK e r=>exact⟨_,_,_,rfl,rfl,e,r⟩
theorem Zfu{F:Hp}{q:au}{ks:List Key}{ds:List D}{v:V}{ns:Zr}(h:Shape K F (.oQ q ks ds) v ns):∃kvs ep,v= .ref q/\ns=[(q,.dK kvs ep)]/\kvs.map (·.1)=ks/\Reps K F ds (kvs.map (·.2)):=by
 cases h with
 |oQ e r=>exact⟨_,_,rfl,rfl,e,r⟩
theorem Zfv{F:Hp}{ks:List (List Key)}{ds:List D}{v:V}{ns:Zr}(h:Shape K F (.oT ks ds) v ns):∃a kvs ep bs,v= .ref a/\ns=[(a,.dT kvs ep bs)]/\KB F kvs bs/\kvs.map (·.1)=ks/\Reps K F ds (kvs.map (·.2)):=by
 cases h with
 |oT kb e r=>exact⟨_,_,_,_,rfl,rfl,kb,e,r⟩
theorem KB.put{F:Hp}{kvs:List (List Key×V)}{bs:List au}{k:List Key}{b:au}{v:V}(h:KB F kvs bs)(hb:F b=aA (.tup (k.map kV))):KB F (Q2 kvs k v) (Sm kvs bs k b):=by
 unfold Q2 Sm;split
 ·unfold KB at*;clear hb;rename_i hq;clear hq;induction h with
  |nil=>exact .nil
  | @cons p c ps cs h1 t ih=>
   rw[a7];refine .cons ?_ ih;by_cases e:p.1=k
   ·rw[if_pos e];exact h1
   ·rw[if_neg e];exact h1
 ·exact Paired.snoc h hb
theorem Yf.tupF{F H:Hp}{xs:List D}{v:V}(h:Yf K F H (.tup xs) v):∃a vs,v= .ref a/\F a=aA (.tup vs)/\Reps K F xs vs:=by
 obtain⟨sv,ns,e,n,sh,hp⟩:=h;cases sh with
 |fz r=>cases e;cases r with|tup h r=>exact⟨_,_,rfl,h,r⟩
 |ol r=>cases e
 |oK e' r=>cases e
 |oT kb e' r=>cases e
 |oN e' r=>cases n
 |oX kb' e' r=>cases n
 |oD r=>cases n
 |oM kb' e' r=>cases n
 |oL _ r=>cases n
 |oQ e' r=>cases e
theorem Zjq{o:Option (Option SV)}(h:SV.isOD o=aC):∃sv,o=aA (aA sv):=by
 unfold SV.isOD at h;split at h
 ·exact⟨_,rfl⟩
 ·exact⟨_,rfl⟩
 ·exact⟨_,rfl⟩
 ·cases h
theorem Zrs{i:Nat}{fk fv:FE}(h:Z9 Z (Mz i fk fv) E σ H):Zli (Mx i) (Ze Z fk) (Ze Z fv) E σ H:=by
 obtain⟨F,δ,own,fl,s,e,k⟩:=h;obtain⟨⟨rv,δ1⟩,e1,e⟩:=aa.mp e;obtain⟨⟨d,δ2⟩,e2,e⟩:=aa.mp e;dsimp only at e;split at e
 ·rename_i hod;obtain⟨⟨rk,δ3⟩,e3,e⟩:=aa.mp e;obtain⟨kd,e4,e⟩:=aa.mp e;obtain⟨sv,e5,e⟩:=aa.mp e;cases e;refine⟨F,δ,own,rv,δ1,s,e1,λv H1 F1 own1 sH1 sF1 s1 r1=>?_⟩;obtain⟨F2,sF2,s2,r2⟩:=s1.settleR r1;obtain⟨F3,own3,sF3,s3,r3⟩:=s2.frzR r2 e2;obtain⟨sv0,hsv0⟩:=Zjq hod;obtain⟨x,hx,_⟩:=s3.at' i sv0 hsv0;refine⟨x,hx,F3,δ2,own3,rk,δ3,s3,e3,λy H4 F4 own4 sH4 sF4 s4 r4=>?_⟩;obtain⟨F5,sF5,s5,r5⟩:=s4.settleR r4;have rk':=s5.rd r5 e4;have rd:Rep K F5 d v:=r3.mono (sF4.trans sF5);have sF:Zl F F5:=sF1.trans (sF2.trans (sF3.trans (sF4.trans sF5)));dsimp only at e5;generalize ho:δ3[i]? =o at e5;unfold Zrr at e5;split at e5
  ·rename_i ks vs;obtain⟨kk,f1,f2⟩:=aa.mp e5;split at f2
   ·rename_i hz;cases f2;obtain⟨x',hx',sh⟩:=s5.at' i _ ho;rw[hx]at hx';cases hx';obtain⟨a,kvs,ep0,ea,en,rfl,rr⟩:=Zft sh;subst ea;have mb:(a,HO.dK kvs ep0)∈own4 i:=by rw[en];exact ad
    have hH:=(s5.ok i _ mb).2.2;have z:=He (k:=kk) rd kvs vs rr;refine⟨a,rfl,?_⟩;rw[Pc f1 rk'];refine Ny.k ⟨_,hH⟩ (by rw[<-rr.length_map];exact hz) λep=>?_;exact k σ _ F5 _ sF (s5.change (sv':=.oK (Y3 (kvs.map (·.1)) vs kk d).1 (Y3 (kvs.map (·.1)) vs kk d).2) (o':=.dK (Q2 kvs kk v) ep) (ns':=[(a,.dK (Q2 kvs kk v) ep)]) ho hx mb (.oK z.1 z.2) (λp hp=>.inl (ao.mp hp)) Ku)
   ·cases f2
  ·rename_i ks vs;split at e5
   ·rename_i xs;obtain⟨kk,f1,f2⟩:=aa.mp e5;split at f2
    ·rename_i hz;cases f2;obtain⟨x',hx',sh⟩:=s5.at' i _ ho;rw[hx]at hx';cases hx';obtain⟨a,kvs,ep0,bs0,ea,en,kb,rfl,rr⟩:=Zfv sh;subst ea;have mb:(a,HO.dT kvs ep0 bs0)∈own4 i:=by rw[en];exact ad
     have hH:=(s5.ok i _ mb).2.2;have z:=He (k:=kk) rd kvs vs rr;obtain⟨b,us,rfl,hbF,rb⟩:=rk'.tupF;rw[Pd f1 rb]at hbF;refine⟨a,rfl,Ny.t ⟨_,_,hH⟩ (s5.le _ _ hbF) (by rw[<-rr.length_map];exact hz) λep ep1 bs1 hq=>?_⟩;rw[hH]at hq;cases hq;exact k σ _ F5 _ sF (s5.change (sv':=.oT (Y3 (kvs.map (·.1)) vs kk d).1 (Y3 (kvs.map (·.1)) vs kk d).2) (o':=.dT (Q2 kvs kk v) ep (Sm kvs bs0 kk b)) (ns':=[(a,.dT (Q2 kvs kk v) ep (Sm kvs bs0 kk b))]) ho hx mb (.oT (kb.put hbF) z.1 z.2) (λp hp=>.inl (ao.mp hp)) Ku)
    ·cases f2
   ·cases e5
  ·rename_i q ks vs;obtain⟨kk,f1,f2⟩:=aa.mp e5;split at f2
   ·rename_i hz;cases f2;obtain⟨x',hx',sh⟩:=s5.at' i _ ho;rw[hx]at hx';cases hx';obtain⟨kvs,ep0,ea,en,rfl,rr⟩:=Zfu sh;subst ea;have mb:(q,HO.dK kvs ep0)∈own4 i:=by rw[en];exact ad
    have hH:=(s5.ok i _ mb).2.2;have z:=He (k:=kk) rd kvs vs rr;refine⟨q,rfl,?_⟩;rw[Pc f1 rk'];refine Ny.k ⟨_,hH⟩ (by rw[<-rr.length_map];exact hz) λep=>?_;exact k σ _ F5 _ sF (s5.change (sv':=.oQ q (Y3 (kvs.map (·.1)) vs kk d).1 (Y3 (kvs.map (·.1)) vs kk d).2) (o':=.dK (Q2 kvs kk v) ep) (ns':=[(q,.dK (Q2 kvs kk v) ep)]) ho hx mb (.oQ z.1 z.2) (λp hp=>.inl (ao.mp hp)) Ku)
   ·cases f2
  ·cases e5
 ·cases e
@[simp]noncomputable def Zfw(T:String)(g:D->List D->Option SV)(fo:FE)(fd:FD):FE:=λδ=>(fo δ).bind λp=>(rdv p.1 p.2).bind λd0=>if Znt T d0=true then(fd p.2).bind λq=>(rdv p.1 q.2).bind λd1=>(g d1 q.1).bind λsv=>some (.tmp sv,q.2)else none
noncomputable def Zlx(Z:Ent K)(r:V->List V->Hp->VK->Prop)(g:D->List D->Option SV):Prop:=
 ∀(F H:Hp) (σ:L2.St) (δ:Wc) (own:Nat->Zr) (x:V) (d:D) (vs:List V) (ds:List D) (sv:SV) (Q:VK),SR Z F H σ δ own->Yf K F H d x->Reps K F ds vs->g d ds=aA sv->Fin Z F H σ δ own sv Q->r x vs H Q
theorem Zrt{T:String}{r:V->List V->Hp->VK->Prop}{g:D->List D->Option SV}{fo:FE}{fd:FD}(hg:Zlx Z r g)(h:Ze Z (Zfw T g fo fd) σ H Q):tBM K T r (Ze Z fo) (Qd Z fd) σ H Q:=by
 obtain⟨F,δ,own,rv,δ',s,e,k⟩:=h;obtain⟨⟨rv1,δ1⟩,e1,e⟩:=aa.mp e;obtain⟨d0,e2,e⟩:=aa.mp e;dsimp only at e;split at e
 ·rename_i ht;obtain⟨⟨ds,δ2⟩,e3,e⟩:=aa.mp e;obtain⟨d1,e4,e⟩:=aa.mp e;obtain⟨sv,e5,e⟩:=aa.mp e;cases e;refine⟨F,δ,own,rv1,δ1,s,e1,λv H1 F1 own1 sH1 sF1 s1 r1=>?_⟩;obtain⟨F1',sF1',s1',r1'⟩:=s1.settleR r1;refine⟨Zra s1'.le (s1'.rd r1' e2) ht,F1',δ1,own1,ds,δ2,s1',e3,λvs H2 F2 own2 sH2 sF2 s2 r2=>?_⟩;exact hg F2 H2 σ δ2 own2 v d1 vs ds sv Q s2 (s2.rd (r1'.mono sF2) e4) r2 e5 λq H4 F4 ns sH4 sF4 s4 t4=>
   k q H4 F4 own2 (sH1.trans (sH2.trans sH4)) (sF1.trans (sF1'.trans (sF2.trans sF4))) s4 ⟨ns,t4⟩
 ·cases e
@[simp]noncomputable def M7:D->List D->Option SV
 |d,[y]=>(Hf d y).bind λo=>aA (.fz (o.getD .non))
 |d,[y,z]=>(Hf d y).bind λo=>aA (.fz (o.getD z))
 |_,_=>aB
theorem Zjr:Zlx Z Zfs M7:=by
 intro F H σ δ own x d vs ds sv Q s r1 r2 e k;unfold M7 at e;split at e
 ·obtain⟨o,e1,e2⟩:=aa.mp e;cases e2;cases r2 with
  |cons h t=>
   cases t;obtain⟨a,rfl,_,g⟩:=Eu s.le e1 r1 (Yf.of h);cases o with
   |none=>exact⟨a,rfl,.inl ⟨_,aB,rfl,g,k.fz s .non⟩⟩
   |some d=>obtain⟨v,g,rv⟩:=g;exact⟨a,rfl,.inl ⟨_,aA v,rfl,g,k.fz s rv⟩⟩
 ·obtain⟨o,e1,e2⟩:=aa.mp e;cases e2;cases r2 with
  |cons h t=>
   cases t with
   |cons h2 t=>
    cases t;obtain⟨a,rfl,_,g⟩:=Eu s.le e1 r1 (Yf.of h);cases o with
    |none=>exact⟨a,rfl,.inr ⟨_,_,aB,rfl,g,k.fz s h2⟩⟩
    |some d=>obtain⟨v,g,rv⟩:=g;exact⟨a,rfl,.inr ⟨_,_,aA v,rfl,g,k.fz s rv⟩⟩
 ·cases e
end
section
variable{X:Cx}{Z:Ent X.K}{a b c:c5}{fa fb fc:FE}{pos:Pos}
theorem Aj:PE X (.Dict [] [] pos) (Ze Z K8):=Zeo.imp λ_ _ _ h=>Zjo h
theorem Zaj:PE X (.Dict [] [] pos) (Ze Z Zai):=Zep.imp λ_ _ _ h=>Zjp h
theorem Hh{apos cpos:Pos}{es:List c5}{fd:FD}(hu:X.A.units+1<fg)(ha:PE X a (Ze Z fa))(hb:PA X (b::es) (Qd Z fd))(hbase:attributeBase a "get" X.env (gw a X.env)=gw a X.env:=by rfl)
  (hfew:((gp cpos (ba (b::es) X.env)).all (λx=>!x.1)&&(backToKw cpos (keywordEach [] X.env)).all (λx=>x.1.isSome)&&decide ((b::es).length+([]:List Keyword).length+(if([]:List Keyword).isEmpty then 0 else 1)<30))=aC:=by rfl)
  (hline:(apos.endLine==cpos.line)=aC:=by rfl) (hs:ba (b::es) X.env=(aD,gw b X.env)::ba es X.env:=by rfl) (hpl:(gp cpos (ba es X.env)).any (·.1)=aD:=by rfl):
  PE X (.Call (.Attribute a "get" apos) (b::es) [] cpos) (Ze Z (Zfw "dict" M7 fa fd)):=
 (Sv PySem.F.plainAttrs_dict PySem.F.slot_dict_get PySem.F.type_dict_get (Zjn hu) ha hb hbase hfew hline hs hpl).imp λ_ _ _ h=>Zrt Zjr h
theorem Mb(i:Nat){x:Str}{px p1:Pos}(hu:X.A.units+1<fg)(hb:PE X b (Ze Z fb))(hv':PE X a (Ze Z fa))(hN:X.N[i]? =aA x:=by rfl)(hv:D2 X.env.scope x:=by first|exact Or.inl rfl|exact Or.inr (Or.inl rfl)|exact Or.inr (Or.inr rfl))(hd:(x==("__debug__":Str))=aD:=by decide)
  (hcd:(x==("__classdict__":Str))=aD:=by decide) (hs:swapsWith a (aA (.Subscript (.Name x px) b p1)) pos.line X.env=pure aD:=by rfl):
  PS X (.Assign [.Subscript (.Name x px) b p1] a pos) (Z9 Z (Mz i fb fa)):=(Ziw hu (O6 (i:=i) hN hv hd hcd) hb hv' hs).imp λ_ _ _ h=>Zrs h
end
end DL
namespace L2
open PySem PySem.Spec PyProof.Rows
variable{X:Cx}
noncomputable def Zak:List V->Hp->VK->Prop:=λxs H Q=>∃a kvs,xs=[.ref a]/\RdK H a kvs/\∀p ep,H p=aB->Q (.ref p) (Y0 H p (.dK kvs ep))
theorem Vg:Q4 X (.type "dict") Zak:=by intro pins s σ H xs us Q I rs h;obtain⟨a,kvs,rfl,e,q⟩:=h;obtain⟨u,rfl,ru⟩:=Ui rs;cases ru;exact Zer I e λp ep s' hp I'=>⟨.ref p,_,I',rfl,q p ep hp⟩
end L2
namespace DL
open PySem PySem.Spec PyProof.Rows L2
variable{K:ah}
section
variable{Z:Ent K}{H:Hp}{σ:L2.St}{Q:VK}{E:Ends}
@[simp]noncomputable def Zal:List D->Option SV
 | [.dK ks vs]=>aA (.oK ks vs)
 |_=>aB
theorem Zfx:Ot Z Zak Zal:=by
 intro F H σ δ own vs ds sv Q s r e k;unfold Zal at e;split at e
 ·cases e;cases r with
  |cons h t=>cases t;obtain⟨a,kvs,rfl,ha,ek,rr⟩:=h.dK s.le;exact⟨a,kvs,rfl,ha.rd,λp ep hp=>k.one s (.oK ek rr) hp⟩
 ·cases e
end
section
variable{X:Cx}{Z:Ent X.K}{a b c:c5}{fa fb fc:FE}{pos:Pos}
theorem Zfy{p:Pos}(hm:X.mg "dict"=aB)(ha:PE X a (Ze Z fa))(hg:Gl X "dict":=by rfl)(he:ba [a] X.env=(aD,gw a X.env)::ba [] X.env:=by rfl)(hpl:(gp pos (ba [] X.env)).any (·.1)=aD:=by rfl):PE X (.Call (.Name "dict" p) [a] [] pos) (Ze Z (Yd Zal (Zc fa Zi))):=
 R5 Vg Zfx hm boot_dict (Zm ha Yn he) hg (by decide) (by decide) he hpl
end
end DL
namespace L2
open PySem PySem.Spec PyProof.Rows
section
variable{prog:bv}{w:c6}{A:di}{E:aj->aq->Prop}{s:aq}
theorem Hi{Q:Int->aq->Prop}(h:Q 0xFCA86420 {s with toks:=s.toks+1}):bd (bz prog w) A (pyHash .none) Q E s:=by have hT:s.TypeIs .none "NoneType":=rfl;refine PySem.W.pyHash_slot (v:=.none) (Q:=Q) hT F.slot_NoneType_hash F.entry_NoneType_hash (F.args_NoneType_hash_1 _) rfl (.inl rfl) ?_;show bd (bz prog w) A.in1 (mkInt 0xFCA86420 >>=λv=>ret v) _ E s;refine ab (wpAny_mkInt ?_);exact af ⟨_,_,rfl,h⟩
end
noncomputable def Zfz:Option Key->aj->Bool
 |none,.none=>aC
 |none,_=>aD
 |some k,v=>G4 k v
theorem Y7{k:Option Key}{v:aj}(h:Zfz k v=aC):(k=aB/\v= .none)\/∃j,k=aA j/\G4 j v=aC:=by
 cases k with
 |none=>cases v<;> first|exact .inl ⟨rfl,rfl⟩|cases h
 |some j=>exact .inr ⟨j,rfl,h⟩
theorem Ev{j:Key}(h:G4 j .none=aC):False:=by rcases Z5 h with⟨i,t,_,e⟩|⟨x,t,_,e⟩<;> cases e
noncomputable def Pe(prog:bv)(w:c6):PySem.KeyKind prog w (Option Key)where
 is:=Zfz
 hash:=λ|none=>0xFCA86420|some k=>(Zp prog w).hash k
 inj:=λv a b ha hb=>by
  rcases Y7 ha with⟨rfl,rfl⟩|⟨i,rfl,hi⟩
  ·rcases Y7 hb with⟨rfl,_⟩|⟨j,rfl,hj⟩
   ·rfl
   ·exact(Ev hj).elim
  ·rcases Y7 hb with⟨rfl,rfl⟩|⟨j,rfl,hj⟩
   ·exact(Ev hi).elim
   ·rw[(Zp prog w).inj v i j hi hj]
 byValue:=λk v h=>by
  rcases Y7 h with⟨rfl,rfl⟩|⟨i,rfl,hi⟩
  ·rfl
  ·exact(Zp prog w).byValue i v hi
 pyHash:=fun{A E s k v Q} hv h=>by
  rcases Y7 hv with⟨rfl,rfl⟩|⟨i,rfl,hi⟩
  ·exact Hi h
  ·exact(Zp prog w).pyHash hi h
 eqBool:=fun{A E s a b u v Q} hu hv h=>by
  rcases Y7 hu with⟨rfl,rfl⟩|⟨i,rfl,hi⟩
  ·rcases Y7 hv with⟨rfl,rfl⟩|⟨j,rfl,hj⟩
   ·exact SeqAt.EqAt.same _ _ _ _ _ (by simpa using h)
   ·rw[decide_eq_false (λz=>nomatch z)]at h;rcases Z5 hj with⟨i,t,rfl,rfl⟩|⟨x,t,rfl,rfl⟩
    ·exact SeqAt.EqAt.none_int i t _ _ _ _ h
    ·exact SeqAt.EqAt.none_str x t _ _ _ _ h
  ·rcases Y7 hv with⟨rfl,rfl⟩|⟨j,rfl,hj⟩
   ·rw[decide_eq_false (λz=>nomatch z)]at h;rcases Z5 hi with⟨i,t,rfl,rfl⟩|⟨x,t,rfl,rfl⟩
    ·exact SeqAt.EqAt.int_none i t _ _ _ _ h
    ·exact SeqAt.EqAt.str_none x t _ _ _ _ h
   ·refine(Zp prog w).eqBool hi hj ?_;have e:decide (aA i=aA j)=decide (i=j):=by simp
    rw[<-e];exact h
 «strs»:=λk x t v h=>by
  rcases Y7 h with⟨rfl,e⟩|⟨i,rfl,hi⟩
  ·cases e
  ·exact(Zp prog w).strs i x t v hi
variable{X:Cx}
theorem Zam{P:bv}{w:c6}{h:f8}{a:au}{vs:List (Key×aj)}(d:h.DictOf (Zp P w) a vs):h.MapOf (Pe P w) a (λ|none=>aB|some k=>valueAt vs k):=by
 obtain⟨o,es,ep,ho,hc,hd,hk,hf⟩:=d.mapOf;refine⟨o,es,ep,ho,hc,hd,λe he=>?_,λk=>?_⟩
 ·obtain⟨k,h1,h2⟩:=hk e he;exact⟨aA k,h1,h2⟩
 ·cases k with
  |some k=>exact hf k
  |none=>
   show(es.find? λe=>Zfz aB e.key).map (·.val)=aB;rw[Array.find?_eq_none.mpr λe he z=>?_]
   ·rfl
   ·obtain⟨k,h1,_⟩:=hk e he;rcases Y7 z with⟨_,e2⟩|⟨j,e2,_⟩
    ·rw[e2]at h1;exact Ev h1
    ·cases e2
noncomputable def M8(neg:Bool):R2:=λy x H Q=>∃a kvs,y= .non/\x= .ref a/\RdK H a kvs/\Q (.bl neg) H
theorem Zcp:Cq X (g6 .In) (M8 aD):=by intro pins s σ H y x v u Q I ry rx h;obtain⟨a,kvs,rfl,rfl,e,q⟩:=h;cases ry;cases rx;obtain⟨z,hd,vs,rel,dd⟩:=G5 I.hok e;exact wpAny_in_of (knd:=Pe X.prog X.w) (k:=aB) rfl hd (Zam dd) ⟨.bl aD,H,I.tok _,rfl,q⟩
theorem Pf:Cq X (g6 .NotIn) (M8 aC):=by intro pins s σ H y x v u Q I ry rx h;obtain⟨a,kvs,rfl,rfl,e,q⟩:=h;cases ry;cases rx;obtain⟨z,hd,vs,rel,dd⟩:=G5 I.hok e;exact wpAny_notIn_of (knd:=Pe X.prog X.w) (k:=aB) rfl hd (Zam dd) ⟨.bl aC,H,I.tok _,rfl,q⟩
end L2
namespace L2
open PySem PySem.Spec PyProof.Rows
noncomputable def place(kvs:List (Str×aj))(x:Str):Option Nat:=kvs.findIdx? λp=>decide (p.1=x)
end L2
namespace DL
open PySem PySem.Spec PyProof.Rows L2
variable{K:ah}
end DL
namespace DL
open PySem PySem.Spec PyProof.Rows L2
variable{K:ah}
end DL
namespace DL
open PySem PySem.Spec PyProof.Rows L2
variable{K:ah}
@[simp]noncomputable def inY(d1 d2:D):Option SV:=match d1,d2 with
 | .non,.dK _ _=>aA (.fz (.bl aD))
 |_,_=>inX d1 d2
@[simp]noncomputable def Hj(d1 d2:D):Option SV:=match d1,d2 with
 | .non,.dK _ _=>aA (.fz (.bl aC))
 |_,_=>Hg d1 d2
section
variable{Z:Ent K}
theorem Zru:Y6 Z (λx y H Q=>((∃i j,x= .str i/\y= .str j/\Q (.bl (!(dw j i 0 j.length 1).isEmpty)) H)\/Zfo x y H Q)\/M8 aD x y H Q) inY:=by
 intro F H σ δ own x y d1 d2 sv Q s r1 r2 e k;unfold inY at e;split at e
 ·cases e;obtain⟨a,kvs,rfl,ha,_,_⟩:=r2.dK s.le;exact .inr ⟨a,kvs,r1.non,rfl,ha.rd,k.fz s (.bl _)⟩
 ·exact .inl (Zrq F H σ δ own x y d1 d2 sv Q s r1 r2 e k)
theorem Zf0:Y6 Z (λx y H Q=>((∃i j,x= .str i/\y= .str j/\Q (.bl (!(!(dw j i 0 j.length 1).isEmpty))) H)\/R9 x y H Q)\/M8 aC x y H Q) Hj:=by
 intro F H σ δ own x y d1 d2 sv Q s r1 r2 e k;unfold Hj at e;split at e
 ·cases e;obtain⟨a,kvs,rfl,ha,_,_⟩:=r2.dK s.le;exact .inr ⟨a,kvs,r1.non,rfl,ha.rd,k.fz s (.bl _)⟩
 ·exact .inl (Zfr F H σ δ own x y d1 d2 sv Q s r1 r2 e k)
end
end DL
namespace DL
open PySem PySem.Spec PyProof.Rows L2
variable{K:ah}
theorem SR.changeT{Z:Ent K}{F H:Hp}{σ:L2.St}{δ:Wc}{own:Nat->Zr}{i:Nat}{sv sv' svT:SV}{a:au}{o o':HO}{v vT:V}{ns' nsT:Zr}(s:SR Z F H σ δ own)(t:TmpOk Z F H own svT vT nsT)(e:δ[i]? =aA (aA sv))(hv:σ[i]? =aA (aA v))
  (ha:(a,o)∈own i) (hs:Shape K F sv' v ns') (hns:∀p∈ns',p=(a,o')\/(p∈own i/\p.1≠a)\/p∈nsT) (nd:(T8 ns').Nodup):SR Z F (Y0 H a o') σ (δ.set i (aA sv')) (put own i ns'):=by
 obtain⟨fa,ha0,hHa⟩:=s.ok i (a,o) ha;have hi:i<δ.length:=(ax.mp e).1;refine⟨λb u eb=>?_,s.fro,λb u eb=>?_,by rw[List.length_set];exact s.len,λj sw ej=>?_,λj=>?_,λj p hp=>?_,λj k p q hjk hp hq=>?_⟩
 ·rw[Zv λz=>by rw[z]at eb;rw[fa]at eb;cases eb];exact s.le b u eb
 ·rw[Zv λz=>by rw[z]at eb;rw[ha0]at eb;cases eb];exact s.old b u eb
 ·by_cases hj:j=i
  ·subst hj;rw[d4 hi]at ej;cases ej;rw[Yl];exact⟨v,hv,hs⟩
  ·rw[f7 (Ne.symm hj)]at ej;rw[Yx hj];exact s.at' j sw ej
 ·by_cases hj:j=i
  ·subst hj;rw[Yl];exact nd
  ·rw[Yx hj];exact s.nod j
 ·by_cases hj:j=i
  ·subst hj;rw[Yl]at hp;rcases hns p hp with z|⟨z,ne⟩|z
   ·subst z;exact⟨fa,ha0,Yr⟩
   ·obtain⟨x,y,w⟩:=s.ok j p z;exact⟨x,y,by rw[Zv ne];exact w⟩
   ·obtain⟨x,y,w⟩:=t.ok p z;exact⟨x,y,by rw[Zv (t.sep j p (a,o) z ha)];exact w⟩
  ·rw[Yx hj]at hp;obtain⟨x,y,w⟩:=s.ok j p hp;exact⟨x,y,by rw[Zv (s.sep j i p (a,o) hj hp ha)];exact w⟩
 ·have far:∀(l:Nat) (r q:au×HO),l≠i->r∈ns'->q∈own l->r.1≠q.1:=λl r q hl hr hq=>by
   rcases hns r hr with z|⟨z,_⟩|z
   ·subst z;exact s.sep i l (a,o) q (Ne.symm hl) ha hq
   ·exact s.sep i l r q (Ne.symm hl) z hq
   ·exact t.sep l r q z hq
  by_cases hj:j=i
  ·subst hj;rw[Yl]at hp;rw[Yx (Ne.symm hjk)]at hq;exact far k p q (Ne.symm hjk) hp hq
  ·by_cases hk:k=i
   ·subst hk;rw[Yl]at hq;rw[Yx hj]at hp;exact λz=>far j q p hj hq hp z.symm
   ·rw[Yx hj]at hp;rw[Yx hk]at hq;exact s.sep j k p q hjk hp hq
theorem Kids.snoc{F:Hp}:∀{xss:List (List D)} {ws:List V} {ns:Zr} {xs:List D} {b:au} {vs:List V},Kids K F xss ws ns->Reps K F xs vs->Kids K F (xss++[xs]) (ws++[.ref b]) (ns++[(b,.lst vs)])
 |_,_,_,_,_,_,.nil,r=>.cons r .nil
 |_,_,_,_,_,_,.cons h t,r=>.cons h (t.snoc r)
section
variable{Z:Ent K}{H:Hp}{σ:L2.St}{Q:VK}{E:Ends}
theorem Kids.length{F:Hp}:∀{xss:List (List D)} {ws:List V} {ns:Zr},Kids K F xss ws ns->xss.length=ws.length
 |_,_,_,.nil=>rfl
 |_,_,_,.cons _ t=>by rw[bc,bc,t.length]
end
theorem Kids.ref{F:Hp}:∀{xss:List (List D)} {ws:List V} {ns:Zr} {p:Nat} {v:V},Kids K F xss ws ns->ws[p]? =aA v->∃b,v= .ref b
 |_,_,_,_,_,.nil,e=>by simp at e
 |_,_,_,0,_,.cons _ _,e=>by simp at e;exact⟨_,e.symm⟩
 |_,_,_,p+1,_,.cons _ t,e=>t.ref (p:=p) (by simpa using e)
end DL
namespace DL
open PySem PySem.Spec PyProof.Rows L2
variable{K:ah}
section
variable{Z:Ent K}{H:Hp}{σ:L2.St}{E:Ends}
@[simp]noncomputable def Zn2(fe:FE):FS:=λδ=>(fe δ).bind λp=>(frz p.1 p.2).bind λq=>some (.rt (.fz q.1))
theorem Zn3{fe:FE}(h:Z9 Z (Zn2 fe) E σ H):Zmw (Ze Z fe) E σ H:=by obtain⟨F,δ,own,fl,s,e,k⟩:=h;obtain⟨⟨rv,δ1⟩,e1,e2⟩:=aa.mp e;obtain⟨⟨d,δ2⟩,e3,e4⟩:=aa.mp e2;cases e4;refine⟨F,δ,own,rv,δ1,s,e1,λv H1 F1 own1 sH sF s1 r1=>?_⟩;obtain⟨F2,sF2,s2,r2⟩:=s1.settleR r1;obtain⟨F3,own3,sF3,s3,r3⟩:=s2.frzR r2 e3;exact k v H1 F3 [] (sF.trans (sF2.trans sF3)) s3.le s3.fro s3.old (.fz r3) cm λ_ h=>(nomatch h)
end
section
variable{X:Cx}{Z:Ent X.K}{a b c:c5}{fa fb fc:FE}{pos:Pos}
theorem Zn4(h:PE X a (Ze Z fa)):PS X (.Return (aA a) pos) (Z9 Z (Zn2 fa)):=(Zd2 h).imp λ_ _ _ h=>Zn3 h
end
end DL
namespace L2
open PySem PySem.Spec PyProof.Rows
variable{X:Cx}
noncomputable def Zly:R2:=λx y H Q=>∃a k,x= .str a/\y= .int k/\MulOk a k/\Q (.str (Txt.mul a k)) H
theorem Zjs:Cq X (binaryOp .Mult) Zly:=by intro pins s σ H x y v u Q I rx ry h;obtain⟨a,k,rfl,rfl,hm,q⟩:=h;obtain⟨t,rfl⟩:=rx;obtain⟨t',rfl⟩:=ry;exact SB.mul hm λt' k=>⟨.str _,H,I.tok _,⟨_,rfl⟩,q⟩
end L2
namespace DL
open PySem PySem.Spec PyProof.Rows L2
variable{K:ah}
@[simp]noncomputable def D.fv:D->V
 | .bl b=>.bl b
 | .int i=>.int i
 | .str x=>.str x
 |_=>.non
theorem Zf1{F H:Hp}{d:D}{x:V}(r:Yf K F H d x)(h:d.isFlat=aC):x=d.fv/\Wt x=aC:=by
 cases d with
 |non=>rw[r.non];exact⟨rfl,rfl⟩
 |bl b=>rw[r.bl];exact⟨rfl,rfl⟩
 |int i=>rw[r.int];exact⟨rfl,rfl⟩
 |str y=>rw[r.str];exact⟨rfl,rfl⟩
 |_=>cases h
theorem Hk{F:Hp}:∀{ds:List D} {vs:List V},Reps K F ds vs->ds.all D.isFlat=aC->vs=ds.map D.fv/\vs.all Wt=aC
 |_,_,.nil,_=>⟨rfl,rfl⟩
 |_,_,.cons h t,e=>by rw[List.all_cons,Bool.and_eq_true]at e;obtain⟨a1,a2⟩:=Zf1 (H:=F) (Yf.of h) e.1;obtain⟨b1,b2⟩:=Hk t e.2;refine⟨by rw[a7,<-a1,<-b1],by rw[List.all_cons,a2,b2];rfl⟩
noncomputable def Zjt(y x:D):Bool:=Xw y.fv x.fv
@[simp]theorem Zju(a b:Bool):Zjt (.bl a) (.bl b)=decide (a=b):=by cases a<;> cases b<;> rfl
@[simp]theorem Zrv:Zjt .non .non=true:=rfl
@[simp]theorem Zta(a:Str):Zjt (.str a) .non=false:=rfl
noncomputable def Hl(x:D)(xs:List D):Bool:=xs.any λy=>Zjt y x
theorem Zan{d:D}{ds:List D}:inV d.fv (ds.map D.fv)=Hl d ds:=by unfold inV Hl;rw[List.any_map];rfl
noncomputable def D.seq?:D->Option (List D)
 | .lst xs=>aA xs
 | .tup xs=>aA xs
 |_=>aB
@[simp]theorem Ztb(xs:List D):D.seq? (.lst xs)=some xs:=rfl
@[simp]theorem Ztc(xs:List D):D.seq? (.tup xs)=some xs:=rfl
@[simp]theorem Ztd(x:Str):D.seq? (.str x)=none:=rfl
@[simp]theorem Zuk(ks:List Key)(vs:List D):D.seq? (.dK ks vs)=none:=rfl
@[simp]theorem Zul(ks:List (List Key))(vs:List D):D.seq? (.dT ks vs)=none:=rfl
@[simp]noncomputable def inZ(d1 d2:D):Option SV:=match d2.seq? with
 |some xs=>if d1.isFlat=aC/\xs.all D.isFlat=aC then aA (.fz (.bl (Hl d1 xs)))else aB
 |none=>inY d1 d2
@[simp]noncomputable def B0(d1 d2:D):Option SV:=match d2.seq? with
 |some xs=>if d1.isFlat=aC/\xs.all D.isFlat=aC then aA (.fz (.bl (!Hl d1 xs)))else aB
 |none=>Hj d1 d2
section
variable{Z:Ent K}{H:Hp}{σ:L2.St}{Q:VK}{E:Ends}
theorem Zf2{F:Hp}{d:D}{x:V}{xs:List D}(le:Zl F H)(r:Yf K F H d x)(h:d.seq? =aA xs):∃a vs,x= .ref a/\(U0 K H a vs\/Mw K H a vs)/\Reps K F xs vs:=by
 cases d with
 |lst ys=>cases h;obtain⟨a,vs,e,q,rr⟩:=r.lst le;exact⟨a,vs,e,.inl q,rr⟩
 |tup ys=>cases h;obtain⟨a,vs,e,q,rr⟩:=r.tup le;exact⟨a,vs,e,.inr q,rr⟩
 |_=>cases h
theorem Zrx:Y6 Z (λx y H Q=>(((∃i j,x= .str i/\y= .str j/\Q (.bl (!(dw j i 0 j.length 1).isEmpty)) H)\/Zfo x y H Q)\/M8 aD x y H Q)\/rIn K aD x y H Q) inZ:=by
 intro F H σ δ own x y d1 d2 sv Q s r1 r2 e k;unfold inZ at e;split at e
 ·rename_i xs hx;split at e
  ·rename_i hf;cases e;obtain⟨a,vs,rfl,hq,rr⟩:=Zf2 s.le r2 hx;obtain⟨e1,f1⟩:=Zf1 r1 hf.1;obtain⟨e2,f2⟩:=Hk rr hf.2;refine .inr ⟨a,vs,rfl,hq,f1,f2,?_⟩;rw[e1,e2,Zan];exact k.fz s (.bl _)
  ·cases e
 ·exact .inl (Zru F H σ δ own x y d1 d2 sv Q s r1 r2 e k)
theorem Zf3:Y6 Z (λx y H Q=>(((∃i j,x= .str i/\y= .str j/\Q (.bl (!(!(dw j i 0 j.length 1).isEmpty))) H)\/R9 x y H Q)\/M8 aC x y H Q)\/rIn K aC x y H Q) B0:=by
 intro F H σ δ own x y d1 d2 sv Q s r1 r2 e k;unfold B0 at e;split at e
 ·rename_i xs hx;split at e
  ·rename_i hf;cases e;obtain⟨a,vs,rfl,hq,rr⟩:=Zf2 s.le r2 hx;obtain⟨e1,f1⟩:=Zf1 r1 hf.1;obtain⟨e2,f2⟩:=Hk rr hf.2;refine .inr ⟨a,vs,rfl,hq,f1,f2,?_⟩;rw[e1,e2,Zan];exact k.fz s (.bl _)
  ·cases e
 ·exact .inl (Zf0 F H σ δ own x y d1 d2 sv Q s r1 r2 e k)
open Classical in
noncomputable def Zjv(a:Str)(k:Int):Option SV:=if MulOk a k then aA (.fz (.str (Txt.mul a k)))else aB
theorem Zjw{a:Str}{k:Int}{sv:SV}(h:Zjv a k=aA sv):MulOk a k/\sv= .fz (.str (Txt.mul a k)):=by
 unfold Zjv at h;split at h
 ·rename_i hm;cases h;exact⟨hm,rfl⟩
 ·cases h
noncomputable def Zao(i j:Int):Prop:=Ze6 i j=aC
open Classical in
noncomputable def Vh(i j:Int):Option SV:=if Zao i j then aA (.fz (.int (i*j)))else aB
theorem Zjx{i j:Int}{sv:SV}(h:Vh i j=aA sv):Zq0 (.int i) (.int j)=aA sv:=by
 unfold Vh at h;split at h
 ·rename_i hc;cases h;unfold Zao at hc;simp[hc]
 ·cases h
theorem Hm{i j:Int}(h:-(2^64)<j/\j<2^64):Vh i j=aA (.fz (.int (i*j))):=by unfold Vh;rw[if_pos];unfold Zao Ze6;rw[decide_eq_true h.1,decide_eq_true h.2];simp
theorem Hn{i j:Int}(h:-(2^64)<i/\i<2^64):Vh i j=aA (.fz (.int (i*j))):=by unfold Vh;rw[if_pos];unfold Zao Ze6;rw[decide_eq_true h.1,decide_eq_true h.2];simp
noncomputable def Ew:D->D->Option SV
 | .str a,.int k=>Zjv a k
 | .int i,.int j=>Vh i j
 |_,_=>aB
@[simp]theorem Zte(a:Str)(k:Int):Ew (.str a) (.int k)=Zjv a k:=rfl
@[simp]theorem Ztf(i j:Int):Ew (.int i) (.int j)=Vh i j:=rfl
theorem Zn5:Y6 Z (λx y H Q=>rI Zd9 (λi j=>V.int (i*j)) x y H Q\/Zly x y H Q) Ew:=by
 intro F H σ δ own x y d1 d2 sv Q s r1 r2 e k;unfold Ew at e;split at e
 ·obtain⟨hm,rfl⟩:=Zjw e;exact .inr ⟨_,_,r1.str,r2.int,hm,k.fz s (.str _)⟩
 ·exact .inl (Zq3 F H σ δ own x y _ _ sv Q s r1 r2 (Zjx e) k)
 ·cases e
@[simp]noncomputable def Zcq:List D->Option SV
 | [.int i]=>if i.natAbs.log2<1920 then aA (.fz (.str (toString i)))else aB
 |_=>aB
theorem Zn6:Ot Z (λxs H Q=>∃i:Int,xs=[.int i]/\i.natAbs.log2<1920/\Q (.str (toString i)) H) Zcq:=by
 intro F H σ δ own vs ds sv Q s r e k;unfold Zcq at e;split at e
 ·split at e
  ·rename_i hm;cases e;cases r with
   |cons h1 t=>cases t;exact⟨_,by rw[h1.int],hm,k.fz s (.str _)⟩
  ·cases e
 ·cases e
end
section
variable{X:Cx}{Z:Ent X.K}{a b c:c5}{fa fb fc:FE}{pos:Pos}
theorem Zlz(hu:X.A.units+1<fg)(ha:PE X a (Ze Z fa))(hb:PE X b (Ze Z fb))(hm:behindInMarks .In b=aD:=by rfl):PE X (.Compare a [.In] [b] pos) (Ze Z (Zn inZ fa fb)):=Zlu (((Zb7.or (Hc hu)).or Zcp).or Zcc) Zrx ha hb hm
theorem Ex(hu:X.A.units+1<fg)(ha:PE X a (Ze Z fa))(hb:PE X b (Ze Z fb))(hm:behindInMarks .NotIn b=aD:=by rfl):PT X (.Compare a [.NotIn] [b] pos) (Ym Z (Yy (Zn B0 fa fb))):=Ep (((Nv.or (Fv hu)).or Pf).or Nu) Zf3 ha hb hm
theorem M9(ha:PE X a (Ze Z fa))(hb:PE X b (Ze Z fb)):PE X (.BinOp a .Mult b pos) (Ze Z (Zn Ew fa fb)):=Zab (Zm2.or Zjs) Zn5 ha hb
theorem Zn7{p:Pos}(hm:X.mg "str"=aB)(ha:PE X a (Ze Z fa))(hg:Gl X "str":=by rfl)(he:ba [a] X.env=(aD,gw a X.env)::ba [] X.env:=by rfl)(hpl:(gp pos (ba [] X.env)).any (·.1)=aD:=by rfl):PE X (.Call (.Name "str" p) [a] [] pos) (Ze Z (Yd Zcq (Zc fa Zi))):=
 R5 Np Zn6 hm boot_str (Zm ha Yn he) hg (by decide) (by decide) he hpl
end
end DL
namespace DL
open PySem PySem.Spec PyProof.Rows L2
end DL
namespace DL
open PySem PySem.Spec PyProof.Rows L2
variable{K:ah}
section
variable{Z:Ent K}{H:Hp}{σ:L2.St}{Q:Bool->Hp->Prop}
@[simp]noncomputable def K9(f:FT):FT:=λδ=>(f δ).bind λp=>some (p.1,δ)
theorem Zjy{f:FT}(h:Ym Z (K9 f) σ H Q):Ym Z f σ H Q:=by obtain⟨F,δ,own,b,δ',s,e,k⟩:=h;obtain⟨⟨b1,δ1⟩,e1,e2⟩:=aa.mp e;cases e2;exact⟨F,δ,own,b1,δ1,s,e1,λH' F' own' sH sF s'=>k H' F own sH (Zl.refl F) (s.grow sH)⟩
end
section
variable{X:Cx}{Z:Ent X.K}{a:c5}{ft:FT}
theorem Pg(ha:PT X a (Ym Z ft)):PT X a (Ym Z (K9 ft)):=ha.imp λ_ _ _ h=>Zjy h
end
end DL
namespace DL
open PySem PySem.Spec PyProof.Rows L2
variable{K:ah}
end DL
namespace DL
open PySem PySem.Spec PyProof.Rows L2
variable{K:ah}
end DL
namespace DL
open PySem L2
variable{K:ah}
inductive RX where
 |v (rv:RV) (δ:Wc)|x (e:Exn) (δ:Wc)
noncomputable abbrev FX:=Wc->Option RX
@[simp]noncomputable def FX.val(f:FX):FE:=λδ=>match f δ with
 |some (.v rv δ')=>aA (rv,δ')
 |_=>aB
section
variable{Z:Ent K}{H:Hp}{σ:St}{Q:VK}{E:Ends}
set_option genInjectivity false in
structure HX where
 x:Str
 np:Pos
 nm:Option (Str×Nat)
 b0:Stmt
 suite:List Stmt
 pos:Pos
 B:au
 yes:List Str
 no:List Str
 f:FS
noncomputable def HX.hd(Z:Ent K)(h:HX):Hd:=⟨h.x,h.np,h.nm,h.b0,h.suite,h.pos,h.B,Z9 Z h.f⟩
set_option genInjectivity false in
structure HF where
 i:Option Nat
 yes:List Str
 no:List Str
 f:FS
@[simp]noncomputable def HX.hf(h:HX):HF:=⟨h.nm.map (·.2),h.yes,h.no,h.f⟩
@[simp]noncomputable def Fl.but(i:Nat):Fl->Fl
 | .nx δ=>.nx (δ.set i aB)
 | .bk δ=>.bk (δ.set i aB)
 | .ct δ=>.ct (δ.set i aB)
 | .ex e δ=>.ex e (δ.set i aB)
 | .rt sv=>.rt sv
@[simp]noncomputable def Fl.isEx:Fl->Bool
 | .ex _ _=>aC
 |_=>aD
@[simp]noncomputable def HF.run(h:HF)(x:Exn)(δ:Wc):Option Fl:=match h.i with
 |none=>h.f δ
 |some i=>if i<δ.length then(h.f (δ.set i (aA (.fz (.exc x.c x.ks x.vs))))).bind λfl=>if fl.isEx=aC then aB else aA (fl.but i)else aB
noncomputable abbrev Ent.wish(Z:Ent K)(EX:EXT):Ent K:=⟨Z.h,Z.f,EX⟩
end
end DL
namespace DL
open PySem PySem.Spec PyProof.Rows L2
end DL
namespace DL
open PySem PySem.Spec PyProof.Rows L2
section
variable{X:Cx}{pins:List (au×Obj)}{σ:L2.St}{H:Hp}{s:aq}
theorem Inv.trackO{a:au}{o:HO}(I:Inv X pins σ H s)(e0:X.s₀.heap.get? a=aB)(eH:H a=aB)(le:a≠X.env.locals)(ce:∀x c,X.env.cells.lookup x=aA c->c≠a)(pe:∀p∈X.pn++pins,p.1≠a)(new:Yb X.prog X.w (Y0 H a o) s.heap a o):Inv X pins σ (Y0 H a o) s:=by
 refine⟨I.ok,I.os,I.bare,⟨I.base.keep,I.base.slot,λb o q n hx=>?_,I.base.there,λb xs q=>?_,λb o u q=>?_,λb ps q=>?_⟩,I.loc,I.cell,?_,λx c ec=>?_,λp hp=>?_,λb u q=>?_,I.len⟩
 ·rw[Zv (λz=>by rw[z,e0]at q;cases q)];exact I.base.free b o q n hx
 ·have:=I.base.tups b xs q;rw[Zv (λz=>by rw[z,eH]at this;cases this)];exact this
 ·have:=I.base.frzs b o u q;rw[Zv (λz=>by rw[z,eH]at this;cases this)];exact this
 ·obtain⟨m,this⟩:=I.base.tbls b ps q;exact⟨m,by rw[Zv (λz=>by rw[z,eH]at this;cases this)];exact this⟩
 ·rw[Zv (Ne.symm le)];exact I.free
 ·rw[Zv (ce x c ec)];exact I.freeC x c ec
 ·obtain⟨q,n,r⟩:=I.pin p hp;exact⟨q,by rw[Zv (pe p hp)];exact n,r⟩
 ·by_cases hb:b=a
  ·subst hb;rw[Yr]at q;cases q;exact new
  ·rw[Zv hb]at q;exact(I.hok b u q).stay (λc v _ z=>z) (λc z=>by rw[Zv (λy=>by rw[y,eH]at z;cases z)];exact z) (λc xs z=>by rw[Zv (λy=>by rw[y,eH]at z;cases z)];exact z) λc o z=>by rw[Zv (λy=>by rw[y,eH]at z;cases z)];exact z
noncomputable def Zf4(trs:List (TE×TE)):TE:=λσ H Q=>X3 trs σ H λps H2=>∃kvs:List (Key×V),ps=kvs.map (λkv=>(kV kv.1,kv.2))/\kvs.length<=15/\∀p ep,H2 p=aB->Q (.ref p) (Y0 H2 p (.dK (Bt [] kvs) ep))
theorem Zf5{pos:Pos}{keys:List (Option c5)}{values:List c5}{trs:List (TE×TE)}(h:PPs X pos keys values trs)(hall:keys.all (·.isSome)=aC)(hl:keys.length=values.length)(h0:keys≠[])
  (h15:keys.length<=15):PE X (.Dict keys values pos) (Zf4 trs):=by
 intro pins s σ H Q I q;have hn:=I.hok.fresh (az s.heap.objs.size);have I0:=I.kept (h':=s.heap.push {cls:=.type "dict",data:=.dict #[]}) (t':=s.toks) (λ_ _ q=>ar _ q);have hob:(s.heap.push {cls:=.type "dict",data:=.dict #[]}).get? s.heap.objs.size=aA {cls:=.type "dict",data:=.dict #[]}:=a9 _ rfl;have old:∀b o,s.heap.get? b=aA o->b≠s.heap.objs.size:=λb o z=>b9 (bf z);have apart:∀p∈X.pn++pins,p.1≠s.heap.objs.size:=λp hp=>old _ _ (I.pin p hp).1;have hloc:s.heap.objs.size≠X.env.locals:=λz=>g9 _ (c9 (z▸I.lt) (az _));have hcel:∀x c,X.env.cells.lookup x=aA c->c≠s.heap.objs.size:=λx c ec=>by obtain⟨v,o,ho,_⟩:=I.cell x c ec;exact old _ _ ho
 have hs0:X.s₀.heap.get? s.heap.objs.size=aB:=Heap.get?_none_of_le I.sz;have I1:=I0.pins_of (pins':=(s.heap.objs.size,{cls:=.type "dict",data:=.dict #[]})::pins) λp hp=>by
  rcases bo.mp hp with z|z
  ·subst z;exact⟨hob,hn,hloc,I.nofs (az _),λv z=>nomatch z⟩
  ·exact I0.pin p (bq _ z)
 refine wpAny_Dict_walk (knd:=Zp X.prog X.w) hall hl h0 h15 (Wv (h _ _ σ _ _ I1 q) λws s2 zq9=>?_);obtain⟨ps,H2,I2,rel,kvs,ep,lk,q2⟩:=zq9;subst ep;obtain⟨rs,c,rk⟩:=Eh (P:=X.prog) (w:=X.w) rel;obtain⟨p1,p2,p3,p4,p5⟩:=I2.pin (s.heap.objs.size,{cls:=.type "dict",data:=.dict #[]}) (bq _ ad);have new0:Yb X.prog X.w (Y0 H2 s.heap.objs.size (.dK [] 0)) s2.heap s.heap.objs.size (.dK [] 0):=(show Yb X.prog X.w (λ_=>aB) _ _ (.dK [] 0)from Sx s.heap I.big).stay (λb u hb z=>by
  rcases hb with rfl|hb
  ·rw[hob]at z;cases z;exact p1
  ·cases hb) (λ_ z=>nomatch z) (λ_ _ z=>nomatch z) λ_ _ z=>nomatch z
 have I3:Inv X pins σ (Y0 H2 s.heap.objs.size (.dK [] 0)) s2:=Inv.trackO (I2.pins_of (pins':=pins) λp hp=>I2.pin p (bq _ (am _ hp))) hs0 p2 hloc hcel apart new0;obtain⟨z,hd,vs0,r0,dd⟩:=Zlh I3.hok ⟨_,(show Y0 H2 s.heap.objs.size (.dK [] 0) s.heap.objs.size=aA (.dK [] 0)from Yr)⟩;cases r0;refine⟨rs,c,dd,λh' dd' hs=>?_⟩;have hz:(Bt [] kvs).length<=sizeLine:=by have h1:=G6 kvs [];rw[List.length_nil]at h1;rw[ff];omega
 have he:∃q,h'.get? s.heap.objs.size=aA q:=let⟨q,_,_,hq,_⟩:=dd';⟨q,hq⟩
 obtain⟨ep,ok⟩:=Xz hz hd (rk.merge .nil) dd';have I4:L2.Inv X pins σ (Y0 (Y0 H2 s.heap.objs.size (.dK [] 0)) s.heap.objs.size (.dK (Bt [] kvs) ep)) {s2 with heap:=h',toks:=s2.toks+ws.length}:=Af I3 (by rw[Yr];exact True.intro) hs he (ok _);rw[Zh9]at I4;exact⟨.ref s.heap.objs.size,_,I4,rfl,q2 _ ep p2⟩
end
section
variable{K:ah}{Z:Ent K}{σ:L2.St}{H:Hp}{Q:VK}
theorem Ho{f:FE}{Q':VK}(m:∀v H,Q v H->Q' v H)(h:Ze Z f σ H Q):Ze Z f σ H Q':=by obtain⟨F,δ,own,rv,δ',s,e,k⟩:=h;exact⟨F,δ,own,rv,δ',s,e,λv H' F' own' a b c d=>m _ _ (k v H' F' own' a b c d)⟩
theorem La:∀(more acc:List (Key×V)),((acc++more).map (·.1)).Nodup->Bt acc more=acc++more
 | [],acc,_=>by show acc=acc++[];rw[List.append_nil]
 |p::r,acc,h=>by
  have e:Q2 acc p.1 p.2=acc++[p]:=by unfold Q2;rw[if_neg];intro z;obtain⟨q,hq,z⟩:=List.any_eq_true.mp z;rw[b4,cu]at h;exact h.2.2 p.1 (av.mpr ⟨q,hq,of_decide_eq_true z⟩) p.1 (by simp) rfl
  show Bt (Q2 acc p.1 p.2) r=_;rw[e,La r (acc++[p]) (by simpa using h)];simp
end
end DL
namespace DL
open PySem PySem.Spec PyProof.Rows L2
@[simp]noncomputable def Hq(ss:List Str)(fd:FD):FD:=λδ=>(fd δ).bind λp=>some (ss.map D.str++p.1,p.2)
theorem Zjz{K:ah}{Z:Ent K}{σ:L2.St}{H:Hp}{fd:FD}:∀(ss:List Str) {R:List V->Hp->Prop},Qd Z (Hq ss fd) σ H R->Qd Z fd σ H λvs H'=>R (ss.map V.str++vs) H'
 |ss,R,h=>by obtain⟨F,δ,own,ds,δ',s,e,k⟩:=h;obtain⟨⟨ds1,δ1⟩,e1,e2⟩:=aa.mp e;cases e2;refine⟨F,δ,own,ds1,δ1,s,e1,λvs H' F' own' a b c r=>k _ H' F' own' a b c ?_⟩;exact Reps.append (strs_rep ss) r
where strs_rep {F:Hp}:∀ss:List Str,Reps K F (ss.map D.str) (ss.map V.str)
 | []=>.nil
 |x::r=>.cons (.str x) (strs_rep r)
section
variable{X:Cx}{Z:Ent X.K}{pos:Pos}
noncomputable abbrev cst(x:Str×Nat×Pos):Expr:=.Constant (.str x.1) x.2.1 x.2.2
theorem Vi{es:List c5}{t:TA}(h:PA X es t):∀l:List (Str×Nat×Pos),PA X (l.map cst++es) λσ H R=>t σ H λvs H'=>R ((l.map λx=>V.str x.1)++vs) H'
 | []=>h
 |x::r=>(Um (e:=cst x) (es:=r.map cst++es) Zd0 (Vi h r) rfl).imp λσ H R q=>q
theorem Zj0{es:List c5}{fd:FD}(l:List (Str×Nat×Pos))(h:PA X es (Qd Z fd)):PA X (l.map cst++es) (Qd Z (Hq (l.map (·.1)) fd)):=
 (Vi h l).imp λσ H R q=>by have:=Zjz (l.map (·.1)) q;rw[bi]at this;exact this
end
end DL
namespace DL
open PySem PySem.Spec PyProof.Rows L2
end DL
namespace L2
open PySem PySem.Spec PyProof.Rows
end L2
namespace DL
open PySem PySem.Spec PyProof.Rows L2
end DL
namespace DL
section
variable{α:Type}{P:List α->Prop}
@[elab_as_elim]theorem of1(h:∀a,P [a])(us:List α)(hl:us.length=1):P us:=by obtain⟨a,e⟩:=List.length_eq_one_iff.mp hl;rw[e];exact h a
theorem ofC{n:Nat}(h:∀a (us:List α),us.length=n->P (a::us))(us:List α)(hl:us.length=n+1):P us:=by
 cases us with
 |nil=>exact absurd hl (by simp)
 |cons a r=>exact h a r (by simpa using hl)
@[elab_as_elim]theorem of2(h:∀a b,P [a,b])(us:List α)(hl:us.length=2):P us:=ofC (λa=>of1 (P:=λus=>P (a::us)) (h a)) us hl
@[elab_as_elim]theorem of3(h:∀a b c,P [a,b,c])(us:List α)(hl:us.length=3):P us:=ofC (λa=>of2 (P:=λus=>P (a::us)) (h a)) us hl
@[elab_as_elim]theorem of4(h:∀a b c d,P [a,b,c,d])(us:List α)(hl:us.length=4):P us:=ofC (λa=>of3 (P:=λus=>P (a::us)) (h a)) us hl
end
end DL
namespace L2
open PySem PySem.Spec PyProof.Rows
section
variable{prog:bv}{w:c6}{A:di}{E:aj->aq->Prop}{s:aq}{q d:au}{i n ep:Nat}{od:Obj}{es:Array DictEntry}
theorem Mc{Q:aj->aq->Prop}(hs:(d==sysModules)=aD)(g:s.heap.get? d=aA od)(x:od.ExactDict)(c:od.data= .dict es ep)
  (k:Q (.ref s.heap.objs.size) {s with heap:=s.heap.push {cls:=.type "dict_keyiterator",data:=.fields #[.ref d,.int 0 0,.int es.size 0,.int ep 0]}}):bd (bz prog w) A (pyIter (.ref d)) Q E s:=by
 have T:s.TypeIs (.ref d) "dict":=⟨od,g,x.1⟩
 refine wpAny_pyIter_slot T PySem.F.slot_dict_iter (de PySem.F.slot_dict_iter T PySem.F.entry_dict_iter (show bd _ _ (Builtin.«dict.__iter__» _) _ _ _ from ?_) (PySem.F.args_dict_iter_1 _));unfold Builtin.«dict.__iter__» Builtin.Dict.dictSlotNone;refine ab (ab (wpAny_notOrdered_dict T (show bd _ _ (pure (bu d)) _ _ s from af ?_)));show bd _ _ (Builtin.Dict.showsAll d >>=_) _ _ s;unfold Builtin.Dict.showsAll;rw[if_neg (by rw[hs];decide)];refine ab (af (ab (wpAny_dictEntries g c (ab (wpAny_dictEpoch g c (ab (dn (af ⟨_,rfl,"dict_keyiterator",_,⟨_,a9 _ rfl,rfl⟩,gk.lookup,?_⟩))))))));simpa[rawInt]using k
theorem Md{e:DictEntry}{Q:Option aj->aq->Prop}(t:s.heap.IsKeyIter q d i n ep)(g:s.heap.get? d=aA od)(c:od.data= .dict es ep)(hn:es.size=n)(he:es[i]? =aA e)
  (k:∀h',h'.IsKeyIter q d (i+1) n ep->gz q s.heap h'->Q (aA e.key) {s with heap:=h'}):bd (bz prog w) A (pyNext (.ref q)) Q E s:=by
 obtain⟨o,ho,hc,hd⟩:=id t;have T:=t.typeIs;unfold pyNext;refine ab (wpAny_attempt (du (name:="__next__") T gk (de gk T PySem.F.entry_dict_keyiterator_next (ab (af (ab (ab ?_)))) (PySem.F.args_dict_keyiterator_next_1 _))))
 first| (refine ab (wpAny_typeNameOfWhole_keyiter T (af (ab (wpAny_fieldsOf ho hd ?_)))))| (refine ab (wpAny_typeNameOf_keyiter T (af (ab (wpAny_fieldsOf ho hd ?_)))))
 have z0:Builtin.Dict_items.ownsTuple "dict_keyiterator"=aD:=rfl;rw[z0];simp only[bm,if_false];show bd _ _ (ite ((bu d==ci)=aC) _ _) _ _ s;rw[if_neg (show¬(bu d==ci)=aC from λz=>bj z)];refine ab (af (ab (wpAny_dictEntries g c ?_)));rw[if_neg (by rw[hn];simp)];refine ab (af (ab (wpAny_dictEpoch g c ?_)));rw[if_neg (by simp)];have hi:i<es.size:=(gd.mp he).1;refine af ?_;simp only[show¬((i:Int)<0) by omega,if_false,gy,he];refine ab ?_
 first| (refine ab (wpAny_typeNameOfWhole_keyiter T (af (ab (wpAny_isOneOf_keyiter T ?_)))))| (refine ab (wpAny_typeNameOf_keyiter T (af (ab (wpAny_isOneOf_keyiter T ?_)))))
 show bd _ _ (setField (.ref q) 1 (rawInt ((i:Int)+1)) >>=_) _ _ s;refine ab (wpAny_setField ho hd (by simp) ?_);have t':(s.heap.update q (Obj.mapFields (·.setIfInBounds 1 (rawInt ((i:Int)+1))))).IsKeyIter q d (i+1) n ep:=⟨_,gv _ ho (Obj.isFreed_of_fields (Obj.data_mapFields hd _)),(Obj.cls_mapFields ..).trans hc,(Obj.data_mapFields hd _).trans (by simp[rawInt])⟩
 refine ab (wpAny_holding (ab (wpAny_isOneOf_keyiter (s:={s with heap:=s.heap.update q (Obj.mapFields (·.setIfInBounds 1 (rawInt ((i:Int)+1))))}) t'.typeIs (show bd _ _ (pure e.key) _ _ _ from af (af ⟨_,rfl,af (k _ t' (gr ..))⟩)))))
theorem Me{Q:Option aj->aq->Prop}(hh:A.handled=aB)(t:s.heap.IsKeyIter q d i n ep)(g:s.heap.get? d=aA od)(c:od.data= .dict es ep)(hn:es.size=n)(hi:n<=i)
  (k:∀h',Heap.ExtBut q s.heap h'->Q aB {s with heap:=h'}):bd (bz prog w) A (pyNext (.ref q)) Q E s:=by
 obtain⟨o,ho,hc,hd⟩:=id t;have T:=t.typeIs;unfold pyNext;refine ab (wpAny_attempt (du (name:="__next__") T gk (de gk T PySem.F.entry_dict_keyiterator_next (ab (af (ab (ab ?_)))) (PySem.F.args_dict_keyiterator_next_1 _))))
 first| (refine ab (wpAny_typeNameOfWhole_keyiter T (af (ab (wpAny_fieldsOf ho hd ?_)))))| (refine ab (wpAny_typeNameOf_keyiter T (af (ab (wpAny_fieldsOf ho hd ?_)))))
 have z0:Builtin.Dict_items.ownsTuple "dict_keyiterator"=aD:=rfl;rw[z0];simp only[bm,if_false];show bd _ _ (ite ((bu d==ci)=aC) _ _) _ _ s;rw[if_neg (show¬(bu d==ci)=aC from λz=>bj z)];refine ab (af (ab (wpAny_dictEntries g c ?_)));rw[if_neg (by rw[hn];simp)];refine ab (af (ab (wpAny_dictEpoch g c ?_)));rw[if_neg (by simp)];have he:es[i]? =aB:=Array.getElem?_eq_none (by omega);refine af ?_;simp only[show¬((i:Int)<0) by omega,if_false,gy,he];refine ab ?_
 first| (refine ab (wpAny_typeNameOfWhole_keyiter T (af ?_)))| (refine ab (wpAny_typeNameOf_keyiter T (af ?_)))
 show bd _ _ (setField (.ref q) 0 ci >>=_) _ _ s;refine ab (wpAny_setField ho hd (by simp) (show bd _ _ (newExc (.type "StopIteration") [] >>=_) _ _ _ from ab ?_));simp only[newExc,newTuple];refine ab (dn (ab (m:=firstArgMember _ _) (wpAny_of_eq (a:=ci) (by first|rfl| (simp only[firstArgMember];rfl)) (dn ?_ (by size_fits)))) (by size_fits));simp only[raiseNew];refine ab (wpAny_handled ?_);rw[show A.in1.handled=Option.none from hh];refine ab (af (wpAny_throw ?_));refine ab (ic (T:="StopIteration") (b:=aC) (by exact⟨_,a9 _ rfl,rfl⟩) isSubtype_stop ?_);exact af (k _ (((gr ..).extBut.push _).push _))
theorem Zap{P:bv}{w:c6}{k:Key}{u:aj}(h:(Zp P w).is k u=aC):Zz (kV k) u:=by
 rcases Z5 h with⟨i,t,rfl,rfl⟩|⟨x,t,rfl,rfl⟩
 ·exact⟨t,rfl⟩
 ·exact⟨t,rfl⟩
end
noncomputable def Itk(a:au)(n ep:Nat):It:=
 ⟨λi H=>∃kvs,H a=aA (.dK kvs ep)/\kvs.length=n/\i<n,λi H x H'=>H'=H/\∃kvs kv,H a=aA (.dK kvs ep)/\kvs[i]? =aA kv/\x=kV kv.1,λi H=>∃kvs,H a=aA (.dK kvs ep)/\kvs.length=n/\n<=i⟩
noncomputable def Itd(a:au)(n ep:Nat):It:=
 ⟨λi H=>∃kvs bs,H a=aA (.dT kvs ep bs)/\kvs.length=n/\i<n,λi H x H'=>H'=H/\∃kvs bs b,H a=aA (.dT kvs ep bs)/\bs[i]? =aA b/\x= .ref b,λi H=>∃kvs bs,H a=aA (.dT kvs ep bs)/\kvs.length=n/\n<=i⟩
theorem Mf{q d:au}{i n ep:Nat}{h h':f8}(t:h.IsKeyIter q d i n ep)(k:∀o,h.get? q=aA o->h'.get? q=aA o):h'.IsKeyIter q d i n ep:=let⟨o,e,r⟩:=t;⟨o,k o e,r⟩
theorem Zf6{P:bv}{w:c6}{es:List DictEntry}{vs:List (Key×aj)}(h:Pairs (Zp P w) es vs){i:Nat}{kv:Key×aj}(hi:vs[i]? =aA kv):∃e,es[i]? =aA e/\(Zp P w).is kv.1 e.key=aC:=by
 induction h generalizing i with
 |nil=>simp at hi
 | @cons e0 kv0 es0 kvs0 h1 h2 _ ih=>
  cases i with
  |zero=>simp at hi;subst hi;exact⟨e0,by simp,h1⟩
  |succ j=>obtain⟨e,a1,a2⟩:=ih (i:=j) (by simpa using hi);exact⟨e,by simpa using a1,a2⟩
theorem Ta{P:bv}{w:c6}{es:List DictEntry}{vs:List (Key×aj)}(h:Pairs (Zp P w) es vs):es.length=vs.length:=by
 induction h with
 |nil=>rfl
 |cons _ _ _ ih=>rw[bc,bc,ih]
theorem Uy{α β:Type}{R:α->β->Prop}{l:List α}{m:List β}(h:Paired R l m):∀{i:Nat} {x:α},l[i]? =aA x->∃y,m[i]? =aA y/\R x y:=by
 induction h with
 |nil=>intro i x hi;simp at hi
 | @cons a b as bs h1 t ih=>
  intro i x hi;cases i with
  |zero=>simp at hi;subst hi;exact⟨b,by simp,h1⟩
  |succ j=>obtain⟨y,a1,a2⟩:=ih (i:=j) (by simpa using hi);exact⟨y,by simpa using a1,a2⟩
theorem B1{P:bv}{w:c6}{K:ah}{tg:c5}(a it:au)(n ep:Nat):Turn P w K tg (Itk a n ep) [it] it (λi h=>h.IsKeyIter it a i n ep)where
 mem:=ad
 obj:=λi h st b hb=>by obtain rfl:=ao.mp hb;obtain⟨o,e,c,d⟩:=st;exact⟨o,e,λv z=>by rw[d]at z;cases z⟩
 keep:=λi h h' st k=>Mf st λo e=>k it ad o e
 item:=by
  intro X hP hw hK hc i pins s σ H E I hf st hg;subst hP hw hK;obtain⟨kvs,hq,hn,hi⟩:=hg;obtain⟨z,hd,vs,rel,od,es,g,x,c,ko,pr,nd⟩:=(show Yb X.prog X.w H s.heap a (.dK kvs ep)from I.hok a _ hq)
  obtain⟨f0,f1,f2,f3,f4,f5⟩:=hf it ad;have hkv:kvs[i]? =aA (kvs[i]'(by omega)):=aw (by omega);obtain⟨vv,hv,hr⟩:=Uy rel hkv;obtain⟨e,he,hke⟩:=Zf6 pr hv;have hz:es.size=n:=by rw[<-a6,Ta pr,<-gq rel,hn]
  refine Md st g c hz (e:=e) (by rw[<-cp];exact he) λh' st' sb=>?_;have I1:Inv X pins σ H {s with heap:=h'}:=I.turned (t':=s.toks) (λb o hb e=>(sb.2 b hb).trans e) f0 f1 f3 f4 f5;obtain⟨o,e1,c1,d1⟩:=id st';exact⟨e.key,rfl,Tu (s:={s with heap:=h'}) e1 c1 d1 (by decide) ⟨kV (kvs[i]'(by omega)).1,H,I1,Zap (by rw[hr.1];exact hke),⟨rfl,kvs,_,hq,hkv,rfl⟩,st',λb hb=>(hf b hb).1⟩⟩
 done:=by
  intro X hP hw hK hc i pins s σ H E I hf st hg;subst hP hw hK;obtain⟨kvs,hq,hn,hi⟩:=hg;obtain⟨z,hd,vs,rel,od,es,g,x,c,ko,pr,nd⟩:=(show Yb X.prog X.w H s.heap a (.dK kvs ep)from I.hok a _ hq)
  obtain⟨f0,f1,f2,f3,f4,f5⟩:=hf it ad;have hz:es.size=n:=by rw[<-a6,Ta pr,<-gq rel,hn]
  exact Me (I.ok.hd hc) st g c hz hi λh' eb=>⟨rfl,I.turned (t':=s.toks) (λb o hb e=>eb b o hb e) f0 f1 f3 f4 f5⟩
 self:=λ_ _ s _ _ st h=>by exact wpAny_pyIter_slot st.typeIs PySem.F.slot_dict_keyiterator_iter (de PySem.F.slot_dict_keyiterator_iter st.typeIs PySem.F.entry_dict_keyiterator_iter (by exact af ⟨_,rfl,"dict_keyiterator",_,st.typeIs,gk.lookup,h⟩) (PySem.F.args_dict_keyiterator_iter_1 _))
theorem Zj2{P:bv}{w:c6}{K:ah}{tg:c5}(a it:au)(n ep:Nat):Turn P w K tg (Itd a n ep) [it] it (λi h=>h.IsKeyIter it a i n ep)where
 mem:=ad
 obj:=(B1 (P:=P) (w:=w) (K:=K) (tg:=tg) a it n ep).obj
 keep:=(B1 (P:=P) (w:=w) (K:=K) (tg:=tg) a it n ep).keep
 item:=by
  intro X hP hw hK hc i pins s σ H E I hf st hg;subst hP hw hK;obtain⟨kvs,bs,hq,hn,hi⟩:=hg;obtain⟨z,hd,xs,rel,od,es,g,x,c,en,nd,hbs⟩:=(show Yb X.prog X.w H s.heap a (.dT kvs ep bs)from I.hok a _ hq)
  obtain⟨f0,f1,f2,f3,f4,f5⟩:=hf it ad;have hkv:kvs[i]? =aA (kvs[i]'(by omega)):=aw (by omega);obtain⟨vv,hv,hr⟩:=Uy rel hkv;have hz:es.size=n:=by rw[<-a6,en,ag,<-gq rel,hn]
  have he:es[i]? =aA (entryOfKey (tupleKind (Zp X.prog X.w)) vv):=by rw[<-cp,en,a8,hv];rfl
  refine Md st g c hz he λh' st' sb=>?_;have I1:Inv X pins σ H {s with heap:=h'}:=I.turned (t':=s.toks) (λb o hb e=>(sb.2 b hb).trans e) f0 f1 f3 f4 f5;obtain⟨o,e1,c1,d1⟩:=id st';exact⟨.ref vv.2.1,rfl,Tu (s:={s with heap:=h'}) e1 c1 d1 (by decide) ⟨.ref vv.2.1,H,I1,rfl,⟨rfl,kvs,bs,vv.2.1,hq,by rw[<-hbs,a8,hv];rfl,rfl⟩,st',λb hb=>(hf b hb).1⟩⟩
 done:=by
  intro X hP hw hK hc i pins s σ H E I hf st hg;subst hP hw hK;obtain⟨kvs,bs,hq,hn,hi⟩:=hg;obtain⟨z,hd,xs,rel,od,es,g,x,c,en,nd,hbs⟩:=(show Yb X.prog X.w H s.heap a (.dT kvs ep bs)from I.hok a _ hq)
  obtain⟨f0,f1,f2,f3,f4,f5⟩:=hf it ad;have hz:es.size=n:=by rw[<-a6,en,ag,<-gq rel,hn]
  exact Me (I.ok.hd hc) st g c hz hi λh' eb=>⟨rfl,I.turned (t':=s.toks) (λb o hb e=>eb b o hb e) f0 f1 f3 f4 f5⟩
 self:=(B1 (P:=P) (w:=w) (K:=K) (tg:=tg) a it n ep).self
section
variable{X:Cx}{tg:c5}
noncomputable def Zry(tl:TE):TI:=λσ H R=>tl σ H λx H1=>(∃a kvs ep,x= .ref a/\H1 a=aA (.dK kvs ep)/\R (Itk a kvs.length ep) H1)\/(∃a kvs ep bs,x= .ref a/\H1 a=aA (.dT kvs ep bs)/\R (Itd a kvs.length ep) H1)
theorem Zn8{l:c5}{tl:TE}(hl:PE X l tl):PI X tg l (Zry tl):=by
 intro pins s σ H R I h;refine Wv (hl pins s σ H _ I h) λv s1 zq9=>?_;obtain⟨x,H1,I1,r1,q1⟩:=zq9;rcases q1 with⟨a,kvs,ep,rfl,hq,q⟩|⟨a,kvs,ep,bs,rfl,hq,q⟩
 ·cases r1;obtain⟨z,hd,vs,rel,od,es,g,x,c,ko,pr,nd⟩:=(show Yb X.prog X.w H1 s1.heap a (.dK kvs ep)from I1.hok a _ hq)
  have hz:es.size=kvs.length:=by rw[<-a6,Ta pr,<-gq rel]
  refine Mc hd g x c ⟨s1.heap.objs.size,[s1.heap.objs.size],_,_,H1,rfl,I1.kept (t':=s1.toks) λb o e=>ar _ e,B1 a _ kvs.length ep,⟨_,a9 _ rfl,rfl,by rw[hz];rfl⟩,λb hb=>?_,q⟩;obtain rfl:=ao.mp hb;exact I1.fpOk (az _) (I1.hok.fresh (az _))
 ·cases r1;obtain⟨z,hd,xs,rel,od,es,g,x,c,en,nd,hbs⟩:=(show Yb X.prog X.w H1 s1.heap a (.dT kvs ep bs)from I1.hok a _ hq)
  have hz:es.size=kvs.length:=by rw[<-a6,en,ag,<-gq rel]
  refine Mc hd g x c ⟨s1.heap.objs.size,[s1.heap.objs.size],_,_,H1,rfl,I1.kept (t':=s1.toks) λb o e=>ar _ e,Zj2 a _ kvs.length ep,⟨_,a9 _ rfl,rfl,by rw[hz];rfl⟩,λb hb=>?_,q⟩;obtain rfl:=ao.mp hb;exact I1.fpOk (az _) (I1.hok.fresh (az _))
end
end L2
namespace DL
open PySem PySem.Spec PyProof.Rows L2
variable{K:ah}
@[simp]noncomputable def Tc:Key->D
 | .inl i=>.int i
 | .inr x=>.str x
theorem Vj{F:Hp}(k:Key):Rep K F (Tc k) (kV k):=by
 cases k with
 |inl i=>exact .int i
 |inr x=>exact .str x
theorem Gr{F:Hp}:∀k:List Key,Reps K F (k.map Tc) (k.map kV)
 | []=>.nil
 |k::r=>.cons (Vj k) (Gr r)
theorem Zcr{F:Hp}{a:au}{kvs:List (Key×V)}{ep:Nat}(h:F a=aA (.dK kvs ep)):U2 K (Itk a kvs.length ep) F ((kvs.map (·.1)).map Tc):=λF' H sF sH i=>by have q:H a=aA (.dK kvs ep):=sH _ _ (sF _ _ h);refine⟨λd hd=>?_,λhl=>⟨kvs,q,rfl,by simpa using hl⟩⟩;rw[bi,a8]at hd;obtain⟨kv,h1,h2⟩:=cq.mp hd;refine⟨⟨kvs,q,rfl,(ax.mp h1).1⟩,λx H' ⟨e1,kvs',kv',e2,e3,e4⟩=>?_⟩;subst e1;rw[q]at e2;cases e2;rw[h1]at e3;cases e3;subst e4;rw[<-h2];exact⟨Zl.refl _,[],cm,λ_ h=>(nomatch h),Vj _⟩
theorem Zcs{F:Hp}{a:au}{kvs:List (List Key×V)}{ep:Nat}{bs:List au}(h:F a=aA (.dT kvs ep bs))(kb:KB F kvs bs):U2 K (Itd a kvs.length ep) F ((kvs.map (·.1)).map λk=>D.tup (k.map Tc)):=λF' H sF sH i=>by have q:H a=aA (.dT kvs ep bs):=sH _ _ (sF _ _ h);refine⟨λd hd=>?_,λhl=>⟨kvs,bs,q,rfl,by simpa using hl⟩⟩;rw[bi,a8]at hd;obtain⟨kv,h1,h2⟩:=cq.mp hd;refine⟨⟨kvs,bs,q,rfl,(ax.mp h1).1⟩,λx H' ⟨e1,kvs',bs',b,e2,e3,e4⟩=>?_⟩;subst e1;rw[q]at e2;cases e2;subst e4;obtain⟨b',g1,g2⟩:=Uy (kb.mono sF) h1;rw[e3]at g1;cases g1;rw[<-h2];exact⟨Zl.refl _,[],cm,λ_ h=>(nomatch h),.tup g2 (Gr _)⟩
section
variable{Z:Ent K}{H:Hp}{σ:L2.St}
@[simp]noncomputable def Zf7(fe:FE):FD:=λδ=>(fe δ).bind λp=>(frz p.1 p.2).bind λq=>match q.1 with
 | .dK ks _=>aA (ks.map Tc,q.2)
 | .dT ks _=>aA (ks.map λk=>D.tup (k.map Tc),q.2)
 |_=>aB
theorem Zn9{fe:FE}{R:It->Hp->Prop}(h:Qj Z (Zf7 fe) σ H R):Zry (Ze Z fe) σ H R:=by
 obtain⟨F,δ,own,ds,δ',s,e,k⟩:=h;obtain⟨⟨rv,δ1⟩,e1,e2⟩:=aa.mp e;obtain⟨⟨d,δ2⟩,e3,e4⟩:=aa.mp e2;refine⟨F,δ,own,rv,δ1,s,e1,λv H1 F1 own1 sH sF s1 r1=>?_⟩;obtain⟨F2,sF2,s2,r2⟩:=s1.settleR r1;obtain⟨F3,own3,sF3,s3,r3⟩:=s2.frzR r2 e3;dsimp only at e4;split at e4
 ·cases e4;cases r3 with
  |dK h e r=>subst e;exact .inl ⟨_,_,_,rfl,s3.le _ _ h,k _ H1 F3 own3 sH (sF.trans (sF2.trans sF3)) s3 (Zcr h)⟩
 ·cases e4;cases r3 with
  |dT h kb e r=>subst e;exact .inr ⟨_,_,_,_,rfl,s3.le _ _ h,k _ H1 F3 own3 sH (sF.trans (sF2.trans sF3)) s3 (Zcs h kb)⟩
 ·cases e4
end
theorem Zf8{X:Cx}{tg:c5}{Z:Ent X.K}{a:c5}{fa:FE}(ha:PE X a (Ze Z fa)):PI X tg a (Qj Z (Zf7 fa)):=λpins s σ H R I h=>Zn8 ha pins s σ H R I (Zn9 h)
end DL
namespace DL
open PySem PySem.Spec PyProof.Rows L2
variable{K:ah}
end DL
namespace L2
open PySem PySem.Spec PyProof.Rows
end L2
namespace DL
open PySem PySem.Spec PyProof.Rows L2
variable{K:ah}
end DL
namespace DL
open PySem PySem.Spec PyProof.Rows L2
end DL
namespace DL
open PySem PySem.Spec PyProof.Rows L2
variable{K:ah}
end DL
namespace DL
open PySem PySem.Spec PyProof.Rows L2
section
variable{X:Cx}{Z:Ent X.K}{a b c:c5}{fa fb fc:FE}{pos:Pos}
theorem Zl0(i:Nat){x:Str}{pos:Pos}(hN:X.N[i]? =aA x:=by rfl)(hv:D2 X.env.scope x:=by first|exact Or.inl rfl|exact Or.inr (Or.inl rfl)|exact Or.inr (Or.inr rfl))(hd:(x==("__debug__":Str))=aD:=by decide)
  (hcd:(x==("__classdict__":Str))=aD:=by decide):PE X (.Name x pos) (Mx i):=O6 hN hv hd hcd
end
end DL
namespace DL
open PySem PySem.Spec PyProof.Rows L2
variable{K:ah}
end DL
namespace DL
open PySem PySem.Spec PyProof.Rows L2
variable{K:ah}
theorem Vk:∀{xs ys:List Str},xs.map V.str=ys.map V.str->xs=ys
 | [],[],_=>rfl
 | [],_::_,h=>by simp at h
 |_::_,[],h=>by simp at h
 |x::xs,y::ys,h=>by simp only[a7,List.cons.injEq]at h;obtain⟨h1,h2⟩:=h;cases h1;rw[Vk h2]
end DL
namespace DL
open PySem PySem.Spec PyProof.Rows L2
variable{K:ah}
end DL
namespace L2
open PySem PySem.Spec PyProof.Rows
end L2
namespace DL
open PySem PySem.Spec PyProof.Rows L2
variable{K:ah}
end DL
namespace DL
open PySem PySem.Spec PyProof.Rows L2
variable{K:ah}
end DL
namespace DL
open PySem PySem.Spec PyProof.Rows L2
end DL
namespace L2
open PySem PySem.Spec PyProof.Rows
end L2
namespace DL
open PySem PySem.Spec PyProof.Rows L2
variable{K:ah}
end DL
namespace L2
open PySem PySem.Spec PyProof.Rows
section
variable{X:Cx}
theorem Vl:∀{xs:List V} {its:List aj},xs.length=its.length->(∀(j:Nat) (x:V) (v:aj),xs[j]? =aA x->its[j]? =aA v->Zz x v)->Z3 xs its
 | [],[],_,_=>.nil
 |x::xs,v::its,h,g=>.cons (g 0 x v rfl rfl) (Vl (by simpa using h) λj x v a b=>g (j+1) x v (by simpa using a) (by simpa using b))
 | [],_::_,h,_=>nomatch h
 |_::_,[],h,_=>nomatch h
noncomputable def Zf9:List V->Hp->VK->Prop:=λxs H Q=>∃p kvs,xs=[.ref p]/\RdK H p kvs/\∀l,H l=aB->Q (.ref l) (Y0 H l (.lst (kvs.map λkv=>kV kv.1)))
theorem Ey(hc:X.calm=aC):Q4 X (.type "list") Zf9:=by
 intro pins s σ H xs us Q I r h;obtain⟨p,kvs,rfl,⟨ep,e⟩,q⟩:=h;obtain⟨u,rfl,rx⟩:=Ui r;cases rx;obtain⟨z,hd,vs,rel,dd⟩:=(show Yb X.prog X.w H s.heap p (.dK kvs ep)from Zek I.hok e)
 have hl:vs.length=kvs.length:=(gq rel).symm;refine PySem.W.kdl_call (PySem.W.kdl_dict (knd:=Zp X.prog X.w) (kvs:=vs) (ep:=ep) hd) (I.ok.hd hc) dd (by rw[hl];exact z) λh' tk acc' c' hk hD hacc=>?_;have hv:Z3 (kvs.map λkv=>kV kv.1) acc'.toList:=by refine Vl ((ag _).trans (hl.symm.trans (hacc.1.symm.trans (a6).symm))) λj x v hx hv=>?_;obtain⟨k,y,e1,e2⟩:=hacc.2 j v (by rw[<-cp];exact hv);rw[a8]at hx;obtain⟨kv,e3,e4⟩:=cq.mp hx;obtain⟨q',e5,e6,_⟩:=Uy rel e3;rw[e5]at e1;cases e1;rw[<-e4,e6];exact Zap e2
 exact⟨.ref s.heap.objs.size,_,I.laid (t':=tk) hk (az _) (show Yb X.prog X.w _ h' _ (.lst (kvs.map λkv=>kV kv.1))from⟨by rw[ag];exact z,acc'.toList,c',hv,by simpa using hD⟩),rfl,q _ (I.hok.fresh (az _))⟩
end
end L2
namespace DL
open PySem PySem.Spec PyProof.Rows L2
variable{K:ah}
noncomputable def Vm:List D->Option SV
 | [.dK ks _]=>aA (.ol (ks.map Tc))
 |_=>aB
@[simp]theorem Zrz(ks:List Key)(vs:List D):Vm [.dK ks vs]=some (.ol (ks.map Tc)):=rfl
section
variable{Z:Ent K}{H:Hp}{σ:L2.St}{Q:VK}{E:Ends}
theorem Zoa:Ot Z Zf9 Vm:=by
 intro F H σ δ own vs ds sv Q s r e k;unfold Vm at e;split at e
 ·cases e;cases r with
  |cons h t=>
   cases t;obtain⟨a,kvs,rfl,ha,ek,rr⟩:=h.dK s.le;refine⟨a,kvs,rfl,ha.rd,λl hl=>?_⟩;rw[<-ek]at k;have hr:=Gr (K:=K) (F:=F) (kvs.map (·.1));have hr:Reps K F ((kvs.map (·.1)).map Tc) (kvs.map λkv=>kV kv.1):=by rw[bi (g:=kV)]at hr;exact hr
   exact k.one s (.ol hr) hl
 ·cases e
end
section
variable{X:Cx}{Z:Ent X.K}{a b c:c5}{fa fb fc:FE}{pos:Pos}
theorem Zob{p:Pos}(hc:X.calm=aC)(hm:X.mg "list"=aB)(ha:PE X a (Ze Z fa))(hg:Gl X "list":=by rfl)(he:ba [a] X.env=(aD,gw a X.env)::ba [] X.env:=by rfl)(hpl:(gp pos (ba [] X.env)).any (·.1)=aD:=by rfl):PE X (.Call (.Name "list" p) [a] [] pos) (Ze Z (Yd Vm (Zc fa Zi))):=
 R5 (Ey hc) Zoa hm boot_list (Zm ha Yn he) hg (by decide) (by decide) he hpl
end
end DL
namespace DL
open PySem PySem.Spec PyProof.Rows L2
end DL
namespace DL
open PySem PySem.Spec PyProof.Rows L2
end DL
namespace L2
open PySem PySem.Spec PyProof.Rows
end L2
namespace L2
open PySem PySem.Spec PyProof.Rows
end L2
namespace DL
open PySem PySem.Spec PyProof.Rows L2
variable{K:ah}
end DL
namespace L2
open PySem PySem.Spec PyProof.Rows
end L2
namespace DL
open PySem PySem.Spec PyProof.Rows L2
variable{K:ah}
end DL
namespace L2
open PySem PySem.Spec PyProof.Rows
end L2
namespace DL
open PySem PySem.Spec PyProof.Rows L2
variable{K:ah}
end DL
namespace DL
open PySem PySem.Spec PyProof.Rows L2
variable{K:ah}
end DL
namespace DL
open PySem PySem.Spec PyProof.Rows L2
variable{K:ah}
end DL
namespace DL
open PySem PySem.Spec PyProof.Rows L2
variable{K:ah}
end DL
namespace SX
open PySem
noncomputable def Rh(l:List Nat):Prop:=l.Pairwise (· < ·)
noncomputable def At(xs:Array Nat)(j p:Nat):Prop:=p<=xs.size/\(∀i y,i<p->xs[i]? =aA y->y<j)/\∀i y,p<=i->xs[i]? =aA y->j<=y
theorem B2{xs:Array Nat}(h:Rh xs.toList){i k y z:Nat}(hi:xs[i]? =aA y)(hk:xs[k]? =aA z)(hik:i<k):y<z:=by rw[<-cp]at hi hk;obtain⟨a,ha⟩:=ax.mp hi;obtain⟨b,hb⟩:=ax.mp hk;have:=List.pairwise_iff_getElem.mp h i k a b hik;rw[ha,hb]at this;exact this
theorem Zga{xs:Array Nat}{j:Nat}(h:Rh xs.toList):∀(fuel lo hi:Nat),hi<=lo+fuel->lo<=hi->hi<=xs.size->(∀i y,i<lo->xs[i]? =aA y->y<j)->(∀i y,hi<=i->xs[i]? =aA y->j<=y)->At xs j (SetTable.below.go xs j fuel lo hi)
 |0,lo,hi,h1,h2,h3,a,b=>by
  have:lo=hi:=by omega
  subst this;unfold SetTable.below.go;exact⟨h3,a,b⟩
 |fuel+1,lo,hi,h1,h2,h3,a,b=>by
  unfold SetTable.below.go;by_cases hl:lo<hi
  ·rw[if_pos hl];dsimp only;have hm:(lo+hi) / 2<xs.size:=by omega
   have hg:xs.getD ((lo+hi) / 2) j=xs[(lo+hi) / 2]:=by simp[Array.getD,hm]
   have he:xs[(lo+hi) / 2]? =aA xs[(lo+hi) / 2]:=by simp[hm]
   by_cases hc:xs.getD ((lo+hi) / 2) j<j
   ·rw[if_pos hc];refine Zga h fuel _ hi (by omega) (by omega) h3 (λi y hi' e=>?_) b;by_cases hq:i=(lo+hi) / 2
    ·subst hq;rw[he]at e;cases e;rw[<-hg];exact hc
    ·have:=B2 h e he (by omega);rw[hg]at hc;omega
   ·rw[if_neg hc];refine Zga h fuel lo _ (by omega) (by omega) (by omega) a (λi y hi' e=>?_);by_cases hq:i=(lo+hi) / 2
    ·subst hq;rw[he]at e;cases e;rw[<-hg];omega
    ·have:=B2 h he e (by omega);rw[hg]at hc;omega
  ·rw[if_neg hl];have:lo=hi:=by omega
   subst this;exact⟨h3,a,b⟩
theorem Ez{xs:Array Nat}(h:Rh xs.toList)(j:Nat):At xs j (SetTable.below xs j):=
 Zga h xs.size 0 xs.size (by omega) (fu _) (az _) (λi _ z=>absurd z (by omega)) λi y z e=>by have:=(gd.mp e).1;omega
theorem Zaq{xs:Array Nat}{j p q:Nat}(a:At xs j p)(b:At xs j q):p=q:=by
 rcases Nat.lt_trichotomy p q with h|h|h
 ·have hp:p<xs.size:=by have:=b.1;omega
  have e:xs[p]? =aA xs[p]:=by simp[hp]
  have:=a.2.2 p _ (az _) e;have:=b.2.1 p _ h e;omega
 ·exact h
 ·have hq:q<xs.size:=by have:=a.1;omega
  have e:xs[q]? =aA xs[q]:=by simp[hq]
  have:=b.2.2 q _ (az _) e;have:=a.2.1 q _ h e;omega
theorem Zgb{xs:Array Nat}{j:Nat}(h:Rh xs.toList)(hn:xs[SetTable.below xs j]?≠aA j):Rh (SetTable.insertAt xs (SetTable.below xs j) j).toList:=by
 have a:=Ez h j;generalize SetTable.below xs j=p at*;rw[SetTable.toList_insertAt];obtain⟨a1,a2,a3⟩:=a;have lo:∀y∈xs.toList.take p,y<j:=λy hy=>by
  obtain⟨i,hi,e⟩:=fq hy;rw[List.getElem_take]at e;have hi':i<p:=by simp at hi;omega
  refine a2 i y hi' ?_;rw[<-cp,ax];exact⟨_,e⟩
 have hi:∀y∈xs.toList.drop p,j<y:=λy hy=>by
  obtain⟨i,hi,e⟩:=fq hy;rw[List.getElem_drop]at e;have ep:xs[p+i]? =aA y:=by rw[<-cp,ax];exact⟨_,e⟩
  have h1:=a3 (p+i) y (by omega) ep;rcases Nat.lt_or_eq_of_le h1 with z|z
  ·exact z
  ·subst z;cases i with
   |zero=>exact absurd ep hn
   |succ i=>
    have hp:p<xs.size:=by have:=(gd.mp ep).1;omega
    have e0:xs[p]? =aA xs[p]:=by simp[hp]
    have q1:=a3 p _ (az _) e0;have q2:=B2 h e0 ep (by omega);omega
 refine List.pairwise_append.mpr ⟨h.sublist (List.take_sublist _ _),List.pairwise_cons.mpr ⟨hi,h.sublist (List.drop_sublist _ _)⟩,λa ha b hb=>?_⟩;rcases bo.mp hb with z|z
 ·rw[z];exact lo a ha
 ·exact Nat.lt_trans (lo a ha) (hi b z)
structure Tab(B:Bool)(t:gx):Prop where
 led:t.led= !B
 dum:t.dummies= #[]
 rise:t.plain=aC->Rh t.place.toList
theorem Zar(j:Nat):SetTable.has #[] j=aD:=by unfold SetTable.has;simp
end SX
namespace SX
open PySem PyProof.Rows
variable{prog:bv}{w:c6}{A:di}{E:aj->aq->Prop}{s:aq}
noncomputable abbrev Zup(l:List (Int×aj)):List Int:=l.map λe=>numOf e.2
noncomputable def Own(prog:bv)(w:c6)(B:Bool)(o:Obj)(ks:List Int):Prop:=∃es ep t,o.ExactSet/\o.data= .set es ep t/\ElemsOf (intKind prog w) es.toList/\(Zup es.toList).Perm ks/\t.fits es.size=aC/\Tab B t/\es.size<scanBound
end SX
namespace SX
open PySem PySem.Spec PyProof.Rows
noncomputable def dd(val:Nat->Int):Nat->List Int
 |0=>[]
 |i+1=>if val i∈dd val i then dd val i else dd val i++[val i]
noncomputable abbrev By(w:c6):Bool:=w.params.followText "set-order"
noncomputable abbrev Td(w:c6):Obj:={cls:=.type "set",dict:=aB,data:=.set #[] 0 (.fresh 0 0 (!By w))}
section
variable{prog:bv}{w:c6}{A:di}{E:aj->aq->Prop}{s:aq}
theorem Zj3(a:aj){Q:aj->aq->Prop}(h:Q (.ref s.heap.objs.size) {s with heap:=s.heap.push (Td w)}):
  codeAny (bz prog w) A (.call (.builtin "set.__new__") ⟨[.type "set",a],[]⟩) (wants Q E) s:=by
 refine codeAny_of_tree ?_;show bd _ A.in1 (checkBuiltinCall "set.__new__" ⟨[.type "set",a],[]⟩>>=λ_=>again (.builtin "set.__new__" ⟨[.type "set",a],[]⟩)) _ _ s;refine ab (wpAny_of_eq (PySem.F.newCall_set_1 a) (af ⟨plainId_quiet PySem.F.plain_set_new _,gn PySem.F.entry_set_new ?_⟩));rw[f9 PySem.F.plain_set_new _];have hs:=sub_set_self;obtain⟨hp,g,d,tk,os⟩:=s;unfold Builtin.«set.__new__» Builtin.Frozenset.newClass;dsimp only;wp_walk;refine wpAny_askSetting (af ?_);dsimp only;simp only[newObj];exact ab (wpAny_alloc (af (af h)))
end
end SX
namespace SX
open PySem PySem.Spec PyProof.Rows
theorem Ys:Slot "set_iterator" "__next__" "set_iterator.__next__":=
 .of (owner:="set_iterator") (n:="__next__") (by rw[typeLookup_type,builtinLookup_eq_fast];kernel_rfl) (by decide+kernel) (by decide+kernel) (by decide+kernel) (by first|exact .inl (by decide+kernel)|exact .inr (by decide+kernel)) (by rw[isSubtype_type];kernel_rfl)
theorem Qs:entryFor table "set_iterator.__next__"=aA Builtin.«set_iterator.__next__»:=entryFor_of_tree (by kernel_rfl)
theorem Jj(a:aj):argsOk "set_iterator.__next__" ⟨[a],[]⟩:=by unfold argsOk;kernel_rfl
theorem Ri:entryFor table "set.__iter__"=aA Builtin.«frozenset.__iter__»:=entryFor_alias (id':="frozenset.__iter__") (by kernel_rfl) rfl (by decide+kernel) (by kernel_rfl)
section
variable{prog:bv}{w:c6}{A:di}{E:aj->aq->Prop}{s:aq}
theorem Zgc{src:Source}{n:Nat}{Q:Nat->aq->Prop}(hn:n≠0)(h:∀i d,i<n->Q i {s with drawn:=d}):bd (bz prog w) A (choose src n) Q E s:=
 λ_ _ _=>⟨hn,h _ _ (Nat.mod_lt _ (Nat.pos_of_ne_zero hn))⟩
theorem Te{α:Type}:∀(l:List α) (i:Nat) (h:i<l.length),(l[i]::l.eraseIdx i).Perm l
 |x::l,0,_=>List.Perm.refl _
 |x::l,i+1,h=>(List.Perm.swap x _ _).trans ((Te l i (by simpa using h)).cons x)
theorem Zgd{α:Type}:∀(n:Nat) (xs:List α) (s:aq) {Q:List α->aq->Prop},n=xs.length->(∀ys d,ys.Perm xs->Q ys {s with drawn:=d})->bd (bz prog w) A (drawOrder n xs) Q E s
 |0,[],s,Q,_,h=>by unfold drawOrder;exact af (h [] s.drawn (List.Perm.refl _))
 |n+1,x::xs,s,Q,hn,h=>by
  unfold drawOrder;refine ab (Zgc (by simp) λi d hi=>?_);have e:(x::xs)[i]? =aA (x::xs)[i]:=aw hi;rw[e];dsimp only;have hl:n=((x::xs).eraseIdx i).length:=by rw[List.length_eraseIdx_of_lt hi];simpa using hn
  refine ab (Zgd n ((x::xs).eraseIdx i) _ hl λys d' hp=>af (h _ d' ?_));exact(hp.cons _).trans (Te _ i hi)
 |0,_::_,_,_,hn,_=>by simp at hn
 |_+1,[],_,_,hn,_=>by simp at hn
end
noncomputable abbrev Xl(first:aj)(i:Nat)(r:au)(n ep:Nat):Obj:={cls:=.type "set_iterator",dict:=aB,data:=.fields #[first,.int (i:Int) 0,.ref r,.int (n:Int) 0,.int (ep:Int) 0],slots:= #[]}
noncomputable abbrev Tf(ps:List Nat):Obj:={cls:=.type "tuple",data:=.seq (ps.map λi:Nat=>rawInt i).toArray}
section
variable{prog:bv}{w:c6}{A:di}{E:aj->aq->Prop}{s:aq}{r:au}{o:Obj}{es:Array (Int×aj)}{ep:Nat}{t:gx}
theorem Zj4{Q:aj->aq->Prop}(ho:s.heap.get? r=aA o)(hx:o.ExactSet)(hd:o.data= .set es ep t)(hf:t.fits es.size=aC)(hb:es.size<scanBound)
  (hN:(!By w&&(!t.plain&&decide (es.size > 1)))=aD->Q (.ref s.heap.objs.size) {s with heap:=s.heap.push (Xl (.int 0 0) 0 r es.size ep)})
  (hD:(!By w&&(!t.plain&&decide (es.size > 1)))=aC->∀ps d,ps.Perm (cz es.size)->Q (.ref (s.heap.objs.size+1)) {s with heap:=(s.heap.push (Tf ps)).push (Xl (.ref s.heap.objs.size) 0 r es.size ep),drawn:=d}):
  bd (bz prog w) A (pyIter (.ref r)) Q E s:=by
 have hT:s.TypeIs (.ref r) "set":=⟨o,ho,hx.1⟩
 refine wpAny_pyIter_slot hT PySem.F.slot_set_iter (de PySem.F.slot_set_iter hT Ri ?_ (PySem.F.args_set_iter_1 _));unfold Builtin.«frozenset.__iter__»;refine ab (m:=Builtin.Frozenset.slot0 "__iter__" ⟨[.ref r],[]⟩) (Q:=_) (af ?_);refine ab (m:=Builtin.Frozenset.sizeOf r) ?_;unfold Builtin.Frozenset.sizeOf;refine ab (wpAny_setEntries_of ho hd hf (af ?_));refine ab ?_;unfold setDrawn;refine ab (wpAny_setState_of ho hd hf ?_);unfold setsByText;refine ab (ab (wpAny_askSetting (af ?_)));refine af ?_;show bd _ _ (if(!By w&&(!t.plain&&decide (es.size > 1)))=aC then _ else _) _ _ _;cases hc:(!By w&&(!t.plain&&decide (es.size > 1)))with
 |false=>rw[if_neg (by simp)];refine ab (af ?_);refine ab (wpAny_setEpoch_of ho hd hf ?_);refine ab (m:=newFields _ _) (dn (af ⟨_,rfl,"set_iterator",_,⟨_,a9 _ rfl,rfl⟩,Ys.lookup,hN hc⟩))
 |true=>rw[if_pos rfl];have hl:(cz es.size).length=es.size:=List.length_range;refine ab ?_;refine Zgd _ (cz es.size) _ hl.symm λps d hp=>?_;have pl:ps.length=es.size:=hp.length_eq.trans hl;refine ab (wpAny_newTuple ?_ (by rw[ag,pl];exact fits_of_scanBound hb));have ho2:(s.heap.push (Tf ps)).get? r=aA o:=ar _ ho;refine ab (wpAny_setEpoch_of (s:={s with heap:=s.heap.push (Tf ps),drawn:=d}) ho2 hd hf ?_);have sz:(s.heap.push (Tf ps)).objs.size=s.heap.objs.size+1:=Heap.size_push _ _;refine ab (m:=newFields _ _) (dn (af ⟨_,rfl,"set_iterator",_,⟨_,a9 _ rfl,rfl⟩,Ys.lookup,?_⟩));have z:=hD hc ps d hp;rw[<-sz]at z;exact z
end
end SX
namespace SX
open PySem PySem.Spec PyProof.Rows
section
variable{prog:bv}{w:c6}{A:di}{E:aj->aq->Prop}{s:aq}{I r:au}{o:Obj}{es:Array (Int×aj)}{ep:Nat}{t:gx}{slot i nx:Nat}{x:aj}{Q:Option aj->aq->Prop}
noncomputable abbrev Ph(prog:bv)(w:c6)(A:di)(s:aq)(r:au)(slot i ep:Nat)(y:Option (aj×Nat)):Prop:=∀(R:Option (aj×Nat)->aq->Prop) (E':aj->aq->Prop),R y s->bd (bz prog w) A (setNext r slot i ep) R E' s
theorem Zl1(hI:s.heap.get? I=aA (Xl (.int (slot:Int) 0) i r es.size ep))(ho:s.heap.get? r=aA o)(hd:o.data= .set es ep t)(hf:t.fits es.size=aC)(hn:Ph prog w A.in1 s r slot i ep (aA (x,nx)))
  (hQ:∀h',h'.get? I=aA (Xl (.int (nx:Int) 0) (i+1) r es.size ep)->gz I s.heap h'->Q (aA x) {s with heap:=h'}):bd (bz prog w) A (pyNext (.ref I)) Q E s:=by
 have hT:s.TypeIs (.ref I) "set_iterator":=⟨_,hI,rfl⟩
 unfold pyNext;refine ab (wpAny_attempt (du (name:=gh "__next__") hT Ys (de Ys hT Qs ?_ (Jj _))));unfold Builtin.«set_iterator.__next__»;refine ab (m:=slotArgs "__next__" 0 ⟨[.ref I],[]⟩) (af ?_);refine ab (wpAny_fieldsOf hI rfl ?_);dsimp only;refine ab (wpAny_setEntries_of ho hd hf ?_);rw[if_neg (by simp)];simp only[gy];refine ab (hn _ _ ?_);dsimp only;refine ab (wpAny_setField_rec hI (by simp) λh1 g1 b1=>?_);refine ab (wpAny_setField_rec (s:={s with heap:=h1}) g1 (by simp) λh2 g2 b2=>?_);refine af ⟨_,rfl,af (hQ h2 ?_ (b1.trans b2))⟩;rw[g2];rfl
theorem Zl2(hh:A.handled=aB)(hI:s.heap.get? I=aA (Xl (.int (slot:Int) 0) i r es.size ep))(ho:s.heap.get? r=aA o)(hd:o.data= .set es ep t)(hf:t.fits es.size=aC)(hn:Ph prog w A.in1 s r slot i ep aB)
  (hQ:∀h',Heap.ExtBut I s.heap h'->Q aB {s with heap:=h'}):bd (bz prog w) A (pyNext (.ref I)) Q E s:=by
 have hT:s.TypeIs (.ref I) "set_iterator":=⟨_,hI,rfl⟩
 unfold pyNext;refine ab (wpAny_attempt (du (name:=gh "__next__") hT Ys (de Ys hT Qs ?_ (Jj _))));unfold Builtin.«set_iterator.__next__»;refine ab (m:=slotArgs "__next__" 0 ⟨[.ref I],[]⟩) (af ?_);refine ab (wpAny_fieldsOf hI rfl ?_);dsimp only;refine ab (wpAny_setEntries_of ho hd hf ?_);rw[if_neg (by simp)];simp only[gy];refine ab (hn _ _ ?_);dsimp only;refine ab (wpAny_setField_rec hI (by simp) λh1 g1 b1=>?_);refine ab (m:=newExc (.type "StopIteration") []) ?_;simp only[newExc,newTuple];refine ab (dn ?_ (by size_fits));refine ab (m:=firstArgMember _ _) (wpAny_of_eq (a:=ci) (by first|rfl| (simp only[firstArgMember];rfl)) ?_);refine dn ?_ (by size_fits);simp only[raiseNew];refine ab (wpAny_handled ?_);rw[show A.in1.handled=aB from hh];refine ab (af (wpAny_throw ?_));refine ab (ic (T:="StopIteration") (b:=aC) ⟨_,a9 _ rfl,rfl⟩ isSubtype_stop ?_);exact af (hQ _ ((b1.extBut.push _).push _))
theorem Lb(hB:By w=aD)(ho:s.heap.get? r=aA o)(hd:o.data= .set es ep t)(hf:t.fits es.size=aC)(hl:t.led=aC)(hr:(!t.plain&&decide (es.size > 1))=aD):
  Ph prog w A s r slot i ep (match es[SetTable.below t.place slot]?,t.place[SetTable.below t.place slot]? with
   |some (_,x),aA j=>aA (x,j+1)
   |_,_=>aB):=by
 intro R E' h;unfold setNext;refine ab (wpAny_setState_of ho hd hf ?_);dsimp only;unfold setsByText;refine ab (ab (wpAny_askSetting (af ?_)));have e1:(bz prog w).w.params.followText "set-order"=aD:=hB;dsimp only;rw[if_neg (by rw[e1];simp)];show bd _ _ (if(!t.plain&&decide (es.size > 1))=aC then _ else _) _ _ _;rw[if_neg (by rw[hr];simp)];refine ab ?_;show bd _ _ (if(!t.led&& !es.isEmpty)=aC then _ else _) _ _ _;rw[if_neg (by rw[hl];simp)];exact af (af h)
theorem Vn(hB:By w=aC)(ho:s.heap.get? r=aA o)(hd:o.data= .set es ep t)(hf:t.fits es.size=aC):
  Ph prog w A s r slot i ep (((pickOrder (w.params.setOrder r ep) es)[i]?).map λe=>(e.2,slot)):=by
 intro R E' h;unfold setNext;refine ab (wpAny_setState_of ho hd hf ?_);dsimp only;unfold setsByText;refine ab (ab (wpAny_askSetting (af ?_)));have e1:(bz prog w).w.params.followText "set-order"=aC:=hB;dsimp only;rw[if_pos (by rw[e1])];rw[if_neg (by simp)];refine ab ?_;unfold setWalk;refine ab (wpAny_setState_of ho hd hf ?_);dsimp only;unfold setsByText;refine ab (ab (wpAny_askSetting (af ?_)));dsimp only;rw[if_pos (by rw[e1])];refine ab (wpAny_askSetting (af ?_));exact af h
variable{T:au}{ps:List Nat}
theorem Zr1{p:Nat}{hx:Int}(hI:s.heap.get? I=aA (Xl (.ref T) i r es.size ep))(hT0:s.heap.get? T=aA (Tf ps))(hp:ps[i]? =aA p)(he:es[p]? =aA (hx,x))(ho:s.heap.get? r=aA o)(hd:o.data= .set es ep t)(hf:t.fits es.size=aC)
  (hQ:∀h',h'.get? I=aA (Xl (.ref T) (i+1) r es.size ep)->gz I s.heap h'->Q (aA x) {s with heap:=h'}):bd (bz prog w) A (pyNext (.ref I)) Q E s:=by
 have hT:s.TypeIs (.ref I) "set_iterator":=⟨_,hI,rfl⟩
 unfold pyNext;refine ab (wpAny_attempt (du (name:=gh "__next__") hT Ys (de Ys hT Qs ?_ (Jj _))));unfold Builtin.«set_iterator.__next__»;refine ab (m:=slotArgs "__next__" 0 ⟨[.ref I],[]⟩) (af ?_);refine ab (wpAny_fieldsOf hI rfl ?_);dsimp only;refine ab (wpAny_setEntries_of ho hd hf ?_);rw[if_neg (by simp)];refine ab (m:=seqItems? (.ref T)) ?_;unfold seqItems?;refine ab (wpAny_load hT0 (af ?_));dsimp only;have e1:(ps.map λi:Nat=>rawInt i).toArray[((i:Nat):Int).toNat]? =aA (.int (p:Int) 0):=by simp[hp,rawInt]
 rw[e1];dsimp only;refine ab ?_;unfold setNextDrawn;refine ab (wpAny_setState_of ho hd hf ?_);dsimp only;rw[if_neg (by simp)];have e2:es[((p:Nat):Int).toNat]? =aA (hx,x):=by simpa using he
 rw[e2];refine af ?_;refine ab (wpAny_setField_rec hI (by simp) λh1 g1 b1=>?_);refine af ⟨_,rfl,af (hQ h1 ?_ b1)⟩;rw[g1];rfl
theorem Zr2(hh:A.handled=aB)(hI:s.heap.get? I=aA (Xl (.ref T) i r es.size ep))(hT0:s.heap.get? T=aA (Tf ps))(hp:ps[i]? =aB)(ho:s.heap.get? r=aA o)(hd:o.data= .set es ep t)(hf:t.fits es.size=aC)
  (hQ:∀h',Heap.ExtBut I s.heap h'->Q aB {s with heap:=h'}):bd (bz prog w) A (pyNext (.ref I)) Q E s:=by
 have hT:s.TypeIs (.ref I) "set_iterator":=⟨_,hI,rfl⟩
 unfold pyNext;refine ab (wpAny_attempt (du (name:=gh "__next__") hT Ys (de Ys hT Qs ?_ (Jj _))));unfold Builtin.«set_iterator.__next__»;refine ab (m:=slotArgs "__next__" 0 ⟨[.ref I],[]⟩) (af ?_);refine ab (wpAny_fieldsOf hI rfl ?_);dsimp only;refine ab (wpAny_setEntries_of ho hd hf ?_);rw[if_neg (by simp)];refine ab (m:=seqItems? (.ref T)) ?_;unfold seqItems?;refine ab (wpAny_load hT0 (af ?_));dsimp only;have e1:(ps.map λi:Nat=>rawInt i).toArray[((i:Nat):Int).toNat]? =aB:=by simp only[gy,List.getElem?_toArray,a8,hp,Option.map_none]
 rw[e1];dsimp only;refine ab (wpAny_setField_rec hI (by simp) λh1 g1 b1=>?_);refine ab (wpAny_setField_rec (s:={s with heap:=h1}) g1 (by simp) λh2 g2 b2=>?_);refine ab (m:=newExc (.type "StopIteration") []) ?_;simp only[newExc,newTuple];refine ab (dn ?_ (by size_fits));refine ab (m:=firstArgMember _ _) (wpAny_of_eq (a:=ci) (by first|rfl| (simp only[firstArgMember];rfl)) ?_);refine dn ?_ (by size_fits);simp only[raiseNew];refine ab (wpAny_handled ?_);rw[show A.in1.handled=aB from hh];refine ab (af (wpAny_throw ?_));refine ab (ic (T:="StopIteration") (b:=aC) ⟨_,a9 _ rfl,rfl⟩ isSubtype_stop ?_);exact af (hQ _ (((b1.trans b2).extBut.push _).push _))
end
end SX
namespace SX
open PySem PySem.Spec PyProof.Rows
noncomputable abbrev Fw(acc:Array aj)(c:Nat):Obj:={cls:=.type "list",dict:=aB,data:=.seq acc c,slots:= #[]}
structure Tells(prog:bv)(w:c6)(A:di)(I:au)(fp:List au)(ord:List aj)(St:Nat->f8->Prop):Prop where
 mem:I∈fp
 keep:∀i h h',St i h->(∀b∈fp,∀o,h.get? b=aA o->h'.get? b=aA o)->St i h'
 step:∀i (s:aq) x (Q:Option aj->aq->Prop) (E:aj->aq->Prop),St i s.heap->ord[i]? =aA x->(∀h',St (i+1) h'->gz I s.heap h'->Q (aA x) {s with heap:=h'})->bd (bz prog w) A (pyNext (.ref I)) Q E s
 stop:∀(s:aq) (Q:Option aj->aq->Prop) (E:aj->aq->Prop),St ord.length s.heap->(∀h',Heap.ExtBut I s.heap h'->Q aB {s with heap:=h'})->bd (bz prog w) A (pyNext (.ref I)) Q E s
section
variable{prog:bv}{w:c6}{A:di}{E:aj->aq->Prop}{R:Result->aq->Prop}{I S:au}{fp:List au}{ord:List aj}{St:Nat->f8->Prop}
theorem Zas(T:Tells prog w A.in1 I fp ord St)(hS:S∉fp)(hz:ord.length<=10000)(res:aj):∀(m i:Nat) (s:aq) (c:Nat),i+m=ord.length->St i s.heap->s.heap.get? S=aA (Fw (ord.take i).toArray c)->
  (∀h' c',(∀b x,b≠S->b≠I->s.heap.get? b=aA x->h'.get? b=aA x)->h'.get? S=aA (Fw ord.toArray c')->R (.ok (.ret res)) {s with heap:=h'})->codeAny (bz prog w) A (.builtin "list.extend.loop" ⟨[.ref S,.ref I,res],[]⟩) R s:=by
 have hSI:S≠I:=λz=>hS (z▸T.mem);intro m;induction m with
 |zero=>intro i s c hi st hl hR;obtain rfl:i=ord.length:=hi;rw[List.take_length]at hl;refine gn PySem.F.entry_extend_loop ?_;rw[f9 PySem.F.plain_extend_loop _];show bd _ A.in1 (pyNext (.ref I) >>=_) _ _ s;refine ab (T.stop s _ _ st λh' ex=>?_);exact af (hR h' c (λb x _ hb e=>ex b x hb e) (ex S _ hSI hl))
 |succ m ih=>
  intro i s c hi st hl hR;have hlt:i<ord.length:=by omega
  refine gn PySem.F.entry_extend_loop ?_;rw[f9 PySem.F.plain_extend_loop _];show bd _ A.in1 (pyNext (.ref I) >>=_) _ _ s;refine ab (T.step i s ord[i] _ _ st (by simp[hlt]) λh1 st1 b1=>?_);have l1:h1.get? S=aA (Fw (ord.take i).toArray c):=(b1.2 S hSI).trans hl;have tk:(ord.take i).toArray.push ord[i]=(ord.take (i+1)).toArray:=by rw[List.take_add_one,aw hlt];simp
  show bd _ A.in1 (updateSeq S (·.push ord[i]) >>=_) _ _ _;refine ab (wpAny_updateSeq l1 rfl (af ⟨plainId_quiet PySem.F.plain_extend_loop _,?_⟩) (by rw[bp,List.length_take,ff];omega) (by show((ord.take i).toArray.push ord[i]).size<=_;rw[tk,bp,List.length_take,ff];omega));have g2:=gv (dm (·.push ord[i])) l1 rfl;have hm:∃c',dm (·.push ord[i]) (Fw (ord.take i).toArray c)=Fw (ord.take (i+1)).toArray c':=by rw[<-tk];exact⟨_,rfl⟩
  obtain⟨c',hc'⟩:=hm;rw[hc']at g2;refine ih (i+1) _ c' (by omega) (T.keep _ _ _ st1 λb hb x e=>(Heap.get?_update_other _ _ (λz:S=b=>hS (by rw[z];exact hb))).trans e) g2 λh3 c3 k3 g3=>?_;exact hR h3 c3 (λb x hb hbI e=>k3 b x hb hbI ((Heap.get?_update_other _ _ (Ne.symm hb)).trans ((b1.2 b hbI).trans e))) g3
theorem Zj5{s:aq}{r:au}{Q:Bool->aq->Prop}(hT:s.TypeIs (.ref r) "set")(h:Q aD s):bd (bz prog w) A (Builtin.List.listLengthHint (.ref r)) Q E s:=by
 unfold Builtin.List.listLengthHint;refine ab (wpAny_specialOf hT PySem.F.slot_set_len.lookup ?_);generalize hid:("set.__len__":String)=id0
 wp_delta
 rw[show splitId id0=aA ("set","__len__")from by subst hid;decide+kernel];subst hid;refine ab (ic (T:="set") (b:=aC) hT sub_set_self ?_);refine wpAny_ite_split (λz=>absurd z (by decide)) λ_=>?_;refine wpAny_ite_split (λ_=>?_) λz=>absurd (by decide+kernel) z;exact ab (wpAny_typeOf hT (af h))
theorem Zat{α:Type}(f:Nat->Nat):∀(n k:Nat) (l:List α) (out:Array α),n=l.length->(pickOrder.go f n k l out).toList.Perm (out.toList++l)
 |0,k,l,out,h=>by have:l=[]:=List.eq_nil_of_length_eq_zero h.symm;subst this;unfold pickOrder.go;simp
 |n+1,k,l,out,h=>by
  unfold pickOrder.go;have hp:0<l.length:=by omega
  have hm:f k % l.length<l.length:=Nat.mod_lt _ hp;rw[aw hm];dsimp only;refine(Zat f n (k+1) _ _ (by rw[List.length_eraseIdx_of_lt hm];omega)).trans ?_;rw[Array.toList_push,c7];exact(Te l _ hm).append_left _
theorem Zge{α:Type}(f:Nat->Nat)(xs:Array α):(pickOrder f xs).toList.Perm xs.toList:=by have:=Zat f xs.size 0 xs.toList #[] (a6).symm;simpa[pickOrder]using this
end
end SX
namespace SX
open PySem PySem.Spec PyProof.Rows
section
variable{prog:bv}{w:c6}{A:di}{E:aj->aq->Prop}{s:aq}{I r T:au}{o:Obj}{es:Array (Int×aj)}{ep:Nat}{t:gx}
noncomputable def sl(t:gx):Nat->Nat
 |0=>0
 |i+1=>t.place.getD i 0+1
theorem Zl3{t:gx}(h:Rh t.place.toList){i:Nat}(hi:i<=t.place.size):SetTable.below t.place (sl t i)=i:=by
 refine Zaq (Ez h _) ⟨hi,λk y hk e=>?_,λk y hk e=>?_⟩
 ·cases i with
  |zero=>omega
  |succ i=>
   have hp:i<t.place.size:=by omega
   have e2:t.place[i]? =aA t.place[i]:=by simp[hp]
   have eg:sl t (i+1)=t.place[i]+1:=by unfold sl;simp[Array.getD,hp]
   rw[eg];by_cases z:k=i
   ·subst z;rw[e2]at e;cases e;omega
   ·have:=B2 h e e2 (by omega);omega
 ·cases i with
  |zero=>exact fu _
  |succ i=>
   have hp:i<t.place.size:=by omega
   have e2:t.place[i]? =aA t.place[i]:=by simp[hp]
   have eg:sl t (i+1)=t.place[i]+1:=by unfold sl;simp[Array.getD,hp]
   rw[eg];have:=B2 h e2 e (by omega);omega
theorem Ea{r I:au}(h:r≠I){h1 h2:f8}(b:gz I h1 h2){x:Obj}(e:h1.get? r=aA x):h2.get? r=aA x:=(b.2 r h).trans e
theorem Hr(hh:A.handled=aB)(hr:r≠I)(hd:o.data= .set es ep t)(hf:t.fits es.size=aC)(hB:By w=aD)(hl:t.led=aC)(hp:(!t.plain&&decide (es.size > 1))=aD)(rise:Rh t.place.toList)(sz:t.place.size=es.size):
  Tells prog w A I [I,r] (es.toList.map (·.2)) (λi h=>h.get? I=aA (Xl (.int (sl t i:Int) 0) i r es.size ep)/\h.get? r=aA o):=by
 refine⟨by simp,λi h h' st k=>⟨k I (by simp) _ st.1,k r (by simp) _ st.2⟩,λi s x Q E st hx hQ=>?_,λs Q E st hQ=>?_⟩
 ·rw[a8]at hx;obtain⟨e,he,rfl⟩:=cq.mp hx;rw[cp]at he;have hi:i<es.size:=(gd.mp he).1;have hi':i<t.place.size:=by omega
  have e2:t.place[i]? =aA t.place[i]:=by simp[hi']
  have nx:=Lb (prog:=prog) (w:=w) (A:=A.in1) (s:=s) (slot:=sl t i) (i:=i) hB st.2 hd hf hl hp;rw[Zl3 rise (by omega),he,e2]at nx;refine Zl1 st.1 st.2 hd hf nx λh' g b=>hQ h' ⟨?_,Ea hr b st.2⟩ b;have eg:sl t (i+1)=t.place[i]+1:=by unfold sl;simp[Array.getD,hi']
  rw[eg];exact g
 ·have hn:(es.toList.map (·.2)).length=es.size:=by rw[ag,a6]
  rw[hn]at st;have nx:=Lb (prog:=prog) (w:=w) (A:=A.in1) (s:=s) (slot:=sl t es.size) (i:=es.size) hB st.2 hd hf hl hp;rw[Zl3 rise (by omega),show es[es.size]? =aB by simp]at nx;exact Zl2 hh st.1 st.2 hd hf nx hQ
theorem Zct(hh:A.handled=aB)(hr:r≠I)(hd:o.data= .set es ep t)(hf:t.fits es.size=aC)(hB:By w=aC):
  Tells prog w A I [I,r] ((pickOrder (w.params.setOrder r ep) es).toList.map (·.2)) (λi h=>h.get? I=aA (Xl (.int ((0:Nat):Int) 0) i r es.size ep)/\h.get? r=aA o):=by
 refine⟨by simp,λi h h' st k=>⟨k I (by simp) _ st.1,k r (by simp) _ st.2⟩,λi s x Q E st hx hQ=>?_,λs Q E st hQ=>?_⟩
 ·rw[a8]at hx;obtain⟨e,he,rfl⟩:=cq.mp hx;rw[cp]at he;have nx:=Vn (prog:=prog) (w:=w) (A:=A.in1) (s:=s) (slot:=0) (i:=i) hB st.2 hd hf;rw[he]at nx;exact Zl1 st.1 st.2 hd hf nx λh' g b=>hQ h' ⟨g,Ea hr b st.2⟩ b
 ·have nx:=Vn (prog:=prog) (w:=w) (A:=A.in1) (s:=s) (slot:=0) (i:=((pickOrder (w.params.setOrder r ep) es).toList.map (·.2)).length) hB st.2 hd hf;rw[ag,a6,show(pickOrder (w.params.setOrder r ep) es)[(pickOrder (w.params.setOrder r ep) es).size]? =aB by simp]at nx;rw[ag,a6]at st;exact Zl2 hh st.1 st.2 hd hf nx hQ
theorem Hs(hh:A.handled=aB)(hr:r≠I)(hT:T≠I)(hd:o.data= .set es ep t)(hf:t.fits es.size=aC){ps:List Nat}(hp:∀p∈ps,p<es.size):
  Tells prog w A I [I,r,T] (ps.map λp=>(es.getD p (0,.none)).2) (λi h=>h.get? I=aA (Xl (.ref T) i r es.size ep)/\h.get? r=aA o/\h.get? T=aA (Tf ps)):=by
 refine⟨by simp,λi h h' st k=>⟨k I (by simp) _ st.1,k r (by simp) _ st.2.1,k T (by simp) _ st.2.2⟩,λi s x Q E st hx hQ=>?_,λs Q E st hQ=>?_⟩
 ·rw[a8]at hx;obtain⟨p,he,rfl⟩:=cq.mp hx;have lt:=hp p (b6 he);have e2:es[p]? =aA ((es.getD p (0,.none)).1,(es.getD p (0,.none)).2):=by simp[Array.getD,lt]
  exact Zr1 st.1 st.2.2 he e2 st.2.1 hd hf λh' g b=>hQ h' ⟨g,Ea hr b st.2.1,Ea hT b st.2.2⟩ b
 ·rw[ag]at st;exact Zr2 hh st.1 st.2.2 (by simp) st.2.1 hd hf hQ
end
end SX
namespace SX
open PySem PySem.Spec PyProof.Rows
section
variable{prog:bv}{w:c6}{A:di}{E:aj->aq->Prop}{s:aq}{I r S:au}{o:Obj}{ks:List Int}
theorem Pi{R:Result->aq->Prop}{fp:List au}{ord:List aj}{St:Nat->f8->Prop}{res:aj}{c:Nat}(T:Tells prog w A.in1 I fp ord St)(hS:S∉fp)(hz:ord.length<=10000)(hT:s.TypeIs (.ref r) "set")(st:St 0 s.heap)(hl:s.heap.get? S=aA (Fw #[] c)){f:Bool->Bool}
  (hR:∀h' c',(∀b x,b≠S->b≠I->s.heap.get? b=aA x->h'.get? b=aA x)->h'.get? S=aA (Fw ord.toArray c')->R (.ok (.ret res)) {s with heap:=h'}):
  bd (bz prog w) A.in1 (do
   let room<-holding [.ref I] (Builtin.List.listLengthHint (.ref r))
   if f room=aC then do
    rule "list.extend.makes-room"
    Builtin.List.listTouch (.ref S)
    again (.builtin "list.extend.loop" ⟨[.ref S,.ref I,res],[]⟩)
   else again (.builtin "list.extend.loop" ⟨[.ref S,.ref I,res],[]⟩))
   (λfin s'=>match fin with| .done f=>R (.ok f) s'| .again c'=>c'.quiet=aC/\codeAny (bz prog w) A c' R s') (λe s'=>R (.error e) s') s:=by
 refine ab (wpAny_holding (Zj5 hT ?_));refine wpAny_ite_split (λ_=>?_) (λ_=>af ⟨plainId_quiet PySem.F.plain_extend_loop _,Zas T hS hz res ord.length 0 s c (by omega) st (by simpa using hl) hR⟩);refine ab (wpAny_rule (ab ?_));show bd _ _ (updateSeq S (·.push .none) >>=λ_=>updateSeq S (·.pop)) _ _ _;refine ab (wpAny_updateSeq hl rfl ?_);have l2:=gv (dm (·.push ci)) hl rfl;refine wpAny_updateSeq (hz:=by seq_fits) l2 rfl ?_;have l3:=gv (dm (·.pop)) l2 rfl;have oth:∀b x,b≠S->s.heap.get? b=aA x->((s.heap.update S (dm (·.push ci))).update S (dm (·.pop))).get? b=aA x:=
  λb x hb e=>(Heap.get?_update_other _ _ (Ne.symm hb)).trans ((Heap.get?_update_other _ _ (Ne.symm hb)).trans e)
 refine af ⟨plainId_quiet PySem.F.plain_extend_loop _,Zas T hS hz res ord.length 0 _ _ (by omega) (T.keep _ _ _ st λb hb x e=>oth b x (λz=>hS (z▸hb)) e) l3 λh' c' k g=>?_⟩;exact hR h' c' (λb x hb hI e=>k b x hb hI (oth b x hb e)) g
end
end SX
namespace SX
open PySem PySem.Spec PyProof.Rows
end SX
namespace SX
open PySem PySem.Spec PyProof.Rows
noncomputable def srt(ns:List Int):List Int:=(dd (λi=>ns.getD i 0) ns.length).mergeSort λa b=>decide (a<=b)
end SX
namespace L2
open PySem PySem.Spec PyProof.Rows SX
section
variable{X:Cx}
theorem Inv.drawnAt{pins:List (au×Obj)}{σ:St}{H:Hp}{s:aq}(I:Inv X pins σ H s)(d:_):Inv X pins σ H {s with drawn:=d}:=
 ⟨I.ok,I.os,I.bare,I.base,I.loc,I.cell,I.free,I.freeC,I.pin,I.hok,I.len⟩
theorem Cz:bootBuiltins "sorted"=aA (.builtin "sorted"):=by kernel_rfl
theorem Zgf:bootBuiltins "set"=aA (.type "set"):=by kernel_rfl
end
end L2
namespace DL
open PySem PySem.Spec PyProof.Rows L2 SX
variable{K:ah}
end DL
namespace TX
open PySem PySem.W PyProof.Rows
noncomputable def W8{α:Type}(lt:Nat->Nat->Bool)(n:Nat)(R:α->Prop):KasT α->Prop
 | .ret a=>R a
 | .ask i j k=>i<n/\j<n/\W8 lt n R (k (lt i j))
theorem W8.bind{α β:Type}{lt:Nat->Nat->Bool}{n:Nat}{R:α->Prop}{S:β->Prop}{f:α->KasT β}(h:∀a,R a->W8 lt n S (f a)):∀{t:KasT α},W8 lt n R t->W8 lt n S (t.bind f)
 | .ret a,g=>h a g
 | .ask i j k,g=>⟨g.1,g.2.1,W8.bind h (t:=k (lt i j)) g.2.2⟩
theorem W8.mono{α:Type}{lt:Nat->Nat->Bool}{n:Nat}{R S:α->Prop}(h:∀a,R a->S a):∀{t:KasT α},W8 lt n R t->W8 lt n S t
 | .ret a,g=>h a g
 | .ask i j k,g=>⟨g.1,g.2.1,W8.mono h (t:=k (lt i j)) g.2.2⟩
theorem W8.wp{α:Type}{lt:Nat->Nat->Bool}{n:Nat}{R:α->Prop}{cmp:Nat->Nat->(Bool->aq->Prop)->aq->Prop}{I:aq->Prop}{Q:α->aq->Prop}
  (hc:∀i j C s,i<n->j<n->I s->(∀s',I s'->C (lt i j) s')->cmp i j C s) (hq:∀a s,R a->I s->Q a s):∀{t:KasT α} {s:aq},W8 lt n R t->I s->t.kasWp cmp Q s
 | .ret a,s,g,i=>hq a s g i
 | .ask i j k,s,g,x=>hc i j _ s g.1 g.2.1 x λs' x'=>W8.wp hc hq (t:=k (lt i j)) g.2.2 x'
section
variable{O:KeyOrd}{key:Nat->O.α}{n:Nat}
noncomputable abbrev Fx(O:KeyOrd)(key:Nat->O.α)(i j:Nat):Bool:=O.blt (key i) (key j)
noncomputable def Kp(key:Nat->O.α)(p:Array Nat)(i:Nat):O.α:=key (p.getD i 0)
noncomputable def Pj(key:Nat->O.α)(p:Array Nat)(k:Nat):Prop:=∀i j,i<=j->j<k->O.kle (Kp key p i) (Kp key p j)
noncomputable def Dec(key:Nat->O.α)(p:Array Nat)(k:Nat):Prop:=∀i j,i<=j->j<k->O.kle (Kp key p j) (Kp key p i)
noncomputable def Pm(n:Nat)(p:Array Nat):Prop:=p.Perm (List.toArray (cz n))
theorem Pm.size{p:Array Nat}(h:Pm n p):p.size=n:=by have:=(Array.perm_iff_toList_perm.mp h).length_eq;simpa using this
theorem Pm.lt{p:Array Nat}(h:Pm n p){i:Nat}(hi:i<n):p.getD i 0<n:=by
 have hs:i<p.size:=by rw[h.size];exact hi
 have hm:p[i]∈(cz n):=(Array.perm_iff_toList_perm.mp h).mem_iff.mp (by simp);rw[Array.getD_eq_getD_getElem?,getElem?_pos p i hs];exact cn.mp hm
theorem C0{p q:Array Nat}{i j:Nat}(h:p[i]? =q[j]?):Kp key p i=Kp key q j:=by unfold Kp;rw[Array.getD_eq_getD_getElem?,Array.getD_eq_getD_getElem?,h]
theorem E1{p:Array Nat}{i j:Nat}(hj:j<=p.size)(k:Nat):Kp key (kas_rev p i j) k=if i<=k/\k<j then Kp key p (i+j- 1- k)else Kp key p k:=by
 have e:=getElem?_mirror_all (xs:=p) (i:=i) hj k;unfold kas_rev;by_cases h:i<=k/\k<j
 ·rw[if_pos h]at e⊢;exact C0 e
 ·rw[if_neg h]at e⊢;exact C0 e
theorem Zgg{p:Array Nat}{src d:Nat}(hs:src<p.size)(hd:d<=src)(k:Nat):Kp key (bubble p src d) k=if k=src- d then Kp key p src else if src- d<k/\k<=src then Kp key p (k- 1)else Kp key p k:=by
 have e:=getElem?_bubble hs d hd k;by_cases h1:k=src- d
 ·rw[if_pos h1]at e⊢;exact C0 e
 ·rw[if_neg h1]at e⊢;by_cases h2:src- d<k/\k<=src
  ·rw[if_pos h2]at e⊢;exact C0 e
  ·rw[if_neg h2]at e⊢;exact C0 e
theorem Pm.rev{p:Array Nat}(h:Pm n p)(i j:Nat):Pm n (kas_rev p i j):=(mirror_perm p i j _).trans h
theorem Pm.bub{p:Array Nat}(h:Pm n p)(i j:Nat):Pm n (bubble p i j):=(bubble_perm p i j).trans h
theorem E2{p:Array Nat}(hp:Pm n p):∀(f m:Nat),1<=m->m+f<=n->Pj key p m->
  W8 (Fx O key) n (λr=>m<=r/\r<=m+f/\Pj key p r/\(r=m+f\/O.klt (Kp key p r) (Kp key p (r- 1)))) (kas_asc p f m)
 |0,m,_,_,hs=>⟨az _,az _,hs,.inl rfl⟩
 |f+1,m,h1,hm,hs=>by
  refine⟨hp.lt (by omega),hp.lt (by omega),?_⟩;show W8 _ _ _ (if O.blt (Kp key p m) (Kp key p (m- 1))=aC then _ else _);by_cases c:O.blt (Kp key p m) (Kp key p (m- 1))=aC
  ·rw[if_pos c];exact⟨az _,by omega,hs,.inr c⟩
  ·rw[if_neg c];refine(E2 hp f (m+1) (by omega) (by omega) λi j hij hj=>?_).mono λr ⟨a,b,d,e⟩=>⟨by omega,by omega,d,by rcases e with e|e;exact .inl (by omega);exact .inr e⟩
   by_cases hjm:j<m
   ·exact hs i j hij hjm
   ·have:j=m:=by omega
    subst this;by_cases hi:i=j
    ·subst hi;exact KeyOrd.kle_refl _
    ·exact KeyOrd.kle_trans (hs i (j- 1) (by omega) (by omega)) (KeyOrd.kle_of_not_klt c)
theorem Gs:∀(f:Nat) (p:Array Nat) (m q:Nat),Pm n p->1<=m->m+f<=n->Dec key p m->q+1<=m->(∀i,m- (q+1)<=i->i<m->Kp key p i=Kp key p (m- 1))->
  W8 (Fx O key) n (λr=>Pm n r.1/\m<=r.2.1/\r.2.1<=m+f/\Dec key r.1 r.2.1/\r.2.2+1<=r.2.1/\∀i,r.2.1- (r.2.2+1)<=i->i<r.2.1->Kp key r.1 i=Kp key r.1 (r.2.1- 1)) (kas_desc f p m q)
 |0,p,m,q,hp,_,_,hs,hq,he=>⟨hp,az _,az _,hs,hq,he⟩
 |f+1,p,m,q,hp,h1,hm,hs,hq,he=>by
  have hsz:m<=p.size:=by rw[hp.size];omega
  refine⟨hp.lt (by omega),hp.lt (by omega),?_⟩;show W8 _ _ _ (if O.blt (Kp key p m) (Kp key p (m- 1))=aC then _ else _);have up:∀{r:Array Nat×Nat×Nat},(Pm n r.1/\m+1<=r.2.1/\r.2.1<=m+1+f/\Dec key r.1 r.2.1/\r.2.2+1<=r.2.1/\∀i,r.2.1- (r.2.2+1)<=i->i<r.2.1->Kp key r.1 i=Kp key r.1 (r.2.1- 1))->
    (Pm n r.1/\m<=r.2.1/\r.2.1<=m+(f+1)/\Dec key r.1 r.2.1/\r.2.2+1<=r.2.1/\∀i,r.2.1- (r.2.2+1)<=i->i<r.2.1->Kp key r.1 i=Kp key r.1 (r.2.1- 1)):=
   λ⟨a,b,c,d⟩=>⟨a,by omega,by omega,d⟩
  have step1:∀x:Array Nat,O.blt (Kp key p m) (Kp key p (m- 1))=aC->(∀k,Kp key x k=Kp key p k)->Dec key x (m+1):=by
   intro x c hk i j hij hj;rw[hk,hk];by_cases hjx:j<m
   ·exact hs i j hij hjx
   ·have hj':j=m:=by omega
    subst hj';by_cases hi':i=j
    ·subst hi';exact KeyOrd.kle_refl _
    ·exact KeyOrd.kle_trans (KeyOrd.kle_of_klt c) (hs i (j- 1) (by omega) (by omega))
  have one:∀x:Array Nat,∀i,m+1- (0+1)<=i->i<m+1->Kp key x i=Kp key x (m+1- 1):=λx i a b=>by congr 1;omega
  by_cases c:O.blt (Kp key p m) (Kp key p (m- 1))=aC
  ·rw[if_pos c];by_cases hq0:q > 0
   ·rw[if_pos hq0];refine(Gs f (kas_rev p (m- (q+1)) m) (m+1) 0 (hp.rev _ _) (by omega) (by omega) (step1 _ c λk=>?_) (by omega) (one _)).mono λr=>up;rw[E1 hsz];by_cases hk:m- (q+1)<=k/\k<m
    ·rw[if_pos hk,he _ (by omega) (by omega),he k hk.1 hk.2]
    ·rw[if_neg hk]
   ·rw[if_neg hq0];exact(Gs f p (m+1) 0 hp (by omega) (by omega) (step1 _ c λ_=>rfl) (by omega) (one _)).mono λr=>up
  ·rw[if_neg c];refine⟨hp.lt (by omega),hp.lt (by omega),?_⟩;show W8 _ _ _ (if O.blt (Kp key p (m- 1)) (Kp key p m)=aC then _ else _);by_cases d:O.blt (Kp key p (m- 1)) (Kp key p m)=aC
   ·rw[if_pos d];exact⟨hp,az _,Nat.le_add_right _ _,hs,hq,he⟩
   ·rw[if_neg d];have ex:Kp key p m=Kp key p (m- 1):=KeyOrd.kle_antisymm (by simpa[KeyOrd.kle]using d) (by simpa[KeyOrd.kle]using c);refine(Gs f p (m+1) (q+1) hp (by omega) (by omega) (λi j hij hj=>?_) (by omega) λi a b=>?_).mono λr=>up
    ·by_cases hjx:j<m
     ·exact hs i j hij hjx
     ·have hj':j=m:=by omega
      subst hj';by_cases hi':i=j
      ·subst hi';exact KeyOrd.kle_refl _
      ·rw[ex];exact hs i (j- 1) (by omega) (by omega)
    ·rw[show m+1- 1=m by omega];by_cases hix:i=m
     ·subst hix;rfl
     ·rw[ex];exact he i (by omega) (by omega)
noncomputable abbrev Ct(key:Nat->O.α)(n:Nat)(r:Nat×Array Nat):Prop:=Pm n r.2/\1<=r.1/\r.1<=n/\Pj key r.2 r.1
theorem E3{p:Array Nat}(hp:Pm n p){m:Nat}(h1:1<=m)(hm:m<=n)(hs:Dec key p m):W8 (Fx O key) n (Ct key n) (kas_tail3 m n p):=by
 have hsz:m<=p.size:=by rw[hp.size];exact hm
 refine W8.bind (R:=λr=>m<=r/\r<=m+(n- m)/\Pj key (kas_rev p 0 m) r/\_) (λr ⟨a,b,c,_⟩=>⟨hp.rev _ _,by show 1<=r;omega,by show r<=n;omega,c⟩) (E2 (hp.rev 0 m) (n- m) m h1 (by omega) λi j hij hj=>?_);rw[E1 hsz,E1 hsz,if_pos (by omega),if_pos (by omega)];exact hs _ _ (by omega) (by omega)
theorem G9{p:Array Nat}(hp:Pm n p){m:Nat}(hm:m+1<=n)(hs:Dec key p (m+1)):W8 (Fx O key) n (Ct key n) (kas_descPart m n p):=by
 refine W8.bind (λr h=>?_) (Gs (n- (m+1)) p (m+1) 0 hp (by omega) (by omega) hs (by omega) λi a b=>by congr 1;omega);obtain⟨a,b,c,d,e,g⟩:=h;have hsz:r.2.1<=r.1.size:=by rw[a.size];omega
 by_cases hq:r.2.2 > 0
 ·rw[if_pos hq];refine E3 (a.rev _ _) (by omega) (by omega) λi j hij hj=>?_;have k:∀x,Kp key (kas_rev r.1 (r.2.1- (r.2.2+1)) r.2.1) x=Kp key r.1 x:=λx=>by
   rw[E1 hsz];by_cases hk:r.2.1- (r.2.2+1)<=x/\x<r.2.1
   ·rw[if_pos hk,g _ (by omega) (by omega),g x hk.1 hk.2]
   ·rw[if_neg hk]
  rw[k,k];exact d i j hij hj
 ·rw[if_neg hq];exact E3 a (by omega) (by omega) d
theorem Ht{p:Array Nat}(hp:Pm n p)(h1:1<=n):W8 (Fx O key) n (Ct key n) (kas_count n p):=by
 refine W8.bind (λm h=>?_) (E2 (key:=key) hp (n- 1) 1 (az _) (by omega) λi j hij hj=>by(have:i=j:=by omega);subst this;exact KeyOrd.kle_refl _);obtain⟨a,b,c,d⟩:=h;by_cases hm:(m==n)=aC
 ·rw[if_pos hm];exact⟨hp,a,by show m<=n;omega,c⟩
 ·rw[if_neg hm];have hne:m≠n:=λz=>hm (by rw[z];exact beq_self_eq_true n);have br:O.klt (Kp key p m) (Kp key p (m- 1)):=by
   rcases d with d|d
   ·omega
   ·exact d
  by_cases h2:m > 1
  ·rw[if_pos h2];refine⟨hp.lt (by omega),hp.lt (by omega),?_⟩;show W8 _ _ _ (if O.blt (Kp key p 0) (Kp key p (m- 1))=aC then _ else _);by_cases c0:O.blt (Kp key p 0) (Kp key p (m- 1))=aC
   ·rw[if_pos c0];exact⟨hp,a,by show m<=n;omega,c⟩
   ·rw[if_neg c0];have hsz:m<=p.size:=by rw[hp.size];omega
    have eq:∀i,i<m->Kp key p i=Kp key p (m- 1):=λi hi=>
     KeyOrd.kle_antisymm (c i (m- 1) (by omega) (by omega)) (KeyOrd.kle_trans (by simpa[KeyOrd.kle]using c0) (c 0 i (by omega) hi))
    have k:∀x,Kp key (kas_rev p 0 m) x=Kp key p x:=λx=>by
     rw[E1 hsz];by_cases hk:0<=x/\x<m
     ·rw[if_pos hk,eq _ (by omega),eq x hk.2]
     ·rw[if_neg hk]
    refine G9 (hp.rev 0 m) (by omega) λi j hij hj=>?_;rw[k,k];by_cases hjm:j=m
    ·subst hjm;by_cases hi:i=j
     ·subst hi;exact KeyOrd.kle_refl _
     ·rw[eq i (by omega)];exact KeyOrd.kle_of_klt br
    ·rw[eq i (by omega),eq j (by omega)];exact KeyOrd.kle_refl _
  ·rw[if_neg h2];have:m=1:=by omega
   subst this;refine G9 hp (by omega) λi j hij hj=>?_;by_cases hi:i=j
   ·subst hi;exact KeyOrd.kle_refl _
   ·have:i=0:=by omega
    subst this;have:j=1:=by omega
    subst this;exact KeyOrd.kle_of_klt br
theorem Rj{p:Array Nat}(hp:Pm n p){k:Nat}(hk:k<n)(hs:Pj key p k):∀(f l r:Nat),l<=r->r<=k->r- l<=f->(∀i,i<l->O.kle (Kp key p i) (Kp key p k))->(∀i,r<=i->i<k->O.kle (Kp key p k) (Kp key p i))->
  W8 (Fx O key) n (λm=>m<=k/\(∀i,i<m->O.kle (Kp key p i) (Kp key p k))/\∀i,m<=i->i<k->O.kle (Kp key p k) (Kp key p i)) (kas_place p k f l r)
 |0,l,r,hlr,hr,hf,h1,h2=>⟨by omega,h1,λi a b=>h2 i (by omega) b⟩
 |f+1,l,r,hlr,hr,hf,h1,h2=>by
  show W8 _ _ _ (if l>=r then _ else _);by_cases c:l>=r
  ·rw[if_pos c];exact⟨by omega,h1,λi a b=>h2 i (by omega) b⟩
  ·rw[if_neg c];refine⟨hp.lt hk,hp.lt (by omega),?_⟩;show W8 _ _ _ (if O.blt (Kp key p k) (Kp key p ((l+r) / 2))=aC then _ else _);by_cases d:O.blt (Kp key p k) (Kp key p ((l+r) / 2))=aC
   ·rw[if_pos d];exact Rj hp hk hs f l ((l+r) / 2) (by omega) (by omega) (by omega) h1 λi a b=>KeyOrd.kle_trans (KeyOrd.kle_of_klt d) (hs _ i a b)
   ·rw[if_neg d];exact Rj hp hk hs f ((l+r) / 2+1) r (by omega) hr (by omega) (λi a=>KeyOrd.kle_trans (hs i ((l+r) / 2) (by omega) (by omega)) (KeyOrd.kle_of_not_klt d)) h2
theorem Vo:∀(f:Nat) (p:Array Nat) (k:Nat),Pm n p->k+f=n->Pj key p k->W8 (Fx O key) n (λq=>Pm n q/\Pj key q n) (kas_bin f p k)
 |0,p,k,hp,hk,hs=>⟨hp,by(have:k=n:=hk);rw[<-this];exact hs⟩
 |f+1,p,k,hp,hk,hs=>by
  refine W8.bind (λl h=>?_) (Rj hp (by omega) hs k 0 k (fu _) (az _) (by omega) (λi hi=>absurd hi (dz _)) λi a b=>absurd b (by omega));obtain⟨hl,a,b⟩:=h;have hsz:k<p.size:=by rw[hp.size];omega
  refine Vo f (bubble p k (k- l)) (k+1) (hp.bub _ _) (by omega) λi j hij hj=>?_;rw[Zgg hsz (by omega),Zgg hsz (by omega)];have e:k- (k- l)=l:=by omega
  rw[e];by_cases i1:i=l
  ·rw[if_pos i1];by_cases j1:j=l
   ·rw[if_pos j1];exact KeyOrd.kle_refl _
   ·rw[if_neg j1,if_pos (by omega)];exact b (j- 1) (by omega) (by omega)
  ·rw[if_neg i1];by_cases i2:l<i/\i<=k
   ·rw[if_pos i2,if_neg (by omega),if_pos (by omega)];exact hs _ _ (by omega) (by omega)
   ·rw[if_neg i2];by_cases j1:j=l
    ·rw[if_pos j1];exact a i (by omega)
    ·rw[if_neg j1];by_cases j2:l<j/\j<=k
     ·rw[if_pos j2];exact hs _ _ (by omega) (by omega)
     ·rw[if_neg j2];exact hs _ _ hij (by omega)
theorem Lc(h1:1<=n):W8 (Fx O key) n (λq=>Pm n q/\Pj key q n) (kas_sort n):=by
 refine W8.bind (λr h=>?_) (Ht (key:=key) (Array.Perm.refl _) h1);obtain⟨a,b,c,d⟩:=h;by_cases hr:r.1<n
 ·rw[if_pos hr];have e:max r.1 1=r.1:=by omega
  rw[e];exact Vo _ _ _ a (by omega) d
 ·rw[if_neg hr];have:r.1=n:=by omega
  exact⟨a,by rw[this]at d;exact d⟩
end
end TX
namespace TX
open PySem PySem.SeqAt
open AutoSeq1 (wpAny_loadPart')
open MeetsSeq MeetsSeq2 MeetsSeq3 SeqRoads2
noncomputable def O7(A:di)(s:aq)(y x:aj)(b:Bool):Prop:=
 ∀(prog:bv) (w:c6) (E:aj->aq->Prop) (Q:aj->aq->Prop),Q (.bool b) s->bd (bz prog w) A (richCompare .Lt y x) Q E s
noncomputable def Uq(fin:Bool)(e l:Nat->Bool):Nat->Nat->Bool
 |0,_=>fin
 |k+1,i=>if e i=aC then Uq fin e l k (i+1)else l i
theorem Zcu(l b:au)(items items2:Array aj)(n n2:Nat)(dd dd2:Option au)(sl sl2:Array (Option aj))(e lt:Nat->Bool)(k:Nat):
  ∀i:Nat,(∀j,j<i->e j=aC)->min items.size items2.size- i=k->Meets (Builtin.«list.__eq__.loop» ⟨[.ref l,.ref b,rawInt i,rawInt 0],[]⟩)
   (λA R s=>s.heap.get? l=aA {cls:=.type "list",dict:=dd,data:=.seq items n,slots:=sl}/\s.heap.get? b=aA {cls:=.type "list",dict:=dd2,data:=.seq items2 n2,slots:=sl2}/\
    (∀j (h1:j<items.size) (h2:j<items2.size),(∀i,i<j->e i=aC)->EqAt A.in1 s items[j] items2[j] (e j))/\(∀j (h1:j<items.size) (h2:j<items2.size),(∀i,i<j->e i=aC)->e j=aD->O7 A.in1 s items[j] items2[j] (lt j))/\
    R (.ok (.ret (.bool (Uq (decide (items.size<items2.size)) e lt k i)))) s):=by
 induction k with
 |zero=>
  intro i hpre hk prog w A R s h;obtain⟨hp,g,d,tk,os⟩:=s;obtain⟨hl,hb,he,ht,h⟩:=h;wp_walk using dq hl,dq hb;have hi:items[((i:Nat):Int).toNat]? =aB\/items2[((i:Nat):Int).toNat]? =aB:=by
   rcases dv i items.size with z|z
   ·right;simp;omega
   ·left;simp;omega
  rcases h1:items[((i:Nat):Int).toNat]? with _|x
  ·wp_walk using dq hl,dq hb;exact h
  ·rcases hi with hi|hi
   ·rw[h1]at hi;cases hi
   ·rw[hi];wp_walk using dq hl,dq hb;exact h
 |succ k ih=>
  intro i hpre hk prog w A R s h;obtain⟨hp,g,d,tk,os⟩:=s;obtain⟨hl,hb,he,ht,h⟩:=h;wp_walk using dq hl,dq hb;have hlt:i<items.size:=by omega
  have hlt2:i<items2.size:=by omega
  have hi1:items[((i:Nat):Int).toNat]? =aA items[i]:=by simp[hlt]
  have hi2:items2[((i:Nat):Int).toNat]? =aA items2[i]:=by simp[hlt2]
  have hc:((i:Int)+1)=((i+1:Nat):Int):=by push_cast;rfl
  rw[hi1,hi2];refine ab (he i hlt hlt2 hpre prog w _ _ ?_);cases hb':e i with
  |true=>
   have h':R (.ok (.ret (.bool (Uq (decide (items.size<items2.size)) e lt k (i+1))))) ⟨hp,g,d,tk,os⟩:=by have z:=h;unfold Uq at z;rw[if_pos hb']at z;exact z
   wp_walk;rw[hc];exact⟨plainId_quiet plain_eq_loop _,gn entry_eq_loop (by
    rw[f9 plain_eq_loop _];exact ih (i+1) (λj hj=>by
     rcases dv j i with z|z
     ·exact hpre j z
     ·have:j=i:=by omega
      rw[this];exact hb') (by omega) prog w A R _ ⟨hl,hb,he,ht,h'⟩)⟩
  |false=>
   have h':R (.ok (.ret (.bool (lt i)))) ⟨hp,g,d,tk,os⟩:=by have z:=h;unfold Uq at z;rw[if_neg (by rw[hb'];simp)]at z;exact z
   wp_walk using dq hl,dq hb;rw[hi1,hi2];refine ab (ht i hlt hlt2 hpre hb' prog w _ _ ?_);wp_walk;exact h'
theorem Ld(l b:au)(items items2:Array aj)(n n2:Nat)(dd dd2:Option au)(sl sl2:Array (Option aj))(e lt:Nat->Bool):
  Meets (Builtin.«list.__lt__» ⟨[.ref l,.ref b],[]⟩)
   (λA R s=>s.heap.get? l=aA {cls:=.type "list",dict:=dd,data:=.seq items n,slots:=sl}/\s.heap.get? b=aA {cls:=.type "list",dict:=dd2,data:=.seq items2 n2,slots:=sl2}/\
    (∀j (h1:j<items.size) (h2:j<items2.size),(∀i,i<j->e i=aC)->EqAt A.in1 s items[j] items2[j] (e j))/\(∀j (h1:j<items.size) (h2:j<items2.size),(∀i,i<j->e i=aC)->e j=aD->O7 A.in1 s items[j] items2[j] (lt j))/\
    R (.ok (.ret (.bool (Uq (decide (items.size<items2.size)) e lt (min items.size items2.size) 0)))) s):=by
 intro prog w A R s h;obtain⟨hp,g,d,tk,os⟩:=s;obtain⟨hl,hb,he,ht,h⟩:=h;have f3:=AutoSeq1.sub_list_list;wp_walk using dq hl,dq hb;exact⟨plainId_quiet plain_eq_loop _,gn entry_eq_loop (by
  rw[f9 plain_eq_loop _];exact Zcu l b items items2 n n2 dd dd2 sl sl2 e lt _ 0 (λj hj=>absurd hj (dz _)) rfl prog w A R _ ⟨hl,hb,he,ht,h⟩)⟩
theorem Hu(l b:au)(items items2:Array aj)(n n2:Nat)(dd dd2:Option au)(sl sl2:Array (Option aj))(e lt:Nat->Bool):
  Meets (Builtin.«tuple.__lt__» ⟨[.ref l,.ref b],[]⟩)
   (λA R s=>s.heap.get? l=aA {cls:=.type "tuple",dict:=dd,data:=.seq items n,slots:=sl}/\s.heap.get? b=aA {cls:=.type "tuple",dict:=dd2,data:=.seq items2 n2,slots:=sl2}/\
    (∀j (h1:j<items.size) (h2:j<items2.size),(∀i,i<j->e i=aC)->EqAt A.in1 s items[j] items2[j] (e j))/\(∀j (h1:j<items.size) (h2:j<items2.size),(∀i,i<j->e i=aC)->e j=aD->O7 A.in1 s items[j] items2[j] (lt j))/\
    R (.ok (.ret (.bool (Uq (decide (items.size<items2.size)) e lt (min items.size items2.size) 0)))) s):=
 .of_wp λprog w A R s h=>by
  obtain⟨hp,g,d,tk,os⟩:=s;obtain⟨hl,hb,he,ht,h⟩:=h;have f2:=AutoSeq1.sub_tuple_tuple;have hZ:(items.toList.zip items2.toList).length=min items.size items2.size:=by simp
  wp_walk using dq hl,dq hb,wpAny_forIn_list _ (λrest b s'=>b.1=aB/\s'=⟨hp,g,d,tk,os⟩/\∃i,rest=(items.toList.zip items2.toList).drop i/\(∀j,j<i->e j=aC)/\
   R (.ok (.ret (.bool (Uq (decide (items.size<items2.size)) e lt (min items.size items2.size- i) i)))) ⟨hp,g,d,tk,os⟩) _
  case turn=>
   rintro⟨y,x⟩ rest b s' ⟨hb',rfl,i,hz,hpre,hR⟩;have hlt:i<(items.toList.zip items2.toList).length:=by
    rcases dv i (items.toList.zip items2.toList).length with h'|h'
    ·exact h'
    ·rw[List.drop_of_length_le h']at hz;cases hz
   have hm:i<min items.size items2.size:=hZ▸hlt;have h1:i<items.size:=c9 hm (Nat.min_le_left _ _);have h2:i<items2.size:=c9 hm (Nat.min_le_right _ _);rw[List.drop_eq_getElem_cons hlt]at hz;injection hz with hyx hrest;have hy:y=items[i]:=by have:=congrArg Prod.fst hyx;simpa using this
   have hx:x=items2[i]:=by have:=congrArg Prod.snd hyx;simpa using this
   subst hy hx;have hk:min items.size items2.size- i=(min items.size items2.size- (i+1))+1:=by omega
   rw[hk]at hR;unfold Uq at hR;refine ab (he i h1 h2 hpre prog w _ _ ?_);cases hy:e i with
   |true=>
    rw[if_pos hy]at hR;wp_walk;exact⟨rfl,rfl,i+1,hrest,λj hj=>by
     rcases dv j i with z|z
     ·exact hpre j z
     ·have:j=i:=by omega
      rw[this];exact hy,hR⟩
   |false=>rw[if_neg (by rw[hy];simp)]at hR;simp only[Bool.not_false,if_true];refine ab (wpAny_rule (ab (ht i h1 h2 hpre hy prog w _ _ ?_)));wp_walk;exact⟨_,rfl,hR⟩
  case fin=>
   rintro⟨b1,b2⟩ s' ⟨hb',rfl,i,hz,hpre,hR⟩;simp only at hb';subst hb';have hge:min items.size items2.size<=i:=by
    rcases dv i (items.toList.zip items2.toList).length with h'|h'
    ·rw[List.drop_eq_getElem_cons h']at hz;cases hz
    ·exact hZ▸h'
   have hk:min items.size items2.size- i=0:=by omega
   rw[hk]at hR;wp_walk;exact⟨_,rfl,hR⟩
  case h=>
   exact⟨rfl,rfl,0,rfl,λj hj=>absurd hj (dz _),by simpa using h⟩
section
variable{A:di}{s:aq}
theorem O7.lists{l b:au}{items items2:Array aj}{e lt:Nat->Bool}(hl:s.heap.IsList l items)(hb:s.heap.IsList b items2)(hu:A.units<fg)
  (he:∀j (h1:j<items.size) (h2:j<items2.size),(∀i,i<j->e i=aC)->EqAt A.in1 s items[j] items2[j] (e j)) (ht:∀j (h1:j<items.size) (h2:j<items2.size),(∀i,i<j->e i=aC)->e j=aD->O7 A.in1 s items[j] items2[j] (lt j)):
  O7 A s (.ref l) (.ref b) (Uq (decide (items.size<items2.size)) e lt (min items.size items2.size) 0):=λprog w E Q h=>by
 obtain⟨⟨cls,dd,data,sl⟩,ho,hc,n,hd⟩:=id hl;obtain⟨⟨cls2,dd2,data2,sl2⟩,ho2,hc2,n2,hd2⟩:=id hb;simp only at hc hd hc2 hd2;subst hc hd hc2 hd2;exact richCompare_meets_room (op:=.Lt) ⟨_,ho,rfl⟩ ⟨_,ho2,rfl⟩ F.slot_list_lt F.entry_list_lt (F.args_list_lt_2 _ _) (Ld l b items items2 n n2 dd dd2 sl sl2 e lt)
  ⟨ho,ho2,he,ht,show Value.bool (Uq (decide (items.size<items2.size)) e lt (min items.size items2.size) 0)≠Value.notImplemented/\Q (.bool (Uq (decide (items.size<items2.size)) e lt (min items.size items2.size) 0)) s from⟨(λx=>nomatch x),h⟩⟩ hu
theorem O7.tuples{l b:au}{items items2:Array aj}{e lt:Nat->Bool}(hl:s.heap.IsTuple l items)(hb:s.heap.IsTuple b items2)(hu:A.units<fg)
  (he:∀j (h1:j<items.size) (h2:j<items2.size),(∀i,i<j->e i=aC)->EqAt A.in1 s items[j] items2[j] (e j)) (ht:∀j (h1:j<items.size) (h2:j<items2.size),(∀i,i<j->e i=aC)->e j=aD->O7 A.in1 s items[j] items2[j] (lt j)):
  O7 A s (.ref l) (.ref b) (Uq (decide (items.size<items2.size)) e lt (min items.size items2.size) 0):=λprog w E Q h=>by
 obtain⟨⟨cls,dd,data,sl⟩,ho,hc,n,hd⟩:=id hl;obtain⟨⟨cls2,dd2,data2,sl2⟩,ho2,hc2,n2,hd2⟩:=id hb;simp only at hc hd hc2 hd2;subst hc hd hc2 hd2;exact richCompare_meets_room (op:=.Lt) ⟨_,ho,rfl⟩ ⟨_,ho2,rfl⟩ F.slot_tuple_lt F.entry_tuple_lt (F.args_tuple_lt_2 _ _) (Hu l b items items2 n n2 dd dd2 sl sl2 e lt)
  ⟨ho,ho2,he,ht,show Value.bool (Uq (decide (items.size<items2.size)) e lt (min items.size items2.size) 0)≠Value.notImplemented/\Q (.bool (Uq (decide (items.size<items2.size)) e lt (min items.size items2.size) 0)) s from⟨(λx=>nomatch x),h⟩⟩ hu
noncomputable def Ra(A:di)(s:aq)(y x:aj)(b:Bool):Prop:=
 ∀(prog:bv) (w:c6) (E:aj->aq->Prop) (Q:Bool->aq->Prop),Q b s->bd (bz prog w) A (PyProof.Rows.oneLt' aC y x) Q E s
theorem Ra.lists{l b:au}{items items2:Array aj}{e lt:Nat->Bool}(hl:s.heap.IsList l items)(hb:s.heap.IsList b items2)(hu:A.units<fg)
  (he:∀j (h1:j<items.size) (h2:j<items2.size),(∀i,i<j->e i=aC)->EqAt A.in1 s items[j] items2[j] (e j)) (ht:∀j (h1:j<items.size) (h2:j<items2.size),(∀i,i<j->e i=aC)->e j=aD->O7 A.in1 s items[j] items2[j] (lt j)):
  Ra A s (.ref l) (.ref b) (Uq (decide (items.size<items2.size)) e lt (min items.size items2.size) 0):=λprog w E Q h=>by
 obtain⟨⟨cls,dd,data,sl⟩,ho,hc,n,hd⟩:=id hl;obtain⟨⟨cls2,dd2,data2,sl2⟩,ho2,hc2,n2,hd2⟩:=id hb;simp only at hc hd hc2 hd2;subst hc hd hc2 hd2;rw[PyProof.Rows.oneLt'_eq];simp only[if_true];refine ab (wpAny_cRoomFor hu ?_);refine ab (wpAny_callSpecialIfBound?_slot ⟨_,ho,rfl⟩ F.slot_list_lt (call_meets F.slot_list_lt ⟨_,ho,rfl⟩ F.entry_list_lt (F.args_list_lt_2 _ _) (Ld l b items items2 n n2 dd dd2 sl sl2 e lt) ⟨ho,ho2,he,ht,?_⟩));exact wpAny_truthy_bool h
theorem Ra.int(a:Int)(t:Tok)(b:Int)(u:Tok):Ra A s (.int a t) (.int b u) (decide (a<b)):=λprog w E Q h=>PyProof.Rows.oneLt_int h
theorem Ra.str(a:Str)(t:Tok)(b:Str)(u:Tok):Ra A s (.str a t) (.str b u) (decide (a.cps.toList<b.cps.toList)):=λprog w E Q h=>PyProof.Rows.oneLt_str h
theorem O7.int(a:Int)(t:Tok)(b:Int)(u:Tok):O7 A s (.int a t) (.int b u) (decide (a<b)):=λprog w E Q h=>wpAny_lt_int h
theorem O7.str(a:Str)(t:Tok)(b:Str)(u:Tok):O7 A s (.str a t) (.str b u) (decide (a.cps.toList<b.cps.toList)):=λprog w E Q h=>PySem.P.lt_str h
end
end TX
namespace TX
open PySem PySem.Spec PyProof.Rows L2
open PySem.W (kla_fn kla_obj kla_callFunE kla_codeExpr envX)
end TX
namespace TX
open PySem PySem.Spec PyProof.Rows L2
open PySem.W (kla_fn kla_obj kla_eval kla_makeFunction kla_makeFunctionHit CodeHd tabObj)
end TX
namespace TX
open PySem PySem.Spec PyProof.Rows L2 DL
open PySem.SeqAt (EqAt)
variable{K:ah}
@[simp]noncomputable def Mg(eq lt:D->D->Option Bool):List D->List D->Option Bool
 | [],ys=>aA (!ys.isEmpty)
 |_::_,[]=>aA aD
 |x::xs,y::ys=>(eq x y).bind λb=>if b=aC then Mg eq lt xs ys else lt x y
@[simp]noncomputable def Hv(eq lt:D->D->Option Bool):D->D->Option Bool
 | .int i,.int j=>aA (decide (i<j))
 | .str a,.str b=>aA (decide (a.cps.toList<b.cps.toList))
 | .lst xs,.lst ys=>Mg eq lt xs ys
 | .tup xs,.tup ys=>Mg eq lt xs ys
 |_,_=>aB
@[simp]noncomputable def U6:Nat->D->D->Option Bool
 |0=>λ_ _=>aB
 |n+1=>Hv (Wo n) (U6 n)
noncomputable def isT:Option Bool->Bool
 |some aC=>aC
 |_=>aD
noncomputable abbrev eJ(f:D->D->Option Bool)(xs ys:List D)(j:Nat):Bool:=isT (f (xs.getD j .non) (ys.getD j .non))
theorem E4{fin:Bool}{e l:Nat->Bool}:∀(k i:Nat),Uq fin e l k (i+1)=Uq fin (λj=>e (j+1)) (λj=>l (j+1)) k i
 |0,_=>rfl
 |k+1,i=>by
  show(if e (i+1)=aC then Uq fin e l k (i+1+1)else l (i+1))=(if e (i+1)=aC then _ else _)
  rw[E4 k (i+1)]
theorem Le{eq lt:D->D->Option Bool}:∀{xs ys:List D} {b:Bool},Mg eq lt xs ys=aA b->
  Uq (decide (xs.length<ys.length)) (eJ eq xs ys) (eJ lt xs ys) (min xs.length ys.length) 0=b/\
  ∀j,j<xs.length->j<ys.length->(∀i,i<j->eJ eq xs ys i=aC)->eq (xs.getD j .non) (ys.getD j .non)=aA (eJ eq xs ys j)/\(eJ eq xs ys j=aD->lt (xs.getD j .non) (ys.getD j .non)=aA (eJ lt xs ys j))
 | [],ys,b,h=>by
  refine⟨?_,λj hj=>absurd hj (dz _)⟩;obtain rfl:(!ys.isEmpty)=b:=by simpa using h
  cases ys<;> simp[Uq]
 |x::xs,[],b,h=>by
  refine⟨?_,λj _ hj=>absurd hj (dz _)⟩;obtain rfl:aD=b:=by simpa using h
  simp[Uq]
 |x::xs,y::ys,b,h=>by
  have h:(eq x y).bind (λb=>if b=aC then Mg eq lt xs ys else lt x y)=aA b:=h;obtain⟨c,hc,h2⟩:=aa.mp h;have e0:eJ eq (x::xs) (y::ys) 0=c:=by show isT (eq x y)=c;rw[hc];cases c<;> rfl
  have hm:min (x::xs).length (y::ys).length=min xs.length ys.length+1:=by simp only[bc];omega
  have hfin:decide ((x::xs).length<(y::ys).length)=decide (xs.length<ys.length):=by simp
  rw[hm,hfin];cases c with
  |false=>
   have h2:lt x y=aA b:=by simpa using h2
   refine⟨?_,λj hj1 hj2 hp=>?_⟩
   ·show(if eJ eq (x::xs) (y::ys) 0=aC then _ else eJ lt (x::xs) (y::ys) 0)=b;rw[e0,if_neg (by simp)];show isT (lt x y)=b;rw[h2];cases b<;> rfl
   ·cases j with
    |zero=>refine⟨by rw[e0];exact hc,λ_=>?_⟩;show lt x y=aA (isT (lt x y));rw[h2];cases b<;> rfl
    |succ j=>have:=hp 0 (Nat.succ_pos _);rw[e0]at this;cases this
  |true=>
   have h2:Mg eq lt xs ys=aA b:=by simpa using h2
   obtain⟨i1,i2⟩:=Le h2;refine⟨?_,λj hj1 hj2 hp=>?_⟩
   ·show(if eJ eq (x::xs) (y::ys) 0=aC then Uq _ _ _ _ (0+1)else eJ lt (x::xs) (y::ys) 0)=b;rw[e0,if_pos rfl,E4];exact i1
   ·cases j with
    |zero=>refine⟨by rw[e0];exact hc,λz=>?_⟩;rw[e0]at z;cases z
    |succ j=>exact i2 j (by simpa using hj1) (by simpa using hj2) λi hi=>hp (i+1) (by omega)
theorem Reps.getD{F:Hp}:∀{ds:List D} {vs:List V} {its:List aj},Reps K F ds vs->Z3 vs its->∀(j:Nat) (hj:j<its.length),∃v,Rep K F (ds.getD j .non) v/\Zz v its[j]/\j<ds.length
 |_,_,_,.nil,.nil,j,hj=>absurd hj (dz _)
 |_,_,_,.cons h t,.cons q qs,0,_=>⟨_,h,q,Nat.succ_pos _⟩
 |_,_,_,.cons h t,.cons q qs,j+1,hj=>by obtain⟨v,a,b,c⟩:=Reps.getD t qs j (Nat.lt_of_succ_lt_succ hj);exact⟨v,a,b,Nat.succ_lt_succ c⟩
theorem Reps.lenV{F:Hp}:∀{ds:List D} {vs:List V} {its:List aj},Reps K F ds vs->Z3 vs its->ds.length=its.length
 |_,_,_,.nil,.nil=>rfl
 |_,_,_,.cons h t,.cons q qs=>congrArg (· +1) (Reps.lenV t qs)
section
variable{X:Cx}{pins:List (au×Obj)}{σ:L2.St}{F H:Hp}{s:aq}
theorem U9(I:Inv X pins σ H s)(le:Zl F H){a:au}{vs:List V}(h:U0 X.K F a vs):∃its:List aj,Z3 vs its/\s.heap.IsList a its.toArray:=by obtain⟨its,rv,⟨o,n,ho,hcl,_,hd⟩,_⟩:=I.list (Wb le h);exact⟨its,rv,o,ho,hcl,n,hd⟩
theorem Jk(I:Inv X pins σ H s)(le:Zl F H){a:au}{vs:List V}(h:F a=aA (.tup vs)):∃its:List aj,Z3 vs its/\s.heap.IsTuple a its.toArray:=by obtain⟨_,its,rv,p⟩:=I.hok a _ (le _ _ h);obtain⟨o,ho,hc,n,hd⟩:=p;exact⟨its,rv,o,ho,hc,n,hd⟩
theorem E5(I:Inv X pins σ H s)(le:Zl F H){n:Nat}{A:di}(hu:A.units+n<fg)(ih:∀(d1 d2:D) (b:Bool) (x y:V) (v u:aj),Rep X.K F d1 x->Zz x v->Rep X.K F d2 y->Zz y u->U6 n d1 d2=aA b->O7 A s v u b)
  {ds es:List D} {vs ws:List V} {its jts:List aj} (r1:Reps X.K F ds vs) (rv1:Z3 vs its) (r2:Reps X.K F es ws) (rv2:Z3 ws jts) {b:Bool} (h:Mg (Wo n) (U6 n) ds es=aA b):
  Uq (decide (its.toArray.size<jts.toArray.size)) (eJ (Wo n) ds es) (eJ (U6 n) ds es) (min its.toArray.size jts.toArray.size) 0=b/\
  (∀j (h1:j<its.toArray.size) (h2:j<jts.toArray.size),(∀i,i<j->eJ (Wo n) ds es i=aC)->EqAt A s its.toArray[j] jts.toArray[j] (eJ (Wo n) ds es j))/\
  (∀j (h1:j<its.toArray.size) (h2:j<jts.toArray.size),(∀i,i<j->eJ (Wo n) ds es i=aC)->eJ (Wo n) ds es j=aD->O7 A s its.toArray[j] jts.toArray[j] (eJ (U6 n) ds es j)):=by
 obtain⟨a,c⟩:=Le h;rw[Reps.lenV r1 rv1,Reps.lenV r2 rv2]at a;refine⟨by simpa using a,λj h1 h2 hp=>?_,λj h1 h2 hp hf=>?_⟩
 ·have h1':j<its.length:=by simpa using h1
  have h2':j<jts.length:=by simpa using h2
  obtain⟨v,p1,p2,p3⟩:=Reps.getD r1 rv1 j h1';obtain⟨w,q1,q2,q3⟩:=Reps.getD r2 rv2 j h2';exact M6 I le n A _ _ _ _ _ _ _ hu p1 (by simpa using p2) q1 (by simpa using q2) (c j p3 q3 hp).1
 ·have h1':j<its.length:=by simpa using h1
  have h2':j<jts.length:=by simpa using h2
  obtain⟨v,p1,p2,p3⟩:=Reps.getD r1 rv1 j h1';obtain⟨w,q1,q2,q3⟩:=Reps.getD r2 rv2 j h2';exact ih _ _ _ _ _ _ _ p1 (by simpa using p2) q1 (by simpa using q2) ((c j p3 q3 hp).2 hf)
theorem Hw(I:Inv X pins σ H s)(le:Zl F H):∀(n:Nat) (A:di) (d1 d2:D) (b:Bool) (x y:V) (v u:aj),A.units+n<fg->Rep X.K F d1 x->Zz x v->Rep X.K F d2 y->Zz y u->U6 n d1 d2=aA b->O7 A s v u b
 |0,_,_,_,_,_,_,_,_,_,_,_,_,_,e=>by cases e
 |n+1,A,d1,d2,b,x,y,v,u,hu,r1,v1,r2,v2,e=>by
  have e:Hv (Wo n) (U6 n) d1 d2=aA b:=e;have hi:A.in1.units+n<cLine:=by have:A.in1.units=A.units+1:=rfl;omega
  have ih:=λ(d1 d2:D) (b:Bool) (x y:V) (v u:aj)=>Hw I le n A.in1 d1 d2 b x y v u hi;cases r1 with
  |int i=>cases r2 with
   |int j=>
    obtain⟨t1,rfl⟩:=v1;obtain⟨t2,rfl⟩:=v2;obtain rfl:decide (i<j)=b:=by simpa using e
    exact O7.int i t1 j t2
   |_=>cases e
  |str i=>cases r2 with
   |str j=>
    obtain⟨t1,rfl⟩:=v1;obtain⟨t2,rfl⟩:=v2;obtain rfl:decide (i.cps.toList<j.cps.toList)=b:=by simpa using e
    exact O7.str i t1 j t2
   |_=>cases e
  |lst h _ r=>cases r2 with
   |lst h' _ r'=>cases v1;cases v2;obtain⟨its,rv,hl⟩:=U9 I le h;obtain⟨jts,rv',hl'⟩:=U9 I le h';obtain⟨a,c,d⟩:=E5 I le hi ih r rv r' rv' e;rw[<-a];exact O7.lists hl hl' (by omega) c d
   |_=>cases e
  |tup h r=>cases r2 with
   |tup h' r'=>cases v1;cases v2;obtain⟨its,rv,hl⟩:=Jk I le h;obtain⟨jts,rv',hl'⟩:=Jk I le h';obtain⟨a,c,d⟩:=E5 I le hi ih r rv r' rv' e;rw[<-a];exact O7.tuples hl hl' (by omega) c d
   |_=>cases e
  |_=>cases e
theorem Zod(I:Inv X pins σ H s)(le:Zl F H){n:Nat}{A:di}{d1 d2:D}{b:Bool}{x y:V}{v u:aj}(hu:A.units+(n+1)<fg)(r1:Rep X.K F d1 x)(v1:Zz x v)(r2:Rep X.K F d2 y)(v2:Zz y u)
  (e:U6 (n+1) d1 d2=aA b) (hn:∀xs,d1≠.tup xs):Ra A s v u b:=by
 have e:Hv (Wo n) (U6 n) d1 d2=aA b:=e;have hi:A.in1.units+n<cLine:=by have:A.in1.units=A.units+1:=rfl;omega
 have ih:=λ(d1 d2:D) (b:Bool) (x y:V) (v u:aj)=>Hw I le n A.in1 d1 d2 b x y v u hi;cases r1 with
 |int i=>cases r2 with
  |int j=>
   obtain⟨t1,rfl⟩:=v1;obtain⟨t2,rfl⟩:=v2;obtain rfl:decide (i<j)=b:=by simpa using e
   exact Ra.int i t1 j t2
  |_=>cases e
 |str i=>cases r2 with
  |str j=>
   obtain⟨t1,rfl⟩:=v1;obtain⟨t2,rfl⟩:=v2;obtain rfl:decide (i.cps.toList<j.cps.toList)=b:=by simpa using e
   exact Ra.str i t1 j t2
  |_=>cases e
 |lst h _ r=>cases r2 with
  |lst h' _ r'=>cases v1;cases v2;obtain⟨its,rv,hl⟩:=U9 I le h;obtain⟨jts,rv',hl'⟩:=U9 I le h';obtain⟨a,c,d⟩:=E5 I le hi ih r rv r' rv' e;rw[<-a];exact Ra.lists hl hl' (by omega) c d
  |_=>cases e
 |tup h r=>exact absurd rfl (hn _)
 |_=>cases e
end
end TX
namespace TX
open PySem PySem.Spec PyProof.Rows L2 DL
open PySem.W (kas_sort kas_ask kas_item kat_run kat_snds)
section
variable{X:Cx}{pins:List (au×Obj)}{σ:L2.St}{H:Hp}{s:aq}{E:aj->aq->Prop}
theorem Zau{D:au}{o:Obj}{xs ys:Array aj}{n t':Nat}{g:Array aj->Array aj}(I:Inv X pins σ H s)(fD:Bd X pins H D):Inv X pins σ H {s with heap:=s.heap.update D (dm g),toks:=t'}:=
 I.turned (λb o hb e=>by rw[Heap.get?_update_ne _ _ _ _ hb];exact e) fD.1 fD.2.1 fD.2.2.2.1 fD.2.2.2.2.1 fD.2.2.2.2.2
noncomputable def KS(X:Cx)(pins:List (au×Obj))(σ:L2.St)(H0:Hp)(f:au)(fo:Obj)(D kS:au)(e1:Nat)(KeyOk:Nat->V->Hp->Prop)(i:Nat)(s:aq):Prop:=
 ∃H ks kvs e,Zl H0 H/\Inv X pins σ H s/\Bd X pins H D/\Bd X pins H kS/\Bd X pins H f/\s.heap.get? D=aA (d5 "list" #[] e1)/\s.heap.get? kS=aA (d5 "list" (List.toArray ks) e)/\s.heap.get? f=aA fo/\
  Z3 kvs ks/\ks.length=i/\∀j kv,kvs[j]? =aA kv->KeyOk j kv H
end
end TX
namespace TX
open PySem PySem.Spec PyProof.Rows L2 DL
open PySem.W (kas_sort kas_ask kas_item kat_run kat_snds)
section
variable{X:Cx}{pins:List (au×Obj)}{σ:L2.St}{H:Hp}{s:aq}{E:aj->aq->Prop}{its:List aj}{f D kS:au}{fo:Obj}{e1:Nat}{KeyOk:Nat->V->Hp->Prop}{A:di}{P:PySem.Fin->aq->Prop}
variable{O:KeyOrd}{key:Nat->O.α}
noncomputable def Cmp(X:Cx)(pins:List (au×Obj))(σ:L2.St)(H0:Hp)(A:di)(KeyOk:Nat->V->Hp->Prop)(O:KeyOrd)(key:Nat->O.α)(n:Nat):Prop:=
 ∀H2 s2 ks kvs,Zl H0 H2->Inv X pins σ H2 s2->Z3 kvs ks->ks.length=n->(∀j kv,kvs[j]? =aA kv->KeyOk j kv H2)->2<=n->
  ∃κ,(∀Q:SortKind->aq->Prop,Q κ s2->bd (bz X.prog X.w) A (keyKind' (List.toArray ks)) Q (λ_ _=>False) s2)/\
   ∀i j (Q:Bool->aq->Prop),i<n->j<n->Q (O.blt (key i) (key j)) s2->bd (bz X.prog X.w) A (keyLt' κ (ks.getD i .none) (ks.getD j .none)) Q (λ_ _=>False) s2
end
end TX
namespace TX
open PySem PySem.Spec PySem.Calls PyProof.Rows L2 DL
end TX
namespace TX
open PySem PySem.Spec PySem.Calls PyProof.Rows L2 DL
open PySem.W (KatLex kat_lt kat_kind KatTups kat_one kat_nil kat_cons kat_yes kat_no)
section
variable{X:Cx}{pins:List (au×Obj)}{σ:L2.St}{F H:Hp}{s:aq}
theorem Zgh(I:Inv X pins σ H s)(le:Zl F H){n:Nat}{A:di}(hu:A.units+(n+1)<fg){Q:Bool->aq->Prop}{fin:Bool}:∀{ds es:List D} {vs ws:List V} {its jts:List aj} {b:Bool} (i:Nat),
  Reps X.K F ds vs->Z3 vs its->Reps X.K F es ws->Z3 ws jts->(i=0->∀d,ds.head? =aA d->∀xs,d≠.tup xs)->Mg (Wo (n+1)) (U6 (n+1)) ds es=aA b->(its.length=jts.length->fin=aD)->(its.length<jts.length->fin=aC)->(jts.length<its.length->fin=aD)->Q b s->
  KatLex X.prog X.w A aC fin Q (its.zip jts) i s
 |_,_,_,_,_,_,b,i,.nil,.nil,.nil,.nil,_,e,f1,_,_,q=>by
  obtain rfl:aD=b:=by simpa using e
  show Q fin s;rw[f1 rfl];exact q
 |_,_,_,_,_,_,b,i,.nil,.nil,.cons _ _,.cons _ _,_,e,_,f2,_,q=>by
  obtain rfl:aC=b:=by simpa using e
  show Q fin s;rw[f2 (by simp)];exact q
 |_,_,_,_,_,_,b,i,.cons _ _,.cons _ _,.nil,.nil,_,e,_,_,f3,q=>by
  obtain rfl:aD=b:=by simpa using e
  show Q fin s;rw[f3 (by simp)];exact q
 |d::ds,d'::es,_,_,_,_,b,i,.cons h t,.cons r rs,.cons h' t',.cons r' rs',hd,e,f1,f2,f3,q=>by
  have e:(Wo (n+1) d d').bind (λb=>if b=aC then Mg (Wo (n+1)) (U6 (n+1)) ds es else U6 (n+1) d d')=aA b:=e;obtain⟨c,hc,e2⟩:=aa.mp e;refine kat_cons (M6 I le (n+1) A _ _ _ _ _ _ _ (by omega) h r h' r' hc X.prog X.w _ _ ?_);cases c with
  |true=>
   have e2:Mg (Wo (n+1)) (U6 (n+1)) ds es=aA b:=by simpa using e2
   exact kat_yes (Zgh I le hu (i+1) t rs t' rs' (λz=>absurd z (Nat.succ_ne_zero i)) e2 (λz=>f1 (by simp[z])) (λz=>f2 (by simpa using z)) (λz=>f3 (by simpa using z)) q)
  |false=>
   have e2:U6 (n+1) d d'=aA b:=by simpa using e2
   refine kat_no ?_;cases i with
   |zero=>exact Zod I le hu h r h' r' e2 (hd rfl d rfl) X.prog X.w _ _ q
   |succ i=>
    have:(aC&&(i+1==0))=aD:=by simp
    rw[this];refine kat_one _ _ (Hw I le (n+1) A _ _ _ _ _ _ _ (by omega) h r h' r' e2 X.prog X.w _ _ ?_);exact q
inductive KK where
 |lst|str|int
inductive IsKey:KK->D->Prop where
 |lst (xs:List D) (r:List D):IsKey .lst (.tup (.lst xs::r))
 |str (x:Str) (r:List D):IsKey .str (.tup (.str x::r))
 |int (i:Int) (r:List D):IsKey .int (.tup (.int i::r))
theorem IsKey.shape{b:KK}{d:D}(h:IsKey b d):∃e r,d= .tup (e::r)/\∀xs,e≠.tup xs:=by
 cases h with
 |lst xs r=>exact⟨_,r,rfl,λ_ z=>by cases z⟩
 |str x r=>exact⟨_,r,rfl,λ_ z=>by cases z⟩
 |int x r=>exact⟨_,r,rfl,λ_ z=>by cases z⟩
noncomputable def kT:KK->String
 | .lst=>"list"
 | .str=>"str"
 | .int=>"int"
theorem Zoe(I:Inv X pins σ H s)(le:Zl F H){n:Nat}{A:di}(hu:A.units+(n+2)<fg){d1 d2:D}{x y:V}{v u:aj}{b:Bool}{k:KK}{E:aj->aq->Prop}{Q:Bool->aq->Prop}(k1:IsKey k d1)(k2:IsKey k d2)
  (r1:Rep X.K F d1 x) (v1:Zz x v) (r2:Rep X.K F d2 y) (v2:Zz y u) (e:U6 (n+2) d1 d2=aA b) (q:Q b s):bd (bz X.prog X.w) A (keyLt' (tuples' aC) v u) Q E s:=by
 obtain⟨e1,rs1,rfl,hn1⟩:=k1.shape;obtain⟨e2,rs2,rfl,_⟩:=k2.shape;cases r1 with
 |tup h1 p1=>cases r2 with
  |tup h2 p2=>
   cases v1;cases v2;obtain⟨its,rv,o,ho,hc,m,hd⟩:=Jk I le h1;obtain⟨jts,rw',o',ho',hc',m',hd'⟩:=Jk I le h2;have e:Mg (Wo (n+1)) (U6 (n+1)) (e1::rs1) (e2::rs2)=aA b:=e;refine kat_lt ho hd ho' hd' ?_;refine Zgh I le (by omega) 0 p1 rv p2 rw' (λ_ d z xs=>?_) e (λz=>?_) (λz=>?_) (λz=>?_) q
   ·obtain rfl:e1=d:=by simpa using z
    exact hn1 xs
   ·simp[z]
   ·simpa using z
   ·have z:jts.length<its.length:=by simpa using z
    simp;omega
theorem Lf(I:Inv X pins σ H s)(le:Zl F H){k:KK}:∀{ds:List D} {vs:List V} {its:List aj},(∀d∈ds,IsKey k d)->Reps X.K F ds vs->Z3 vs its->∃fs,KatTups s.heap its fs/\fs.length=its.length/\∀v∈fs,PySem.W.Looks (bz X.prog X.w) s.heap (typeOf v) (.type (kT k))
 |_,_,_,_,.nil,.nil=>⟨[],trivial,rfl,λ_ z=>nomatch z⟩
 |d::ds,_,_,hk,.cons h t,.cons r rs=>by
  obtain⟨fs,a,b,c⟩:=Lf I le (λd z=>hk d (am _ z)) t rs;cases hk d ad with
  |lst xs rr=>cases h with
   |tup h1 p1=>
    cases r;obtain⟨its,rv,o,ho,hc,m,hd⟩:=Jk I le h1;cases p1 with
    |cons q1 q2=>cases rv with
     |cons w1 w2=>cases q1 with
      |lst g1 _ g2=>
       cases w1;obtain⟨jts,_,o2,ho2,hc2,_⟩:=U9 I le g1;refine⟨_::fs,KatTups.cons ho hc hd rfl a,by simp[b],λv z=>?_⟩;rcases bo.mp z with z|z
       ·subst z;exact λA Q E s' k q=>wpAny_typeOf (T:="list") ⟨o2,k _ _ ho2,hc2⟩ q
       ·exact c v z
  |str x rr=>cases h with
   |tup h1 p1=>
    cases r;obtain⟨its,rv,o,ho,hc,m,hd⟩:=Jk I le h1;cases p1 with
    |cons q1 q2=>cases rv with
     |cons w1 w2=>cases q1 with
      |str y=>
       obtain⟨tk,rfl⟩:=w1;refine⟨_::fs,KatTups.cons ho hc hd rfl a,by simp[b],λv z=>?_⟩;rcases bo.mp z with z|z
       ·subst z;exact λA Q E s' k q=>wpAny_typeOf (T:="str") (typeIs_str s' x tk) q
       ·exact c v z
  |int x rr=>cases h with
   |tup h1 p1=>
    cases r;obtain⟨its,rv,o,ho,hc,m,hd⟩:=Jk I le h1;cases p1 with
    |cons q1 q2=>cases rv with
     |cons w1 w2=>cases q1 with
      |int y=>
       obtain⟨tk,rfl⟩:=w1;refine⟨_::fs,KatTups.cons ho hc hd rfl a,by simp[b],λv z=>?_⟩;rcases bo.mp z with z|z
       ·subst z;exact λA Q E s' k q=>wpAny_typeOf (T:="int") (typeIs_int s' x tk) q
       ·exact c v z
theorem Zgi(I:Inv X pins σ H s)(le:Zl F H){A:di}{E:aj->aq->Prop}{k:KK}{ds:List D}{vs:List V}{its:List aj}(hk:∀d∈ds,IsKey k d)(r:Reps X.K F ds vs)(rv:Z3 vs its)(h2:0<its.length){Q:SortKind->aq->Prop}(q:Q (tuples' aC) s):
  bd (bz X.prog X.w) A (keyKind' (List.toArray its)) Q E s:=by
 obtain⟨fs,a,b,c⟩:=Lf I le hk r rv;refine kat_kind (T:=.type (kT k)) a (by omega) c (by cases k<;> decide) ?_;cases k<;> exact q
end
end TX
namespace TX
open PySem PySem.Spec PySem.Calls PyProof.Rows L2 DL
structure KeysOk(ks:List D):Prop where
 key:∃k,∀d∈ks,IsKey k d
 ord:∃enc:D->List Nat,(∀a∈ks,∀b∈ks,U6 16 a b=aA (decide (enc a<enc b)))/\∀i j:Nat,i<ks.length->j<ks.length->enc (ks.getD i .non)=enc (ks.getD j .non)->i=j
noncomputable def Mh(ks:List D)(p:List Nat):Prop:=p.Perm (cz ks.length)/\p.Pairwise λi j=>U6 16 (ks.getD j .non) (ks.getD i .non)=aA aD
theorem E6{ks:List D}(h:KeysOk ks){p q:List Nat}(hp:Mh ks p)(hq:Mh ks q):p=q:=by
 obtain⟨enc,he,hd⟩:=h.ord;have get:∀i,i<ks.length->ks.getD i .non∈ks:=λi hi=>by rw[bg,aw hi];exact List.getElem_mem hi
 have mp:∀i∈p,i<ks.length:=λi hi=>cn.mp (hp.1.mem_iff.mp hi);have mq:∀i∈q,i<ks.length:=λi hi=>cn.mp (hq.1.mem_iff.mp hi);refine List.Perm.eq_of_pairwise (le:=λi j=>U6 16 (ks.getD j .non) (ks.getD i .non)=aA aD) (λa b ha hb h1 h2=>?_) hp.2 hq.2 (hp.1.trans hq.1.symm);rw[he _ (get _ (mq b hb)) _ (get _ (mp a ha))]at h1;rw[he _ (get _ (mp a ha)) _ (get _ (mq b hb))]at h2;have h1:¬enc (ks.getD b .non)<enc (ks.getD a .non):=by simpa using h1
 have h2:¬enc (ks.getD a .non)<enc (ks.getD b .non):=by simpa using h2
 exact hd a b (mp a ha) (mq b hb) (List.le_antisymm (dg.mp h1) (dg.mp h2))
theorem B3{ks:List D}(h:KeysOk ks):∃p,Mh ks p:=by
 obtain⟨enc,he,hd⟩:=h.ord;have get:∀i,i<ks.length->ks.getD i .non∈ks:=λi hi=>by rw[bg,aw hi];exact List.getElem_mem hi
 refine⟨(cz ks.length).mergeSort λi j=>decide (¬enc (ks.getD j .non)<enc (ks.getD i .non)),List.mergeSort_perm _ _,?_⟩;have pw:=List.pairwise_mergeSort (le:=λi j:Nat=>decide (¬enc (ks.getD j .non)<enc (ks.getD i .non)))
  (λa b c h1 h2=>by
   simp only[decide_eq_true_eq]at*;exact dg.mpr (List.le_trans (dg.mp h1) (dg.mp h2)))
  (λa b=>by
   simp only[Bool.or_eq_true,decide_eq_true_eq];rcases List.le_total (enc (ks.getD a .non)) (enc (ks.getD b .non))with z|z
   ·exact .inl (dg.mpr z)
   ·exact .inr (dg.mpr z)) (cz ks.length)
 refine(List.Pairwise.imp_of_mem ?_ pw);intro i j hi hj z;have hi:i<ks.length:=cn.mp ((List.mergeSort_perm _ _).mem_iff.mp hi);have hj:j<ks.length:=cn.mp ((List.mergeSort_perm _ _).mem_iff.mp hj);rw[he _ (get j hj) _ (get i hi)];simpa using z
open Classical in
noncomputable def G2(ks xs:List D):Option SV:=
 if h:ks.length=xs.length/\xs.length<64/\KeysOk ks then aA (.ol ((Classical.choose (B3 h.2.2)).map λi=>xs.getD i .non))else aB
theorem Zav{ks xs:List D}{sv:SV}(e:G2 ks xs=aA sv):ks.length=xs.length/\xs.length<64/\KeysOk ks/\∃p,Mh ks p/\sv= .ol (p.map λi=>xs.getD i .non):=by
 unfold G2 at e;split at e
 ·rename_i h;cases e;exact⟨h.1,h.2.1,h.2.2,_,Classical.choose_spec (B3 h.2.2),rfl⟩
 ·cases e
theorem Zj6{ks xs:List D}(h1:ks.length=xs.length)(h2:xs.length<64)(h3:KeysOk ks):∃p,Mh ks p/\G2 ks xs=aA (.ol (p.map λi=>xs.getD i .non)):=by refine⟨_,Classical.choose_spec (B3 h3),?_⟩;unfold G2;rw[dif_pos ⟨h1,h2,h3⟩]
section
variable{K:ah}{Z:Ent K}{H:Hp}{σ:L2.St}
theorem Reps.len2{F:Hp}:∀{ds:List D} {vs:List V},Reps K F ds vs->ds.length=vs.length
 |_,_,.nil=>rfl
 |_,_,.cons _ t=>congrArg (· +1) (Reps.len2 t)
end
end TX
namespace TX
open PySem PySem.Spec PySem.Calls PyProof.Rows L2 DL
open PySem.W (CodeHd kla_fn kla_obj)
section
variable{X:Cx}{pins:List (au×Obj)}{σ:L2.St}{H:Hp}{s:aq}
theorem Zaw{K:ah}{F:Hp}:∀{ks:List D} {kvs:List V},kvs.length=ks.length->(∀(j:Nat) kv,kvs[j]? =aA kv->Rep K F (ks.getD j .non) kv)->Reps K F ks kvs
 | [],[],_,_=>.nil
 |k::ks,v::kvs,hl,h=>.cons (h 0 v rfl) (Zaw (by simpa using hl) λj kv e=>h (j+1) kv (by simpa using e))
theorem Lg:∀{ws:List V} {its:List aj},Z3 ws its->∀{p:List Nat},(∀i∈p,i<its.length)->Z3 (p.map λi=>ws.getD i .non) (p.map λi=>its.getD i ci):=by
 intro ws its h p hp;have at':∀{ws:List V} {its:List aj},Z3 ws its->∀i,i<its.length->Zz (ws.getD i .non) (its.getD i ci):=by
  intro ws its h;induction h with
  |nil=>intro i hi;simp at hi
  |cons r t ih=>intro i hi;cases i with
   |zero=>exact r
   |succ i=>exact ih i (by simpa using hi)
 induction p with
 |nil=>exact .nil
 |cons i r ih=>exact .cons (at' h i (hp i ad)) (ih λj hj=>hp j (am _ hj))
theorem Ak{K:ah}{F:Hp}:∀{xs:List D} {ws:List V},Reps K F xs ws->∀(i:Nat),i<xs.length->Rep K F (xs.getD i .non) (ws.getD i .non)
 |_,_,.nil,i,hi=>absurd hi (dz _)
 |_,_,.cons h t,0,_=>h
 |_,_,.cons h t,i+1,hi=>Ak t i (Nat.lt_of_succ_lt_succ hi)
theorem Tg{K:ah}{F:Hp}{xs:List D}{ws:List V}(h:Reps K F xs ws):∀{p:List Nat},(∀i∈p,i<xs.length)->Reps K F (p.map λi=>xs.getD i .non) (p.map λi=>ws.getD i .non)
 | [],_=>.nil
 |i::r,hp=>.cons (Ak h i (hp i ad)) (Tg h λj hj=>hp j (am _ hj))
noncomputable abbrev Vp(enc:D->List Nat)(ks:List D)(i:Nat):strKind.toKeyOrd.α:=enc (ks.getD i .non)
theorem Hx{ks:List D}{enc:D->List Nat}{A:di}{kb:KK}(hu:A.units+16<fg)(hk:∀d∈ks,IsKey kb d)(he:∀a∈ks,∀b∈ks,U6 16 a b=aA (decide (enc a<enc b))){n:Nat}(hn:ks.length=n):
  Cmp X pins σ H A (λj kv H=>Rep X.K H (ks.getD j .non) kv) strKind.toKeyOrd (Vp enc ks) n:=by
 intro H2 s2 ksV kvs sm I2 rv hl hkv h2;have hlk:kvs.length=ks.length:=by have:=rv.length;omega
 have rr:=Zaw hlk hkv;have get:∀i,i<ks.length->ks.getD i .non∈ks:=λi hi=>by rw[bg,aw hi];exact List.getElem_mem hi
 refine⟨tuples' aC,λQ q=>Zgi I2 (Zl.refl H2) hk rr rv (by omega) q,λi j Q hi hj q=>?_⟩;obtain⟨v,a1,a2,a3⟩:=Reps.getD rr rv i (by omega);obtain⟨w,b1,b2,b3⟩:=Reps.getD rr rv j (by omega);have e1:ksV.getD i ci=ksV[i]:=by simp[bg,aw (show i<ksV.length by omega)]
 have e2:ksV.getD j ci=ksV[j]:=by simp[bg,aw (show j<ksV.length by omega)]
 rw[e1,e2];exact Zoe I2 (Zl.refl H2) (n:=14) hu (hk _ (get i a3)) (hk _ (get j b3)) a1 a2 b1 b2 (he _ (get i a3) _ (get j b3)) q
theorem Hy{ks:List D}{enc:D->List Nat}(he:∀a∈ks,∀b∈ks,U6 16 a b=aA (decide (enc a<enc b))){p:Array Nat}{n:Nat}(hn:ks.length=n)(hp:Pm n p)(hs:Pj (O:=strKind.toKeyOrd) (Vp enc ks) p n):Mh ks p.toList:=by
 subst hn;have pt:p.toList.Perm (cz ks.length):=Array.perm_iff_toList_perm.mp hp;have get:∀i,i<ks.length->ks.getD i .non∈ks:=λi hi=>by rw[bg,aw hi];exact List.getElem_mem hi
 refine⟨pt,List.pairwise_iff_getElem.mpr λi j hi hj hij=>?_⟩;have hj':j<ks.length:=by have:=pt.length_eq;rw[List.length_range]at this;omega
 have mi:p.toList[i]<ks.length:=cn.mp (pt.mem_iff.mp (List.getElem_mem hi));have mj:p.toList[j]<ks.length:=cn.mp (pt.mem_iff.mp (List.getElem_mem hj));rw[he _ (get _ mj) _ (get _ mi)];have z:=hs i j (Nat.le_of_lt hij) hj';unfold Kp at z;have ei:p.getD i 0=p.toList[i]:=by rw[Array.getD_eq_getD_getElem?];simp at hi⊢;simp[hi]
 have ej:p.getD j 0=p.toList[j]:=by rw[Array.getD_eq_getD_getElem?];simp at hj⊢;simp[hj]
 rw[ei,ej]at z;have z:decide (enc (ks.getD p.toList[j] .non)<enc (ks.getD p.toList[i] .non))=aD:=z;rw[z]
end
end TX
namespace TX
open PySem PySem.Spec PySem.Calls PyProof.Rows L2 DL
open PySem.W (CodeHd tabObj)
end TX
namespace TX
open PySem PySem.Spec PySem.Calls PyProof.Rows L2 DL
end TX
namespace L2
open PySem PySem.Spec PySem.Calls PyProof.Rows TX
end L2
namespace DL
open PySem PySem.Spec PySem.Calls PyProof.Rows L2 TX
variable{K:ah}
end DL
namespace TX
open PySem PySem.Spec PySem.Calls PyProof.Rows L2 DL
open PySem.W (CodeHd tabObj)
end TX
namespace DL
open PySem PySem.Spec PySem.Calls PyProof.Rows L2 TX
end DL
namespace DL
open PySem PySem.Spec PySem.Calls PyProof.Rows L2
end DL
namespace TX
open PySem PySem.Spec PySem.Calls PyProof.Rows L2 DL
open PySem.W (kas_sort kas_ask kas_item kat_run kat_snds)
section
variable{X:Cx}{pins:List (au×Obj)}{σ:L2.St}{H:Hp}{s:aq}{E:aj->aq->Prop}{its:List aj}{l:au}{KeyOk:Nat->V->Hp->Prop}{Q:aj->aq->Prop}{O:KeyOrd}{key:Nat->O.α}{kvs:List V}
theorem Hz(I:Inv X pins σ H s)(hl:s.heap.IsList l its.toArray)(h64:its.length<64)(rv:Z3 kvs its)(hk:∀j kv,kvs[j]? =aA kv->KeyOk j kv H)(hc:Cmp X pins σ H X.A.in1.in1 KeyOk O key its.length)
  (hQ:∀p D s' c,Pm its.length p->Pj key p its.length->X.s₀.heap.get? D=aB->Inv X pins σ H s'->Bd X pins H D->s'.heap.get? D=aA (d5 "list" (List.toArray (p.toList.map λi=>its.getD i ci)) c)->Q (.ref D) s'):
  bd (bz X.prog X.w) X.A (call (.builtin "sorted") [.ref l]) Q E s:=by
 refine Calls.call_function_entry kind_sorted plain_sorted entry_sorted (args_sorted1 _) ?_;unfold Builtin.«sorted»;refine ab (m:=checkCount "sorted" 1 1 _) (af ?_);refine ab (collect_list hl ?_ (by rw[ff];omega));refine ab (wpAny_newList ?_ (by rw[ff];omega));have hsz:((s.heap.push (d5 "list" #[] 0)).update s.heap.objs.size (dm (· ++its.toArray))).objs.size=s.heap.objs.size+1:=by rw[Heap.size_update,size_push']
 have hoL:(((s.heap.push (d5 "list" #[] 0)).update s.heap.objs.size (dm (· ++its.toArray))).push (d5 "list" its.toArray 0)).get? (s.heap.objs.size+1)=aA (d5 "list" its.toArray 0):=by rw[<-hsz];exact a9 _ rfl
 have keep:∀b o,s.heap.get? b=aA o->(((s.heap.push (d5 "list" #[] 0)).update s.heap.objs.size (dm (· ++its.toArray))).push (d5 "list" its.toArray 0)).get? b=aA o:=λb o q=>by have hlt:b<s.heap.objs.size:=bf q;rw[Heap.get?_push_ne _ _ _ (by rw[hsz];exact b9 (Nat.lt_succ_of_lt hlt)),Heap.get?_update_ne _ _ _ _ (b9 hlt),Heap.get?_push_ne _ _ _ (b9 hlt)];exact q
 show bd _ _ _ _ _ {s with heap:=((s.heap.push (d5 "list" #[] 0)).update s.heap.objs.size (dm (· ++its.toArray))).push (d5 "list" its.toArray 0)};rw[hsz];refine ab (wpAny_holding (de slot_list_sort ⟨_,hoL,rfl⟩ entry_list_sort ?body (args_list_sort _)))
 case body=>
  rw[list_sort_plain];have hs2:(((s.heap.push (d5 "list" #[] 0)).update s.heap.objs.size (dm (· ++its.toArray))).push (d5 "list" its.toArray 0)).objs.size=s.heap.objs.size+2:=by rw[size_push',hsz]
  generalize hh:(((s.heap.push (d5 "list" #[] 0)).update s.heap.objs.size (dm (· ++its.toArray))).push (d5 "list" its.toArray 0))=h1 at hoL keep hs2⊢;generalize hD:s.heap.objs.size+1=D at hoL⊢;have hDn: @Eq Nat D (s.heap.objs.size+1):=hD.symm;obtain⟨e1,ho1⟩:∃e1,(h1.update D (dm λ_=>(#[]:Array aj))).get? D=aA (d5 "list" #[] e1):=⟨_,get?_update_seq hoL λ_=> #[]⟩
  refine ab (listItems_at hoL rfl ?_);refine ab (listUpdate_at hoL rfl ?_ (by rw[bp,ff];omega) (fu _));refine ab (seqEpoch_at ho1 rfl ?_);refine ab (wpAny_newTuple ?_ (by show its.length<=_;rw[ff];omega));refine ab (wpAny_newList ?_ (fu _));refine wpAny_holding ?_;have kp:∀b o,s.heap.get? b=aA o->(((h1.update D (dm λ_=>(#[]:Array aj))).push (d5 "tuple" its.toArray 0)).push (d5 "list" #[] 0)).get? b=aA o:=λb o q=>by have hlt: @LT.lt Nat _ b s.heap.objs.size:=bf q;have:=keep b o q;refine ar _ (ar _ ?_);rw[Heap.get?_update_ne _ _ _ _ (b9 (show @LT.lt Nat _ b D by omega))];exact this
  have nD:H D=aB:=I.hok.fresh (by omega);have fD:Bd X pins H D:=I.fpOk (by omega) nD;have ho6:(((h1.update D (dm λ_=>(#[]:Array aj))).push (d5 "tuple" its.toArray 0)).push (d5 "list" #[] 0)).get? D=aA (d5 "list" #[] e1):=ar _ (ar _ ho1);have I6:Inv X pins σ H {s with heap:=((h1.update D (dm λ_=>(#[]:Array aj))).push (d5 "tuple" its.toArray 0)).push (d5 "list" #[] 0)}:=I.kept kp;show bd (bz X.prog X.w) X.A.in1.in1 _ _ _ {s with heap:=((h1.update D (dm λ_=>(#[]:Array aj))).push (d5 "tuple" its.toArray 0)).push (d5 "list" #[] 0)};have hD0:X.s₀.heap.get? D=aB:=Heap.get?_none_of_le (dk I.sz (by omega));generalize hs6:({s with heap:=((h1.update D (dm λ_=>(#[]:Array aj))).push (d5 "tuple" its.toArray 0)).push (d5 "list" #[] 0)}:aq)=s6 at I6⊢;have ho6:s6.heap.get? D=aA (d5 "list" #[] e1):=by rw[<-hs6];exact ho6
  have fin:∀(p:Array Nat) (out:Array aj),out=List.toArray (p.toList.map λi=>its.getD i ci)->out.size<64->Pm its.length p->Pj key p its.length->
    Q (.ref D) {s6 with heap:=s6.heap.update D (dm λ_=>out)}:=λp out ho hz z1 z2=>by
   subst ho;exact hQ p D _ _ z1 z2 hD0 (Zau (o:=d5 "list" #[] 0) (xs:= #[]) (ys:= #[]) (n:=0) I6 fD) fD (get?_update_seq ho6 λ_=>_)
  try dsimp only
  by_cases h2:its.toArray.size<2
  ·rw[if_pos h2,if_pos h2];have h2':its.length<2:=by simpa using h2
   refine ab (af ?_);rw[StateT.run_pure];refine ab (af ?_)
   try dsimp only
   have eo:(arrOf (SortSt.mk' general' (its.toArray.zip its.toArray) #[] 7 aB)).map (·.2)=List.toArray ((List.toArray (cz its.length)).toList.map λi=>its.getD i ci):=by
    show(its.toArray.zip its.toArray).map (·.2)=_;apply Array.toList_inj.mp;rw[Array.toList_map,ksk_zip];simp only[List.toList_toArray];rw[List.map_snd_zip (by omega)];apply List.ext_getElem
    ·simp
    ·intro i a b;simp[a]
   rw[eo];refine ab (seqEpoch_at ho6 rfl ?_);refine ab (listUpdate_at ho6 rfl ?_ (fu _) (by rw[bp,ff];simp;omega));show bd _ _ (if((e1 !=e1)=aC)then _ else _) _ _ _;simp only[bne_self_eq_false,bm,if_false];refine af ⟨_,rfl,af ⟨_,rfl,fin (List.toArray (cz its.length)) _ rfl (by simp;omega) (Array.Perm.refl _) (λi j hij hj=>?_)⟩⟩;have:i=j:=by omega
   subst this;exact KeyOrd.kle_refl _
  ·rw[if_neg h2,if_neg h2];have h2':2<=its.length:=Nat.le_of_not_lt (by simpa using h2);obtain⟨κ,hκ,hlt⟩:=hc H s6 its kvs (Zl.refl H) I6 rv rfl hk h2';refine ab (wpAny_mono (hκ (λκ' s'=>κ'=κ/\s'=s6) ⟨rfl,rfl⟩) (λκ' s' z=>?_) λ_ _ z=>z.elim);obtain⟨rfl,rfl⟩:=z;have g:=W8.wp (lt:=Fx O key) (n:=its.length) (R:=λq=>Pm its.length q/\Pj key q its.length) (cmp:=kas_ask X.prog X.w X.A.in1.in1 κ' its) (I:=λs''=>s''=s') (Q:=λq s''=>s''=s'/\Pm its.length q/\Pj key q its.length)
    (λi j C s'' hi hj z hC=>by subst z;exact hlt i j C hi hj (hC _ rfl)) (λq s'' z1 z2=>⟨z2,z1⟩) (Lc (key:=key) (by omega)) rfl
   refine ab (wpAny_mono (kat_run (Q:=λst s''=>∃p:Array Nat,s''=s'/\Pm its.length p/\Pj key p its.length/\arrOf st=p.map (kas_item (its.toArray.zip its.toArray))/\failedOf st=aB) rfl h2' h64
    (λp st s'' _ a1 a2 z=>⟨p,z.1,z.2.1,z.2.2,a1,a2⟩) g) (λr s'' z=>?_) λ_ _ z=>z)
   obtain⟨⟨⟩,st⟩:=r;obtain⟨p,rfl,z1,z2,z3,z4⟩:=z
   try dsimp only
   rw[kat_snds rfl z3];refine ab (seqEpoch_at ho6 rfl ?_);refine ab (listUpdate_at ho6 rfl ?_ (fu _) (by rw[bp,ag,a6,z1.size,ff];omega));rw[z4];simp only[bne_self_eq_false,bm,if_false];exact af ⟨_,rfl,af ⟨_,rfl,fin p _ rfl (by rw[bp,ag,a6,z1.size];exact h64) z1 z2⟩⟩
end
end TX
namespace L2
open PySem PySem.Spec PySem.Calls PyProof.Rows DL TX
section
variable{X:Cx}
noncomputable def Zl4(K:ah):List V->Hp->VK->Prop:=λvs H Q=>∃l F ds ws p,vs=[.ref l]/\Zl F H/\U0 K H l ws/\Reps K F ds ws/\KeysOk ds/\Mh ds p/\ws.length<64/\∀q,H q=aB->Q (.ref q) (Y0 H q (.lst (p.map λi=>ws.getD i .non)))
theorem Zcv(hu:X.A.units+64<fg):Q4 X (.builtin "sorted") (Zl4 X.K):=by
 intro pins s σ H xs us Q I r h;obtain⟨l,F,ds,ws,p0,rfl,le,hl,rr,ko,hp0,hz,q⟩:=h;obtain⟨u,rfl,ru⟩:=Ui r;cases ru;obtain⟨its,rvi,⟨o,n,ho,hcl,_,hd⟩,_⟩:=I.list hl;have hlen:ds.length=its.length:=TX.Reps.lenV rr rvi;have wlen:ws.length=its.length:=rvi.length;obtain⟨enc,he,hdis⟩:=id ko.ord;obtain⟨kb,hkb⟩:=id ko.key;have hu2:X.A.in1.in1.units+16<cLine:=by show X.A.units+1+1+16<fg;omega
 refine Hz (KeyOk:=λj kv H=>Rep X.K H (ds.getD j .non) kv) (O:=strKind.toKeyOrd) (key:=Vp enc ds) I ⟨o,ho,hcl,n,hd⟩ (by omega) rvi (λj kv e=>?_) (Hx hu2 hkb he hlen) ?hQ
 ·have hj:j<ws.length:=(ax.mp e).1;have h1:=Ak rr j (by omega);have:ws.getD j .non=kv:=by rw[bg,e];rfl
  rw[this]at h1;exact h1.mono le
 case hQ=>
  intro p D s3 cc hp hs hD0 I3 fD gD;have ep:p.toList=p0:=E6 ko (Hy he hlen hp hs) hp0;rw[ep]at gD;have bnd:∀i∈p0,i<its.length:=λi hi=>by have:=cn.mp (hp0.1.mem_iff.mp hi);omega
  have new:Yb X.prog X.w (Y0 H D (.lst (p0.map λi=>ws.getD i .non))) s3.heap D (.lst (p0.map λi=>ws.getD i .non)):=by refine⟨?_,p0.map λi=>its.getD i ci,cc,Lg rvi bnd,gD⟩;have:=hp0.1.length_eq;rw[List.length_range]at this;rw[ag,this,ff];omega
  exact⟨.ref D,_,Inv.trackO I3 hD0 fD.1 fD.2.1 fD.2.2.2.2.1 fD.2.2.2.2.2 new,rfl,q D fD.1⟩
end
end L2
namespace DL
open PySem PySem.Spec PySem.Calls PyProof.Rows L2 TX
variable{K:ah}
noncomputable def Oa:List D->Option SV
 | [.lst xs]=>G2 xs xs
 |_=>aB
section
variable{Z:Ent K}{H:Hp}{σ:L2.St}{Q:VK}{E:Ends}
theorem Zof:Ot Z (Zl4 K) Oa:=by
 intro F H σ δ own vs ds sv Q s r e k;unfold Oa at e;split at e
 ·rename_i xs;obtain⟨_,hz,ko,p,hp,rfl⟩:=Zav e;cases r with
  |cons h t=>cases t;obtain⟨a,us,rfl,ha,ru⟩:=h.lst s.le;have bnd:∀i∈p,i<xs.length:=λi hi=>cn.mp (hp.1.mem_iff.mp hi);exact⟨a,F,xs,us,p,rfl,s.le,ha,ru,ko,hp,by rw[<-Reps.len2 ru];exact hz,λq hq=>k.lst s (Tg ru bnd) hq⟩
 ·cases e
end
section
variable{X:Cx}{Z:Ent X.K}{a b c:c5}{fa fb fc:FE}{pos:Pos}
theorem Th{p:Pos}(hv:X.A.units+64<fg)(hm:X.mg "sorted"=aB)(ha:PE X a (Ze Z fa))(hg:Gl X "sorted":=by rfl)(he:ba [a] X.env=(aD,gw a X.env)::ba [] X.env:=by rfl)(hpl:(gp pos (ba [] X.env)).any (·.1)=aD:=by rfl):
  PE X (.Call (.Name "sorted" p) [a] [] pos) (Ze Z (Yd Oa (Zc fa Zi))):=Ah (Zcv hv) Zof hm L2.Cz (Zm ha Yn he) hg (by decide) (by decide) he hpl
end
end DL
namespace TX
open PySem PySem.Spec PySem.Calls PyProof.Rows L2 DL
end TX
namespace TX
open PySem PySem.Spec PySem.Calls PyProof.Rows L2 DL
open PySem.W (CodeHd kla_fn kla_obj)
end TX
namespace TX
open PySem PySem.Spec PySem.Calls PyProof.Rows L2 DL
open PySem.W (CodeHd kla_fn kla_obj)
end TX
namespace DL
open PySem PySem.Spec PySem.Calls PyProof.Rows L2 TX
end DL
namespace TX
open PySem PySem.Spec PySem.Calls PyProof.Rows L2 DL
section
variable{prog:bv}{w:c6}{A:di}{E:aj->aq->Prop}{s:aq}{d:au}{od:Obj}{es:Array DictEntry}{ep:Nat}
theorem Zcw(hh:A.handled=aB)(I:au)(hne:d≠I)(c:od.data= .dict es ep):Walks prog w A I [I,d] [I] es.size (λi v=>∃e,es[i]? =aA e/\v=e.key) (λi h=>h.IsKeyIter I d i es.size ep/\h.get? d=aA od)where
 sub:=λb hb=>by simp at hb;simp[hb]
 frame:=λ_ _ _ st hk=>⟨Mf st.1 λo e=>hk I (by simp) o e,hk d (by simp) _ st.2⟩
 item:=λi s Q E hi st hQ=>by
  have he:es[i]? =aA es[i]:=by simp[hi]
  refine Md st.1 st.2 c rfl he λh' t' hs'=>?_;exact hQ _ h' s.toks ⟨_,he,rfl⟩ ⟨t',(hs'.2 d hne).trans st.2⟩ λb o hb e=>(hs'.2 b (λh=>hb (by simp[h]))).trans e
 done:=λs Q E st hQ=>Me hh st.1 st.2 c rfl (az _) λh' he'=>hQ h' s.toks λb o hb e=>he' b o (λh=>hb (by simp[h])) e
 self:=λ_ _ _ _ st hQ=>wpAny_pyIter_keyiter st.1 hQ
theorem Zj7(lo:(d==sysModules)=aD)(x:od.ExactDict)(c:od.data= .dict es ep):PySem.W.KdlSrc prog w "dict" d d es.size (λi v=>∃e,es[i]? =aA e/\v=e.key) (λh=>h.get? d=aA od)where
 type:=λ_ g=>⟨od,g,x.1⟩
 there:=λ_ g=>⟨bf g,bf g⟩
 keep:=λ_ _ g hk=>hk d (.inl rfl) _ g
 notList:=by decide
 notTuple:=by decide
 hint:=λ_ _ _ _ g hq=>PySem.W.kdl_hint_dict ⟨od,g,x.1⟩ hq
 iter:=λ_ _ hh g=>⟨_,_,(λ_ _ hq=>Mc lo g x c hq),Zcw hh _ (b9 (bf g)) c,⟨⟨_,a9 _ rfl,rfl,rfl⟩,ar _ g⟩⟩
theorem Vq{Q:List aj->aq->Prop}(hh:A.handled=aB)(lo:(d==sysModules)=aD)(x:od.ExactDict)(c:od.data= .dict es ep)(g:s.heap.get? d=aA od)(hn:es.size<=1000)
  (h:∀h' tk,(∀b o,s.heap.get? b=aA o->h'.get? b=aA o)->s.heap.objs.size<=h'.objs.size->Q (es.toList.map (·.key)) {s with heap:=h',toks:=tk}):bd (bz prog w) A (collect (.ref d)) Q E s:=by
 have hlr:d<s.heap.objs.size:=bf g;have nS:s.heap.objs.size≠d:=Nat.ne_of_gt hlr;unfold collect;refine ab (wpAny_runValue (gn PySem.F.entry_proto_collect ?_));rw[f9 PySem.F.plain_proto_collect _];show bd _ A.in1 (newList [] >>=λl=>again (.builtin "list.__iadd__" ⟨[l,.ref d],[]⟩)) _ _ s;refine ab (dn ?_);refine af ⟨plainId_quiet PySem.F.plain_list_iadd _,gn PySem.F.entry_list_iadd ?_⟩;rw[f9 PySem.F.plain_list_iadd _];show bd _ A.in1 (Builtin.List.listExtendWith (.ref s.heap.objs.size) (.ref d) (.ref s.heap.objs.size)) _ _ _;refine PySem.W.kdl_extend (R:=λrr s'=>match rr with
  | .ok (.ret v)=>bd (bz prog w) A (match v with
   | .ref a=>(load a >>=λx=>match x.data with
    | .seq xs _=>pure xs.toList
    |_=>unsupported "internal:collect")
   |_=>unsupported "internal:collect") Q E s'
  | .ok _=>False
  | .error e=>E e s') (s:={s with heap:=s.heap.push {cls:=.type "list",data:=.seq #[] 0}}) (Zj7 (prog:=prog) (w:=w) lo x c) hh (ar _ g) s.heap.objs.size nS nS _ 0 (a9 _ rfl) (λh' tk acc' c' hk gS hacc=>?_) (by rw[ff];omega)
 show bd _ A (load s.heap.objs.size >>=_) _ _ _;refine ab (wpAny_load gS ?_);refine af ?_;have e:acc'.toList=es.toList.map (·.key):=by
  apply List.ext_getElem?;intro i;rw[cp,a8,cp];cases hi:acc'[i]? with
  |none=>
   have:acc'.size<=i:=by simpa using hi
   rw[hacc.1]at this;rw[show es[i]? =aB by simpa using this];rfl
  |some v=>obtain⟨e,he,rfl⟩:=hacc.2 i v hi;rw[he];rfl
 show Q acc'.toList _;rw[e];exact h h' tk (λb o q=>hk b o (b9 (bf q)) (ar _ q)) (Nat.le_of_lt (bf gS))
end
end TX
namespace TX
open PySem PySem.Spec PySem.Calls PyProof.Rows L2 DL
open PySem.W (kas_sort kas_ask kas_item kat_run kat_snds)
section
variable{X:Cx}{pins:List (au×Obj)}{σ:L2.St}{H:Hp}{s:aq}{E:aj->aq->Prop}{its:List aj}{KeyOk:Nat->V->Hp->Prop}{Q:aj->aq->Prop}{O:KeyOrd}{key:Nat->O.α}{kvs:List V}
theorem Lh(I:Inv X pins σ H s)(h64:its.length<64)(rv:Z3 kvs its)(hk:∀j kv,kvs[j]? =aA kv->KeyOk j kv H)(hc:Cmp X pins σ H X.A.in1.in1 KeyOk O key its.length)
  (hQ:∀p D s' c,Pm its.length p->Pj key p its.length->X.s₀.heap.get? D=aB->Inv X pins σ H s'->Bd X pins H D->s'.heap.get? D=aA (d5 "list" (List.toArray (p.toList.map λi=>its.getD i ci)) c)->Q (.ref D) s'):
  bd (bz X.prog X.w) X.A.in1 (do
   let l<-newList its;let _<-holding [l] (call (.builtin "list.sort") [l] [])
   ret l) (λfin s'=>∃v,fin= .done (.ret v)/\Q v s') E s:=by
 refine ab (wpAny_newList ?_ (by rw[ff];omega));have hoL:(s.heap.push (d5 "list" its.toArray 0)).get? s.heap.objs.size=aA (d5 "list" its.toArray 0):=a9 _ rfl;have keep:∀b o,s.heap.get? b=aA o->(s.heap.push (d5 "list" its.toArray 0)).get? b=aA o:=λb o q=>ar _ q;refine ab (wpAny_holding (de (s:={s with heap:=s.heap.push (d5 "list" its.toArray 0)}) slot_list_sort ⟨_,hoL,rfl⟩ entry_list_sort ?body (args_list_sort _)))
 case body=>
  rw[list_sort_plain];have hs2:(s.heap.push (d5 "list" its.toArray 0)).objs.size=s.heap.objs.size+1:=size_push' ..;generalize hh:(s.heap.push (d5 "list" its.toArray 0))=h1 at hoL keep hs2⊢;generalize hD:s.heap.objs.size=D at hoL⊢;have hDn: @Eq Nat D s.heap.objs.size:=hD.symm;obtain⟨e1,ho1⟩:∃e1,(h1.update D (dm λ_=>(#[]:Array aj))).get? D=aA (d5 "list" #[] e1):=⟨_,get?_update_seq hoL λ_=> #[]⟩
  refine ab (listItems_at hoL rfl ?_);refine ab (listUpdate_at hoL rfl ?_ (by rw[bp,ff];omega) (fu _));refine ab (seqEpoch_at ho1 rfl ?_);refine ab (wpAny_newTuple ?_ (by show its.length<=_;rw[ff];omega));refine ab (wpAny_newList ?_ (fu _));refine wpAny_holding ?_;have kp:∀b o,s.heap.get? b=aA o->(((h1.update D (dm λ_=>(#[]:Array aj))).push (d5 "tuple" its.toArray 0)).push (d5 "list" #[] 0)).get? b=aA o:=λb o q=>by have hlt: @LT.lt Nat _ b s.heap.objs.size:=bf q;have:=keep b o q;refine ar _ (ar _ ?_);rw[Heap.get?_update_ne _ _ _ _ (b9 (show @LT.lt Nat _ b D by omega))];exact this
  have nD:H D=aB:=I.hok.fresh (by omega);have fD:Bd X pins H D:=I.fpOk (by omega) nD;have ho6:(((h1.update D (dm λ_=>(#[]:Array aj))).push (d5 "tuple" its.toArray 0)).push (d5 "list" #[] 0)).get? D=aA (d5 "list" #[] e1):=ar _ (ar _ ho1);have I6:Inv X pins σ H {s with heap:=((h1.update D (dm λ_=>(#[]:Array aj))).push (d5 "tuple" its.toArray 0)).push (d5 "list" #[] 0)}:=I.kept kp;show bd (bz X.prog X.w) X.A.in1.in1 _ _ _ {s with heap:=((h1.update D (dm λ_=>(#[]:Array aj))).push (d5 "tuple" its.toArray 0)).push (d5 "list" #[] 0)};have hD0:X.s₀.heap.get? D=aB:=Heap.get?_none_of_le (dk I.sz (by omega));generalize hs6:({s with heap:=((h1.update D (dm λ_=>(#[]:Array aj))).push (d5 "tuple" its.toArray 0)).push (d5 "list" #[] 0)}:aq)=s6 at I6⊢;have ho6:s6.heap.get? D=aA (d5 "list" #[] e1):=by rw[<-hs6];exact ho6
  have fin:∀(p:Array Nat) (out:Array aj),out=List.toArray (p.toList.map λi=>its.getD i ci)->out.size<64->Pm its.length p->Pj key p its.length->
    Q (.ref D) {s6 with heap:=s6.heap.update D (dm λ_=>out)}:=λp out ho hz z1 z2=>by
   subst ho;exact hQ p D _ _ z1 z2 hD0 (Zau (o:=d5 "list" #[] 0) (xs:= #[]) (ys:= #[]) (n:=0) I6 fD) fD (get?_update_seq ho6 λ_=>_)
  try dsimp only
  by_cases h2:its.toArray.size<2
  ·rw[if_pos h2,if_pos h2];have h2':its.length<2:=by simpa using h2
   refine ab (af ?_);rw[StateT.run_pure];refine ab (af ?_)
   try dsimp only
   have eo:(arrOf (SortSt.mk' general' (its.toArray.zip its.toArray) #[] 7 aB)).map (·.2)=List.toArray ((List.toArray (cz its.length)).toList.map λi=>its.getD i ci):=by
    show(its.toArray.zip its.toArray).map (·.2)=_;apply Array.toList_inj.mp;rw[Array.toList_map,ksk_zip];simp only[List.toList_toArray];rw[List.map_snd_zip (by omega)];apply List.ext_getElem
    ·simp
    ·intro i a b;simp[a]
   rw[eo];refine ab (seqEpoch_at ho6 rfl ?_);refine ab (listUpdate_at ho6 rfl ?_ (fu _) (by rw[bp,ff];simp;omega));show bd _ _ (if((e1 !=e1)=aC)then _ else _) _ _ _;simp only[bne_self_eq_false,bm,if_false];refine af ⟨_,rfl,af ⟨_,rfl,fin (List.toArray (cz its.length)) _ rfl (by simp;omega) (Array.Perm.refl _) (λi j hij hj=>?_)⟩⟩;have:i=j:=by omega
   subst this;exact KeyOrd.kle_refl _
  ·rw[if_neg h2,if_neg h2];have h2':2<=its.length:=Nat.le_of_not_lt (by simpa using h2);obtain⟨κ,hκ,hlt⟩:=hc H s6 its kvs (Zl.refl H) I6 rv rfl hk h2';refine ab (wpAny_mono (hκ (λκ' s'=>κ'=κ/\s'=s6) ⟨rfl,rfl⟩) (λκ' s' z=>?_) λ_ _ z=>z.elim);obtain⟨rfl,rfl⟩:=z;have g:=W8.wp (lt:=Fx O key) (n:=its.length) (R:=λq=>Pm its.length q/\Pj key q its.length) (cmp:=kas_ask X.prog X.w X.A.in1.in1 κ' its) (I:=λs''=>s''=s') (Q:=λq s''=>s''=s'/\Pm its.length q/\Pj key q its.length)
    (λi j C s'' hi hj z hC=>by subst z;exact hlt i j C hi hj (hC _ rfl)) (λq s'' z1 z2=>⟨z2,z1⟩) (Lc (key:=key) (by omega)) rfl
   refine ab (wpAny_mono (kat_run (Q:=λst s''=>∃p:Array Nat,s''=s'/\Pm its.length p/\Pj key p its.length/\arrOf st=p.map (kas_item (its.toArray.zip its.toArray))/\failedOf st=aB) rfl h2' h64
    (λp st s'' _ a1 a2 z=>⟨p,z.1,z.2.1,z.2.2,a1,a2⟩) g) (λr s'' z=>?_) λ_ _ z=>z)
   obtain⟨⟨⟩,st⟩:=r;obtain⟨p,rfl,z1,z2,z3,z4⟩:=z
   try dsimp only
   rw[kat_snds rfl z3];refine ab (seqEpoch_at ho6 rfl ?_);refine ab (listUpdate_at ho6 rfl ?_ (fu _) (by rw[bp,ag,a6,z1.size,ff];omega));rw[z4];simp only[bne_self_eq_false,bm,if_false];exact af ⟨_,rfl,af ⟨_,rfl,fin p _ rfl (by rw[bp,ag,a6,z1.size];exact h64) z1 z2⟩⟩
end
end TX
namespace L2
open PySem PySem.Spec PySem.Calls PyProof.Rows DL TX
section
variable{X:Cx}
noncomputable def Zl5(K:ah):List V->Hp->VK->Prop:=λvs H Q=>∃a kvs ep bs F ds p,vs=[.ref a]/\Zl F H/\H a=aA (.dT kvs ep bs)/\Reps K F ds (bs.map V.ref)/\KeysOk ds/\Mh ds p/\bs.length<64/\∀q,H q=aB->Q (.ref q) (Y0 H q (.lst (p.map λi=>(bs.map V.ref).getD i .non)))
theorem Ti:∀bs:List au,Z3 (bs.map V.ref) (bs.map bu)
 | []=>.nil
 |b::bs=>.cons rfl (Ti bs)
theorem Da(hc:X.calm=aC)(hu:X.A.units+64<fg):Q4 X (.builtin "sorted") (Zl5 X.K):=by
 intro pins s σ H xs us Q I r h;obtain⟨a,kvs,ep,bs,F,ds,p0,rfl,le,ha,rr,ko,hp0,hz,q⟩:=h;obtain⟨u,rfl,ru⟩:=Ui r;cases ru;obtain⟨_,hd,ys,rel,od,es,g,x,c,en,nd,hbs⟩:=(show Yb X.prog X.w H s.heap a (.dT kvs ep bs)from I.hok a _ ha)
 have ek:es.toList.map (·.key)=bs.map Value.ref:=by rw[en,<-hbs,bi,bi];rfl
 have hes:es.size=bs.length:=by rw[<-a6,<-ag (f:=λe:DictEntry=>e.key),ek,ag]
 have hlen:ds.length=bs.length:=by have:=TX.Reps.len2 rr;rw[ag]at this;exact this
 obtain⟨enc,he,hdis⟩:=id ko.ord;obtain⟨kb,hkb⟩:=id ko.key;have hu2:X.A.in1.in1.units+16<cLine:=by show X.A.units+1+1+16<fg;omega
 refine Calls.call_function_entry kind_sorted plain_sorted entry_sorted (args_sorted1 _) ?_;unfold Builtin.«sorted»;refine ab (m:=checkCount "sorted" 1 1 _) (af ?_);refine ab (Vq (A:=X.A.in1) (I.ok.hd hc) hd x c g (by omega) λh' tk hk ge=>?_);rw[ek];have I1:Inv X pins σ H {s with heap:=h',toks:=tk}:=I.kept hk;have bl:(bs.map bu).length=bs.length:=ag ..;refine Lh (its:=bs.map bu) (kvs:=bs.map V.ref) (KeyOk:=λj kv H=>Rep X.K H (ds.getD j .non) kv) (O:=strKind.toKeyOrd) (key:=Vp enc ds) I1 (by rw[bl];exact hz) (Ti bs) (λj kv e=>?_) (Hx hu2 hkb he (by rw[bl];exact hlen)) ?hQ
 ·have hj:j<(bs.map V.ref).length:=(ax.mp e).1;rw[ag]at hj;have h1:=Ak rr j (by omega);have:(bs.map V.ref).getD j .non=kv:=by rw[bg,e];rfl
  rw[this]at h1;exact h1.mono le
 case hQ=>
  intro p D s3 cc hp hs hD0 I3 fD gD;rw[bl]at hp hs;have ep:p.toList=p0:=E6 ko (Hy he hlen hp hs) hp0;rw[ep]at gD;have bnd:∀i∈p0,i<bs.length:=λi hi=>by have:=cn.mp (hp0.1.mem_iff.mp hi);omega
  have new:Yb X.prog X.w (Y0 H D (.lst (p0.map λi=>(bs.map V.ref).getD i .non))) s3.heap D (.lst (p0.map λi=>(bs.map V.ref).getD i .non)):=by refine⟨?_,p0.map λi=>(bs.map bu).getD i ci,cc,Lg (Ti bs) (λi hi=>by rw[bl];exact bnd i hi),gD⟩;have:=hp0.1.length_eq;rw[List.length_range]at this;rw[ag,this,ff];omega
  exact⟨.ref D,_,Inv.trackO I3 hD0 fD.1 fD.2.1 fD.2.2.2.2.1 fD.2.2.2.2.2 new,rfl,q D fD.1⟩
end
end L2
namespace DL
open PySem PySem.Spec PySem.Calls PyProof.Rows L2 TX
section
variable{K:ah}{F H:Hp}{v:V}
theorem Yf.dT2{ks:List (List Key)}{ds:List D}(le:Zl F H)(h:Yf K F H (.dT ks ds) v):∃a kvs ep bs,v= .ref a/\H a=aA (.dT kvs ep bs)/\KB F kvs bs/\kvs.map (·.1)=ks:=by
 obtain⟨sv,ns,e,n,sh,hp⟩:=h;cases sh with
 |fz r=>cases e;cases r with|dT h kb e r=>exact⟨_,_,_,_,rfl,le _ _ h,kb,e⟩
 |ol r=>cases e
 |oK e' r=>cases e
 |oT kb e' r=>cases e;exact⟨_,_,_,_,rfl,hp _ ad,kb,e'⟩
 |oN e' r=>cases e
 |oX kb' e' r=>cases e
 |oD r=>cases e
 |oM kb' e' r=>cases e
 |oL hp' r=>cases e
 |oQ e' r=>cases e
noncomputable abbrev C1(k:List Key):D:=.tup (k.map Tc)
theorem Zax:∀{kvs:List (List Key×V)} {bs:List au},KB F kvs bs->Reps K F ((kvs.map (·.1)).map C1) (bs.map V.ref)
 |_,_,.nil=>.nil
 |_,_,.cons h t=>.cons (.tup h (Gr _)) (Zax t)
theorem Zog{kvs:List (List Key×V)}{bs:List au}(h:KB F kvs bs):kvs.length=bs.length:=gq h
noncomputable def E7:List D->Option SV
 | [.dT ks _]=>G2 (ks.map C1) (ks.map C1)
 |_=>aB
variable{Z:Ent K}{σ:L2.St}{Q:VK}{E:Ends}
theorem Zoh:Ot Z (Zl5 K) E7:=by
 intro F H σ δ own vs ds sv Q s r e k;unfold E7 at e;split at e
 ·rename_i ks us;obtain⟨_,hz,ko,p,hp,rfl⟩:=Zav e;cases r with
  |cons h t=>cases t;obtain⟨a,kvs,ep,bs,rfl,ha,kb,rfl⟩:=Yf.dT2 s.le h;have rr:Reps K F ((kvs.map (·.1)).map C1) (bs.map V.ref):=Zax kb;have bnd:∀i∈p,i<((kvs.map (·.1)).map C1).length:=λi hi=>cn.mp (hp.1.mem_iff.mp hi);exact⟨a,kvs,ep,bs,F,_,p,rfl,s.le,ha,rr,ko,hp,by rw[<-Zog kb];simpa using hz,λq hq=>k.lst s (Tg rr bnd) hq⟩
 ·cases e
end
section
variable{X:Cx}{Z:Ent X.K}{a b c:c5}{fa fb fc:FE}{pos:Pos}
theorem Zgj{p:Pos}(hc:X.calm=aC)(hv:X.A.units+64<fg)(hm:X.mg "sorted"=aB)(ha:PE X a (Ze Z fa))(hg:Gl X "sorted":=by rfl)(he:ba [a] X.env=(aD,gw a X.env)::ba [] X.env:=by rfl)(hpl:(gp pos (ba [] X.env)).any (·.1)=aD:=by rfl):
  PE X (.Call (.Name "sorted" p) [a] [] pos) (Ze Z (Yd E7 (Zc fa Zi))):=Ah (Da hc hv) Zoh hm L2.Cz (Zm ha Yn he) hg (by decide) (by decide) he hpl
end
end DL
namespace L2
open PySem PySem.Spec PyProof.Rows
variable{X:Cx}{pos:Pos}
end L2
namespace DL
open PySem PySem.Spec PyProof.Rows L2
variable{K:ah}{Z:Ent K}{H:Hp}{σ:L2.St}
noncomputable def Zr3(n:Nat)(g:FGs):FG:=⟨λd δ=>match d with
 | .lst xs=>if xs.length=n then g.run xs δ else aB
 |_=>aB,g.tch⟩
@[simp]theorem Zr4(n:Nat)(g:FGs)(xs:List D)(δ:Wc):(Zr3 n g).run (.lst xs) δ=if xs.length=n then g.run xs δ else none:=rfl
variable{X:Cx}{Z:Ent X.K}{pos:Pos}
end DL
namespace TT
open PySem PySem.SetTable SX
noncomputable def Db(m:Nat)(p:Probe):Probe:=
 if p.more > 0 then{p with j:=p.j+1,more:=p.more- 1}else
 {p with j:=(leap m p.i p.perturb).1,more:=runEnd m (leap m p.i p.perturb).1- (leap m p.i p.perturb).1,i:=(leap m p.i p.perturb).1,perturb:=(leap m p.i p.perturb).2}
theorem Zoi(t:gx)(p:Probe):t.advance p=Db t.mask p:=rfl
noncomputable def Wr(m:Nat):Nat->Probe->Probe
 |0,p=>p
 |n+1,p=>Wr m n (Db m p)
theorem Q7(m:Nat):∀(a b:Nat) (p:Probe),Wr m (a+b) p=Wr m b (Wr m a p)
 |0,b,p=>by rw[Nat.zero_add];rfl
 |a+1,b,p=>by rw[Nat.add_right_comm];exact Q7 m a b (Db m p)
noncomputable def Mi(m i q:Nat):Probe:={j:=i,more:=runEnd m i- i,i:=i,perturb:=q,dummy:=aB}
theorem Zay(m:Nat)(p:Probe):(Db m p).dummy=p.dummy:=by unfold Db;split<;> rfl
theorem Vr(m:Nat):∀(n:Nat) (p:Probe),(Wr m n p).dummy=p.dummy
 |0,_=>rfl
 |n+1,p=>(Vr m n (Db m p)).trans (Zay m p)
theorem Zoj(m i:Nat):runEnd m i- i<=9:=by unfold runEnd;split<;> omega
theorem Zgk{m i:Nat}(h:i<=m):runEnd m i<=m:=by unfold runEnd;split<;> omega
theorem Pk(m i:Nat):i<=runEnd m i:=by unfold runEnd;split<;> omega
theorem Uz{m i q:Nat}:∀{k:Nat},k<=runEnd m i- i->Wr m k (Mi m i q)={j:=i+k,more:=runEnd m i- i- k,i:=i,perturb:=q,dummy:=aB}
 |0,_=>rfl
 |k+1,h=>by rw[Q7 m k 1,Uz (by omega)];show Db m _=_;unfold Db;rw[if_pos (by show runEnd m i- i- k > 0;omega)];rfl
theorem B4(m i q:Nat):Wr m (runEnd m i- i+1) (Mi m i q)=Mi m (leap m i q).1 (leap m i q).2:=by rw[Q7 m _ 1,Uz (az _)];show Db m _=_;unfold Db;rw[if_neg (by show¬runEnd m i- i- (runEnd m i- i) > 0;omega)];rfl
noncomputable def Ul(m:Nat):Nat->Nat×Nat->Nat×Nat
 |0,x=>x
 |n+1,x=>Ul m n (leap m x.1 x.2)
theorem Li(m:Nat):∀(a b:Nat) (x:Nat×Nat),Ul m (a+b) x=Ul m b (Ul m a x)
 |0,b,x=>by rw[Nat.zero_add];rfl
 |a+1,b,x=>by rw[Nat.add_right_comm];exact Li m a b _
theorem Vs{m:Nat}:∀(n:Nat) (x:Nat×Nat),x.1<=m->(Ul m n x).1<=m
 |0,_,h=>h
 |n+1,x,_=>Vs n _ (Nat.le_of_lt_succ (Nat.mod_lt (x.1*5+1+x.2 / 32) (Nat.succ_pos m)))
theorem Lj(m:Nat):∀(n:Nat) (x:Nat×Nat),(Ul m n x).2=x.2 / 32^n
 |0,x=>by simp[Ul]
 |n+1,x=>by show(Ul m n (leap m x.1 x.2)).2=_;rw[Lj m n];show x.2 / 32 / 32^n=_;rw[Nat.div_div_eq_div_mul,Nat.pow_succ,Nat.mul_comm]
noncomputable def orb(m:Nat):Nat->Nat->Nat
 |0,_=>0
 |n+1,i=>(1<<<i)|||orb m n ((i*5+1) % (m+1))
theorem Zaz{m:Nat}:∀(n i j:Nat),(orb m n i).testBit j=aC->∃c,c<n/\(Ul m c (i,0)).1=j
 |0,i,j,h=>by simp[orb]at h
 |n+1,i,j,h=>by
  unfold orb at h;rw[Nat.testBit_or,Bool.or_eq_true]at h;rcases h with h|h
  ·refine⟨0,by omega,?_⟩;rw[Nat.one_shiftLeft,Nat.testBit_two_pow]at h;show i=j;exact of_decide_eq_true h
  ·obtain⟨c,hc,e⟩:=Zaz n _ j h;refine⟨c+1,by omega,?_⟩;show(Ul m c (leap m i 0)).1=j;have:leap m i 0=((i*5+1) % (m+1),0):=by simp[leap]
   rw[this];exact e
noncomputable def Msk(m:Nat):Prop:=m=7\/m=31\/m=127
theorem Zj8{m:Nat}(h:Msk m):(cz (m+1)).all (λi=>orb m (m+1) i==2^(m+1)- 1)=aC:=by rcases h with rfl|rfl|rfl<;> decide+kernel
theorem Zl7{m i q j:Nat}(h:Msk m)(hi:i<=m)(hq:q<2^64)(hj:j<=m):∃c,c<m+15/\(Ul m c (i,q)).1=j:=by
 have h13:(Ul m 13 (i,q)).2=0:=by rw[Lj];exact Nat.div_eq_of_lt (c9 hq (by decide))
 have hle:=Vs (m:=m) 13 (i,q) hi;generalize hx:Ul m 13 (i,q)=x at h13 hle;obtain⟨a,b⟩:=x;simp only at h13 hle;subst h13;have ho:=ie.mp (Zj8 h) a (cn.mpr (by omega));have ho:orb m (m+1) a=2^(m+1)- 1:=by simpa using ho
 obtain⟨c,hc,e⟩:=Zaz (m+1) a j (by rw[ho,Nat.testBit_two_pow_sub_one];simpa using by omega);exact⟨13+c,by omega,by rw[Li,hx];exact e⟩
theorem Zgl(m:Nat):∀(c i q:Nat),∃n,n<=10*c/\Wr m n (Mi m i q)=Mi m (Ul m c (i,q)).1 (Ul m c (i,q)).2
 |0,i,q=>⟨0,by omega,rfl⟩
 |c+1,i,q=>by obtain⟨n,hn,e⟩:=Zgl m c (leap m i q).1 (leap m i q).2;refine⟨runEnd m i- i+1+n,by have:=Zoj m i;omega,?_⟩;rw[Q7,B4,e];rfl
noncomputable abbrev Jl(m:Nat)(h:Int):Probe:=Mi m (bits h % (m+1)) (bits h)
theorem Zr5(t:gx)(h:Int):t.probeStart h=Jl t.mask h:=rfl
theorem Za0(h:Int):bits h<2^64:=by unfold bits;have h1:=d7 h (show(0:Int)<2^64 by decide);have h2:=gb h (show(2^64:Int)≠0 by decide);omega
theorem Zr6{m:Nat}(hm:Msk m)(h:Int){j:Nat}(hj:j<=m):∃n,n<10*turns m/\(Wr m n (Jl m h)).j=j:=by obtain⟨c,hc,e⟩:=Zl7 (q:=bits h) hm (Nat.le_of_lt_succ (Nat.mod_lt (bits h) (Nat.succ_pos m))) (Za0 h) hj;obtain⟨n,hn,e2⟩:=Zgl m c (bits h % (m+1)) (bits h);exact⟨n,by unfold turns;omega,by rw[e2];exact e⟩
noncomputable abbrev sq(m:Nat)(h:Int)(n:Nat):Nat:=(Wr m n (Jl m h)).j
theorem Za1{m:Nat}:∀(n:Nat) (p:Probe),p.i<=m->p.j+p.more<=m->(Wr m n p).j<=m
 |0,p,_,h=>by show p.j<=m;omega
 |n+1,p,hi,h=>by
  refine Za1 n (Db m p) ?_ ?_
  ·unfold Db;split
   ·exact hi
   ·exact Nat.le_of_lt_succ (Nat.mod_lt (p.i*5+1+p.perturb / 32) (Nat.succ_pos m))
  ·unfold Db;split
   ·show p.j+1+(p.more- 1)<=m;omega
   ·have hl:(leap m p.i p.perturb).1<=m:=Nat.le_of_lt_succ (Nat.mod_lt (p.i*5+1+p.perturb / 32) (Nat.succ_pos m));have:=Zgk hl;have:=Pk m (leap m p.i p.perturb).1;show(leap m p.i p.perturb).1+(runEnd m (leap m p.i p.perturb).1- (leap m p.i p.perturb).1)<=m;omega
theorem Zgm(m:Nat)(h:Int)(n:Nat):sq m h n<=m:=by have h1:bits h % (m+1)<=m:=Nat.le_of_lt_succ (Nat.mod_lt _ (Nat.succ_pos m));refine Za1 n _ h1 ?_;have:=Zgk h1;have:=Pk m (bits h % (m+1));show bits h % (m+1)+(runEnd m (bits h % (m+1))- bits h % (m+1))<=m;omega
theorem Tj{t:gx}(hr:Rh t.place.toList){i j:Nat}(h:t.place[i]? =aA j):t.slot j= .live i:=by
 have hi:i<t.place.size:=(gd.mp h).1;have a:At t.place j i:=by
  refine⟨by omega,λk y hk e=>B2 hr e h hk,λk y hk e=>?_⟩;rcases Nat.lt_or_eq_of_le hk with z|z
  ·exact Nat.le_of_lt (B2 hr h e z)
  ·subst z;rw[h]at e;cases e;exact az _
 have e:=Zaq (Ez hr j) a;unfold SetTable.slot;dsimp only;rw[e,h,if_pos (by simp)]
theorem Pl{t:gx}{i j:Nat}(h:t.slot j= .live i):t.place[i]? =aA j:=by
 unfold SetTable.slot at h;dsimp only at h;split at h
 ·rename_i e;cases h;simpa using e
 ·split at h<;> cases h
theorem Za2{t:gx}(hr:Rh t.place.toList){j:Nat}(h:t.slot j= .empty):j∉t.place.toList:=λz=>by
 obtain⟨i,hi,e⟩:=fq z;have:t.place[i]? =aA j:=by rw[<-cp,ax];exact⟨hi,e⟩
 rw[Tj hr this]at h;cases h
theorem E8{t:gx}(hd:t.dummies= #[])(j:Nat):t.slot j= .empty\/∃i,t.slot j= .live i:=by
 unfold SetTable.slot;dsimp only;split
 ·exact .inr ⟨_,rfl⟩
 ·rw[hd,Zar];exact .inl (by simp)
theorem E9{t:gx}(hd:t.dummies= #[]){j:Nat}(h:j∉t.place.toList):t.slot j= .empty:=by
 rcases E8 hd j with z|⟨i,z⟩
 ·exact z
 ·have:=Pl z;rw[<-cp]at this;exact absurd (b6 this) h
theorem Za3{t:gx}(hd:t.dummies= #[])(f:Nat->Int)(h:Int):∀(fuel:Nat) (p:Probe),p.dummy=aB->(∃n,n<fuel/\t.slot (Wr t.mask n p).j= .empty)->
  (∃n,n<fuel/\SetTable.probe.go t f h fuel p=aA (.empty (Wr t.mask n p).j aB)/\t.slot (Wr t.mask n p).j= .empty/\∀k,k<n->∃i,t.slot (Wr t.mask k p).j= .live i/\f i≠h)\/
  (∃n i,n<fuel/\SetTable.probe.go t f h fuel p=aA (.candidate (Wr t.mask n p).j i (Wr t.mask (n+1) p))/\t.slot (Wr t.mask n p).j= .live i/\f i=h/\∀k,k<n->∃i,t.slot (Wr t.mask k p).j= .live i/\f i≠h)
 |0,p,_,⟨n,hn,_⟩=>absurd hn (dz _)
 |fuel+1,p,hp,⟨n,hn,he⟩=>by
  unfold SetTable.probe.go;rcases E8 hd p.j with hs|⟨i,hs⟩
  ·refine .inl ⟨0,by omega,?_,hs,λk hk=>absurd hk (dz _)⟩;rw[hs];show aA (Met.empty p.j p.dummy)=_;rw[hp];rfl
  ·rw[hs];dsimp only;by_cases hf:f i=h
   ·refine .inr ⟨0,i,by omega,?_,hs,hf,λk hk=>absurd hk (dz _)⟩;rw[if_pos (by simpa using hf)];rfl
   ·rw[if_neg (by simpa using hf),Zoi];cases n with
    |zero=>have he:t.slot p.j= .empty:=he;rw[hs]at he;cases he
    |succ n=>
     have first:∀n,(∀k,k<n->∃i,t.slot (Wr t.mask k (Db t.mask p)).j= .live i/\f i≠h)->∀k,k<n+1->∃i,t.slot (Wr t.mask k p).j= .live i/\f i≠h:=λn a k hk=>by
      cases k with
      |zero=>exact⟨i,hs,hf⟩
      |succ k=>exact a k (by omega)
     rcases Za3 hd f h fuel (Db t.mask p) ((Zay _ _).trans hp) ⟨n,by omega,he⟩with⟨n',h1,h2,h3,h4⟩|⟨n',i',h1,h2,h3,h4,h5⟩
     ·exact .inl ⟨n'+1,by omega,h2,h3,first n' h4⟩
     ·exact .inr ⟨n'+1,i',by omega,h2,h3,h4,first n' h5⟩
noncomputable def Lk(m:Nat)(pl:List Nat)(h:Int)(j:Nat):Prop:=∃n,sq m h n=j/\∀k,k<n->sq m h k∈pl
theorem Lk.mono{m:Nat}{pl pl':List Nat}(hs:∀x∈pl,x∈pl'){h:Int}{j:Nat}(l:Lk m pl h j):Lk m pl' h j:=let⟨n,a,b⟩:=l;⟨n,a,λk hk=>hs _ (b k hk)⟩
structure Tb(t:gx)(hs:List Int):Prop where
 dum:t.dummies= #[]
 msk:Msk t.mask
 rise:Rh t.place.toList
 le:∀j∈t.place.toList,j<=t.mask
 len:t.place.toList.length=hs.length
 room:hs.length<=t.mask
 look:∀e∈hs.zip t.place.toList,Lk t.mask t.place.toList e.1 e.2
theorem Tb.fits{t:gx}{hs:List Int}(b:Tb t hs){n:Nat}(hn:n=hs.length):t.fits n=aC:=by
 have h1:=b.len;have h2:=b.room;have h3:t.place.size=hs.length:=by rw[<-h1,a6]
 unfold SetTable.fits SetTable.fill;rw[b.dum,h3,hn];simp;omega
theorem Tb.gave{t:gx}{hs:List Int}(b:Tb t hs):t.gaveWay=aD:=by unfold SetTable.gaveWay;rcases b.msk with e|e|e<;> rw[e]<;> rfl
theorem Rk{l:List Nat}(h:Rh l):l.Nodup:=h.imp λz=>b9 z
theorem Za4{m:Nat}{pl:List Nat}(nd:pl.Nodup)(hl:pl.length<=m):∃j,j<=m/\j∉pl:=by apply Classical.byContradiction;intro hn;have all:∀j,j<=m->j∈pl:=λj hj=>Classical.byContradiction λz=>hn ⟨j,hj,z⟩;have:(cz (m+1)).length<=pl.length:=bx List.nodup_range λj hj=>all j (by have:=cn.mp hj;omega);rw[List.length_range]at this;omega
theorem Tb.empty{t:gx}{hs:List Int}(b:Tb t hs)(h:Int):∃n,n<10*turns t.mask/\t.slot (sq t.mask h n)= .empty:=by obtain⟨j,hj,hn⟩:=Za4 (Rk b.rise) (by rw[b.len];exact b.room);obtain⟨n,h1,h2⟩:=Zr6 b.msk h hj;exact⟨n,h1,by show t.slot (Wr t.mask n (Jl t.mask h)).j= .empty;rw[h2];exact E9 b.dum hn⟩
theorem Tb.fresh(f m:Nat)(l:Bool):Tb (SetTable.fresh f m l) []:=⟨rfl,.inl rfl,List.Pairwise.nil,(λ_ z=>nomatch z),rfl,fu _,(λ_ z=>nomatch z)⟩
theorem Zj9{α β:Type}(p:Nat){as:List α}{bs:List β}(h:as.length=bs.length)(a:α)(b:β):(as.take p++a::as.drop p).zip (bs.take p++b::bs.drop p)=(as.zip bs).take p++(a,b)::(as.zip bs).drop p:=by rw[List.zip_append (by simp[h]),List.zip_cons_cons];simp only[List.zip_eq_zipWith,List.take_zipWith,List.drop_zipWith]
theorem Tb.put{t:gx}{hs:List Int}(b:Tb t hs)(h:Int){n:Nat}(he:t.slot (sq t.mask h n)= .empty)(hb:∀k,k<n->t.slot (sq t.mask h k)≠.empty)(hr:hs.length+1<=t.mask):
  Tb (t.put (sq t.mask h n)).1 (hs.take (below t.place (sq t.mask h n))++h::hs.drop (below t.place (sq t.mask h n))):=by
 have hn:t.place[SetTable.below t.place (sq t.mask h n)]?≠aA (sq t.mask h n):=λz=>by rw[Tj b.rise z]at he;cases he
 have hni:=Za2 b.rise he;have hbm:∀k,k<n->sq t.mask h k∈t.place.toList:=λk hk=>Classical.byContradiction λz=>hb k hk (E9 b.dum z);have hjle:=Zgm t.mask h n;have hlk:Lk t.mask t.place.toList h (sq t.mask h n):=⟨n,rfl,hbm⟩
 generalize sq t.mask h n=j at*;have hpl:(t.put j).1.place.toList=t.place.toList.take (below t.place j)++j::t.place.toList.drop (below t.place j):=SetTable.toList_insertAt _ _ _;have hsub:∀x∈t.place.toList,x∈(t.put j).1.place.toList:=λx hx=>by
  rw[hpl];rw[<-List.take_append_drop (below t.place j) t.place.toList]at hx;rcases bh.mp hx with z|z
  ·exact b7 _ z
  ·exact bq _ (am _ z)
 have hm:(t.put j).1.mask=t.mask:=rfl;refine⟨?_,by rw[hm];exact b.msk,Zgb b.rise hn,λx hx=>?_,?_,?_,λe he'=>?_⟩
 ·show(if has t.dummies j then _ else t.dummies)= #[];rw[b.dum,Zar];rfl
 ·rw[hm];rw[hpl]at hx;rcases bh.mp hx with z|z
  ·exact b.le x (List.mem_of_mem_take z)
  ·rcases bo.mp z with z|z
   ·rw[z];exact hjle
   ·exact b.le x (List.mem_of_mem_drop z)
 ·rw[hpl];have:=b.len;simp only[ay,List.length_take,bc,List.length_drop];omega
 ·rw[hm];simp only[ay,List.length_take,bc,List.length_drop];omega
 ·rw[hpl,Zj9 _ b.len.symm]at he';rw[hm];rcases bh.mp he' with z|z
  ·exact(b.look e (List.mem_of_mem_take z)).mono hsub
  ·rcases bo.mp z with z|z
   ·rw[z];exact hlk.mono hsub
   ·exact(b.look e (List.mem_of_mem_drop z)).mono hsub
theorem Tb.plainOff{t:gx}{hs:List Int}(b:Tb t hs):Tb {t with plain:=aD} hs:=⟨b.dum,b.msk,b.rise,b.le,b.len,b.room,b.look⟩
end TT
namespace TT
open PySem PySem.SetTable SX
noncomputable def Ow(owner:Array (Option Nat))(j:Nat):Prop:=(owner.getD j (aA 0)).isNone=aD
theorem Ll{m:Nat}{owner:Array (Option Nat)}:∀(fuel i q:Nat),(∃c,c<fuel/\¬Ow owner (Ul m c (i,q)).1)->
  ∃n,layClean.free m owner fuel i q=aA (Wr m n (Mi m i q)).j/\¬Ow owner (Wr m n (Mi m i q)).j/\∀k,k<n->Ow owner (Wr m k (Mi m i q)).j
 |0,i,q,⟨c,hc,_⟩=>absurd hc (dz _)
 |fuel+1,i,q,⟨c,hc,hn⟩=>by
  unfold layClean.free;cases hf:(cz (runEnd m i+1- i)).find? λk=>(owner.getD (i+k) (aA 0)).isNone with
  |some k=>
   have hk:=List.find?_range_eq_some.mp hf;have hr:=Pk m i;have hkl:k<=runEnd m i- i:=by have:=cn.mp hk.2.1;omega
   refine⟨k,?_,?_,λk' hk'=>?_⟩
   ·rw[Uz hkl]
   ·rw[Uz hkl];intro z;unfold Ow at z;dsimp only at z;rw[hk.1]at z;cases z
   ·rw[Uz (by omega)];have:=hk.2.2 k' hk';unfold Ow;dsimp only;simpa using this
  |none=>
   have hall:=List.find?_eq_none.mp hf;have hr:=Pk m i;have own:∀k,k<=runEnd m i- i->Ow owner (i+k):=λk hk=>by
    have:=hall k (cn.mpr (by omega));unfold Ow;cases z:(owner.getD (i+k) (aA 0)).isNone with
    |false=>rfl
    |true=>exact absurd z this
   cases c with
   |zero=>exact absurd (own 0 (fu _)) hn
   |succ c=>
    obtain⟨n,h1,h2,h3⟩:=Ll fuel (leap m i q).1 (leap m i q).2 ⟨c,by omega,hn⟩;refine⟨runEnd m i- i+1+n,?_,?_,λk hk=>?_⟩
    ·rw[Q7,B4];exact h1
    ·rw[Q7,B4];exact h2
    ·by_cases hk2:k<=runEnd m i- i
     ·rw[Uz hk2];exact own k hk2
     ·have e:k=runEnd m i- i+1+(k- (runEnd m i- i+1)):=by omega
      rw[e,Q7,B4];exact h3 _ (by omega)
structure Ly(m:Nat)(hs:List Int)(owner:Array (Option Nat))(js:List Nat):Prop where
 size:owner.size=m+1
 len:js.length=hs.length
 nd:js.Nodup
 le:∀j∈js,j<=m
 own:∀j k,j<=m->(owner.getD j aB=aA k↔js[k]? =aA j)
 look:∀e∈hs.zip js,Lk m js e.1 e.2
theorem Ly.ow{m:Nat}{hs:List Int}{owner:Array (Option Nat)}{js:List Nat}(l:Ly m hs owner js){j:Nat}(hj:j<=m):Ow owner j↔j∈js:=by
 have hs:j<owner.size:=by rw[l.size];omega
 have e1:owner.getD j (aA 0)=owner[j]:=by simp[Array.getD,hs]
 have e2:owner.getD j aB=owner[j]:=by simp[Array.getD,hs]
 unfold Ow;rw[e1];constructor
 ·intro h;cases z:owner[j]with
  |none=>rw[z]at h;cases h
  |some k=>exact b6 ((l.own j k hj).mp (by rw[e2];exact z))
 ·intro h;obtain⟨k,hk,e⟩:=fq h;have:=(l.own j k hj).mpr (ax.mpr ⟨hk,e⟩);rw[e2]at this;rw[this];rfl
theorem Ly.nil(m:Nat):Ly m [] (Array.replicate (m+1) aB) []:=by
 refine⟨by simp,rfl,cm,(λ_ z=>nomatch z),λj k hj=>?_,(λ_ z=>nomatch z)⟩;have:(Array.replicate (m+1) (aB:Option Nat)).getD j aB=aB:=by simp[Array.getD]
 rw[this];simp
theorem Ly.step{m:Nat}{hs:List Int}{owner:Array (Option Nat)}{js:List Nat}(hm:Msk m)(l:Ly m hs owner js)(hl:hs.length<=m)(h:Int):
  ∃j,layClean.free m owner (turns m) (bits h % (m+1)) (bits h)=aA j/\Ly m (hs++[h]) (owner.setIfInBounds j (aA hs.length)) (js++[j]):=by
 obtain⟨j0,hj0,hn0⟩:=Za4 l.nd (by rw[l.len];exact hl);obtain⟨c,hc,e⟩:=Zl7 (q:=bits h) hm (Nat.le_of_lt_succ (Nat.mod_lt (bits h) (Nat.succ_pos m))) (Za0 h) hj0;obtain⟨n,h1,h2,h3⟩:=Ll (m:=m) (owner:=owner) (turns m) (bits h % (m+1)) (bits h) ⟨c,hc,by rw[e,l.ow hj0];exact hn0⟩;have hle:=Zgm m h n;have hlk:Lk m js h (sq m h n):=⟨n,rfl,λk hk=>(l.ow (Zgm m h k)).mp (h3 k hk)⟩
 have hnj:sq m h n∉js:=λz=>h2 ((l.ow hle).mpr z);refine⟨sq m h n,h1,?_⟩;generalize sq m h n=j at*;have hsz:j<owner.size:=by rw[l.size];omega
 refine⟨by simp[l.size],by simp[l.len],cu.mpr ⟨l.nd,by simp,λa ha b hb=>?_⟩,λx hx=>?_,λx k hx=>?_,λe he=>?_⟩
 ·rw[ao.mp hb];exact λz=>hnj (z▸ha)
 ·rcases bh.mp hx with z|z
  ·exact l.le x z
  ·rw[ao.mp z];exact hle
 ·by_cases hxj:x=j
  ·subst hxj;have:(owner.setIfInBounds x (aA hs.length)).getD x aB=aA hs.length:=by simp[Array.getD,hsz]
   rw[this];constructor
   ·intro z;cases z;rw[<-l.len];simp
   ·intro z;by_cases hk:k<js.length
    ·rw[dh hk]at z;exact absurd (b6 z) hnj
    ·have hk2:=(ax.mp z).1;rw[ay,d8]at hk2;rw[<-l.len,show k=js.length by omega]
  ·have hxs:x<owner.size:=by rw[l.size];omega
   have:(owner.setIfInBounds j (aA hs.length)).getD x aB=owner.getD x aB:=by simp[Array.getD,hxs,Array.getElem_setIfInBounds,Ne.symm hxj]
   rw[this,l.own x k hx];by_cases hk:k<js.length
   ·rw[dh hk]
   ·rw[dy (by omega)];constructor
    ·intro z;cases z
    ·intro z;have hk2:=(ax.mp z).1;rw[ay,d8]at hk2;have:k=js.length:=by omega
     subst this;rw[gc (az _)]at z;simp at z;exact absurd z.symm hxj
 ·rw[List.zip_append l.len.symm]at he;rcases bh.mp he with z|z
  ·exact(l.look e z).mono λx hx=>b7 _ hx
  ·simp at z;rw[z];exact hlk.mono λx hx=>b7 _ hx
theorem Za5{m:Nat}(hm:Msk m):∀(rest hs:List Int) (owner:Array (Option Nat)) (js:List Nat),Ly m hs owner js->hs.length+rest.length<=m+1->
  ∃owner' js',rest.foldl (λ(acc:Option (Array (Option Nat)×Nat)) h=>do
   let(owner,k)<-acc;let j<-layClean.free m owner (turns m) (bits h % (m+1)) (bits h)
   pure (owner.setIfInBounds j (aA k),k+1)) (aA (owner,hs.length))=aA (owner',(hs++rest).length)/\Ly m (hs++rest) owner' js'
 | [],hs,owner,js,l,_=>⟨owner,js,by simp,by simpa using l⟩
 |h::rest,hs,owner,js,l,hl=>by
  obtain⟨j,e,l2⟩:=l.step hm (by simp only[bc]at hl;omega) h;obtain⟨owner',js',e2,l3⟩:=Za5 hm rest (hs++[h]) _ _ l2 (by simp only[ay,bc,List.length_nil]at hl⊢;omega);refine⟨owner',js',?_,by simpa using l3⟩;rw[List.foldl_cons];have z:(do
   let(owner,k)<-(aA (owner,hs.length):Option (Array (Option Nat)×Nat));let j<-layClean.free m owner (turns m) (bits h % (m+1)) (bits h)
   pure (owner.setIfInBounds j (aA k),k+1))=aA (owner.setIfInBounds j (aA hs.length),(hs++[h]).length):=by
   show(layClean.free m owner (turns m) (bits h % (m+1)) (bits h) >>=λj=>pure (owner.setIfInBounds j (aA hs.length),hs.length+1))=_;rw[e];simp
  rw[z,e2];simp
theorem Zcx{t:gx}{es:Array (Int×aj)}{wanted:Nat}(hm:Msk (sizeAbove wanted- 1))(hl:es.size<=sizeAbove wanted- 1):
  ∃t' order,t.relaid (es.map λ(e:Int×aj)=>e.1) wanted=aA (t',order)/\t'.led=t.led/\(order.filterMap λi=>es[i]?).toList.Perm es.toList/\Tb t' ((order.filterMap λi=>es[i]?).toList.map λ(e:Int×aj)=>e.1):=by
 unfold SetTable.relaid SetTable.laid SetTable.layClean;generalize sizeAbove wanted- 1=m at*;have hsl:(es.map (·.1)).toList.length=es.size:=by simp
 obtain⟨owner,js,e,l⟩:=Za5 hm (es.map λe=>e.1).toList [] _ [] (Ly.nil m) (by rw[hsl];simp;omega);rw[<-Array.foldl_toList];have e:((es.map (·.1)).toList.foldl (λ(acc:Option (Array (Option Nat)×Nat)) h=>do
   let(owner,k)<-acc;let j<-layClean.free m owner (turns m) (bits h % (m+1)) (bits h)
   pure (owner.setIfInBounds j (aA k),k+1)) (aA (Array.replicate (m+1) aB,0)))=aA (owner,(([]:List Int)++(es.map λ(e:Int×aj)=>e.1).toList).length):=e
 rw[e];rw[dj]at l;have jl:js.length=es.size:=by rw[l.len,hsl]
 generalize hlive:((cz (m+1)).filterMap λj=>(owner.getD j aB).map (j,·))=live;have mem:∀j k,(j,k)∈live↔j<=m/\js[k]? =aA j:=λj k=>by
  rw[<-hlive,List.mem_filterMap];constructor
  ·rintro⟨j',hj',z⟩;obtain⟨k',z1,z2⟩:=cq.mp z;cases z2;have hj:j<=m:=by have:=cn.mp hj';omega
   exact⟨hj,(l.own j k hj).mp z1⟩
  ·rintro⟨hj,z⟩;exact⟨j,cn.mpr (by omega),by rw[(l.own j k hj).mpr z];rfl⟩
 have rise:Rh (live.map (·.1)):=by rw[<-hlive];unfold Rh;rw[ck];refine List.Pairwise.filterMap _ (λa b hab c hc d hd=>?_) List.pairwise_lt_range;obtain⟨_,_,rfl⟩:=cq.mp hc;obtain⟨_,_,rfl⟩:=cq.mp hd;exact hab
 have pmem:∀x,x∈live.map (·.1)↔x∈js:=λx=>by
  rw[av];constructor
  ·rintro⟨⟨j,k⟩,hp,rfl⟩;exact b6 ((mem j k).mp hp).2
  ·intro hx;obtain⟨k,hk,e⟩:=fq hx;exact⟨(x,k),(mem x k).mpr ⟨l.le x hx,ax.mpr ⟨hk,e⟩⟩,rfl⟩
 have plen:live.length=es.size:=by have p:(live.map (·.1)).Perm js:=(List.perm_ext_iff_of_nodup (Rk rise) l.nd).mpr pmem;have:=p.length_eq;rw[ag]at this;omega
 have ond:(live.map (·.2)).Nodup:=by have Ku:live.Pairwise λa b=>a.1≠b.1:=ck.mp (Rk rise);refine ck.mpr (List.Pairwise.imp_of_mem (fun{a b} ha hb hab z=>?_) Ku);obtain⟨j1,k1⟩:=a;obtain⟨j2,k2⟩:=b;simp only at z hab;subst z;have z1:=((mem j1 k1).mp ha).2;have z2:=((mem j2 k1).mp hb).2;rw[z1]at z2;exact hab (df.inj z2)
 have operm:(live.map (·.2)).Perm (cz es.size):=by
  refine(List.perm_ext_iff_of_nodup ond List.nodup_range).mpr λk=>?_;rw[av,cn];constructor
  ·rintro⟨⟨j,k⟩,hp,rfl⟩;have:=(ax.mp ((mem j k).mp hp).2).1;omega
  ·intro hk;have hk':k<js.length:=by omega
   exact⟨(js[k],k),(mem _ _).mpr ⟨l.le _ (List.getElem_mem hk'),aw hk'⟩,rfl⟩
 refine⟨{mask:=m,place:=(live.map (·.1)).toArray,dummies:= #[],finger:=t.finger,led:=t.led,moves:=t.movedTo m,plain:=t.plain},(live.map (·.2)).toArray,by rw[<-hlive];rfl,rfl,?_,?_⟩
 ·rw[Array.toList_filterMap];exact(operm.filterMap _).trans (by rw[filterMap_getElem?_range])
 ·have ge:∀p∈live,∃v,es[p.2]? =aA v:=λp hp=>by have:=cn.mp (operm.mem_iff.mp (av.mpr ⟨p,hp,rfl⟩));exact⟨es[p.2],by simp[this]⟩
  have fm:∀l:List (Nat×Nat),(∀p∈l,∃v,es[p.2]? =aA v)->(l.map (·.2)).filterMap (λi=>es[i]?)=l.map λp=>es.getD p.2 (0,ci):=by
   intro l;induction l with
   |nil=>intro _;rfl
   |cons p l ih=>intro h;obtain⟨v,hv⟩:=h p ad;have hv2:=gd.mp hv;rw[a7,List.filterMap_cons_some hv,ih λq hq=>h q (am _ hq),a7];congr 1;simp only[Array.getD,hv2.1,↓reduceDIte];exact hv2.2.symm
  have el:(((live.map (·.2)).toArray.filterMap λi=>es[i]?).toList.map λ(e:Int×aj)=>e.1)=live.map λp=>(es.getD p.2 (0,ci)).1:=by rw[Array.toList_filterMap,List.toList_toArray,fm live ge,bi];rfl
  rw[el];refine⟨rfl,hm,by simpa using rise,λj hj=>?_,?_,?_,λe he=>?_⟩
  ·exact l.le j ((pmem j).mp (by simpa using hj))
  ·simp
  ·rw[ag,plen];exact hl
  ·have:e∈(live.map λp=>(es.getD p.2 (0,ci)).1).zip (live.map (·.1)):=by simpa using he
   rw[List.zip_map']at this;obtain⟨⟨j,k⟩,hp,rfl⟩:=av.mp this;obtain⟨hj,hk⟩:=(mem j k).mp hp;have hkl:=(ax.mp hk).1;have hke:k<es.size:=by omega
   have hz:((es.getD k (0,ci)).1,j)∈(es.map (·.1)).toList.zip js:=by rw[List.mem_iff_getElem?];refine⟨k,?_⟩;rw[List.getElem?_zip_eq_some];refine⟨?_,hk⟩;simp[hke,Array.getD]
   have lk:=l.look _ hz;show Lk m _ _ _;refine lk.mono λx hx=>?_;have:=(pmem x).mpr hx;simpa using this
end TT
namespace TT
open PySem PySem.SetTable PySem.Spec PyProof.Rows SX L2
section
variable{prog:bv}{w:c6}{A:di}{E:aj->aq->Prop}{s:aq}
theorem Za6(n:Nat){v:aj}(h:carriedByValue v=aC):ofAClassStatement n v=pure aD:=by
 cases v with
 |ref a=>simp[carriedByValue]at h
 |_=>first|rfl| (unfold ofAClassStatement;rfl)
theorem Vt{m:Nat}{ks:List Key}{a:au}{Q:Bool->aq->Prop}(hk:IsTupleKey (Zp prog w) s.heap ks a)(h:Q aD s):bd (bz prog w) A (ofAClassStatement (m+1) (.ref a)) Q E s:=by
 have hT:=hk.typeIs;obtain⟨o,items,n,ho,_,hd,hi⟩:=hk;unfold ofAClassStatement;refine ab (wpAny_typeOf hT ?_);dsimp only;rw[if_pos (by decide)];refine ab (af ?_);simp only[ga,bm,if_false];refine ab (wpAny_seqItems ho hd ?_);dsimp only;refine ab ?_;rw[<-Array.forIn_toList];refine wpAny_forIn_list _ (λrest r s'=>r.1=aB/\s'=s/\∀v∈rest,carriedByValue v=aC) _ ?_ ?_ _ _ ⟨rfl,rfl,hi.byValue⟩
 ·rintro v rest r s' ⟨hr,rfl,hall⟩;rw[Za6 _ (hall v ad)];refine ab (af ?_);simp only[bm,if_false];exact af ⟨rfl,rfl,λu hu'=>hall u (am _ hu')⟩
 ·rintro⟨r1,r2⟩ s' ⟨hr,rfl,_⟩;simp only at hr;subst hr;exact af h
theorem Zl8{k:Zk}{a:au}{Q:Bool->aq->Prop}(hk:O5 prog w s.heap k a)(h:Q aD s):bd (bz prog w) A (ofAClassStatement 8 (.ref a)) Q E s:=by
 cases k with
 |inl l=>exact Vt hk h
 |inr p=>have hT:=hk.typeIs;obtain⟨n,l⟩:=p;obtain⟨o,items,m,t,b,ho,_,hd,hi,hb⟩:=hk;unfold ofAClassStatement;refine ab (wpAny_typeOf hT ?_);dsimp only;rw[if_pos (by decide)];refine ab (af ?_);simp only[ga,bm,if_false];refine ab (wpAny_seqItems ho hd ?_);dsimp only;refine ab ?_;rw[<-Array.forIn_toList,hi];simp only[List.forIn_cons,List.forIn_nil];rw[Za6 _ (v:=Value.int n t) rfl];refine ab (ab (af ?_));simp only[bm,if_false];refine af ?_;dsimp only;refine ab (ab (Vt hb ?_));simp only[bm,if_false];exact af (af (af h))
theorem Zka(n:Nat){v:aj}(h:carriedByValue v=aC):∃b,hashByValue n v=pure b:=by
 cases v with
 |ref a=>simp[carriedByValue]at h
 |_=>unfold hashByValue;exact⟨_,rfl⟩
theorem Vu{m:Nat}{ks:List Key}{a:au}{Q:Bool->aq->Prop}(hk:IsTupleKey (Zp prog w) s.heap ks a)(h:∀b,Q b s):bd (bz prog w) A (hashByValue (m+1) (.ref a)) Q E s:=by
 have hT:=hk.typeIs;obtain⟨o,items,n,ho,_,hd,hi⟩:=hk;unfold hashByValue;refine ab (wpAny_specialOf hT F.slot_tuple_hash.lookup ?_);refine ab (wpAny_seqItems ho hd ?_);refine ab ?_;show bd _ _ (forIn items _ _) _ _ s;rw[<-Array.forIn_toList];refine wpAny_forIn_list _ (λrest r s'=>r.1=aB/\s'=s/\∀v∈rest,carriedByValue v=aC) _ ?_ ?_ _ _ ⟨rfl,rfl,hi.byValue⟩
 ·rintro v rest r s' ⟨hr,rfl,hall⟩;obtain⟨b,hb⟩:=Zka m (hall v ad);rw[hb];refine ab (af ?_);cases b with
  |true=>simp only[ga,bm,if_false];exact af ⟨rfl,rfl,λu hu'=>hall u (am _ hu')⟩
  |false=>simp only[Bool.not_false,if_true];exact af (af (h _))
 ·rintro⟨r1,r2⟩ s' ⟨hr,rfl,_⟩;simp only at hr;subst hr;exact af (h _)
theorem Zr7{k:Zk}{a:au}{Q:Bool->aq->Prop}(hk:O5 prog w s.heap k a)(h:∀b,Q b s):bd (bz prog w) A (hashByValue 8 (.ref a)) Q E s:=by
 cases k with
 |inl l=>exact Vu hk h
 |inr p=>
  have hT:=hk.typeIs;obtain⟨n,l⟩:=p;obtain⟨o,items,m,t,b,ho,_,hd,hi,hb⟩:=hk;unfold hashByValue;refine ab (wpAny_specialOf hT F.slot_tuple_hash.lookup ?_);refine ab (wpAny_seqItems ho hd ?_);refine ab ?_;show bd _ _ (forIn items _ _) _ _ s;rw[<-Array.forIn_toList,hi];simp only[List.forIn_cons,List.forIn_nil];have e:hashByValue 7 (Value.int n t)=pure aC:=by unfold hashByValue;rfl
  rw[e];refine ab (ab (af ?_));simp only[ga,bm,if_false];refine af ?_;dsimp only;refine ab (ab (Vu hb λbb=>?_));cases bb with
  |true=>simp only[ga,bm,if_false];exact af (af (af (h _)))
  |false=>simp only[Bool.not_false,if_true];exact af (af (af (h _)))
theorem Zok{k:Zk}{a:au}{Q:Bool->aq->Prop}(hk:O5 prog w s.heap k a){ys:List aj}(hy:∀v∈ys,∃k' b,v= .ref b/\O5 prog w s.heap k' b)(h:Q aD s):bd (bz prog w) A (searchCouldBeSeen (.ref a) ys) Q E s:=by
 unfold searchCouldBeSeen;refine ab ?_;refine wpAny_forIn_list _ (λrest r s'=>r.1=aB/\s'=s/\∀v∈rest,∃k' b,v= .ref b/\O5 prog w s.heap k' b) _ ?_ ?_ _ _ ⟨rfl,rfl,hy⟩
 ·rintro v rest r s' ⟨hr,rfl,hall⟩;obtain⟨k',b,rfl,hb⟩:=hall v ad;have go:∀u∈rest,∃k' b,u= .ref b/\O5 prog w s'.heap k' b:=λu hu=>hall u (am _ hu);dsimp only;by_cases hab:(a==b|| (carriedByValue (.ref a)&&carriedByValue (.ref b)))=aC
  ·rw[if_pos hab];exact af ⟨rfl,rfl,go⟩
  ·rw[if_neg hab];refine ab (Nm hk ?_);simp only[ga,bm,if_false];refine ab (Nm hb ?_);simp only[ga,bm,if_false];refine ab (Zl8 hk ?_);simp only[bm,if_false];refine ab (Zl8 hb ?_);simp only[bm,if_false];exact af ⟨rfl,rfl,go⟩
 ·rintro⟨r1,r2⟩ s' ⟨hr,rfl,_⟩;simp only at hr;subst hr;exact af h
theorem Zcy{α:Type}{c:Prop}[Decidable c]{m:Sem Bool}{X K:Sem α}{Q:α->aq->Prop}(hm:∀Q':Bool->aq->Prop,Q' aD s->bd (bz prog w) A m Q' E s)(hK:bd (bz prog w) A K Q E s):
  bd (bz prog w) A (if c then m >>=λr=>if r=aC then X else K else K) Q E s:=by
 split
 ·refine ab (hm _ ?_);simp only[bm,if_false];exact hK
 ·exact hK
noncomputable abbrev ent(prog:bv)(w:c6)(z:Zk×au):Int×Value:=(Ye prog w z.1,bu z.2)
variable{a b:au}{o:Obj}{es:Array (Int×aj)}{ep:Nat}{t:gx}{zs:List (Zk×au)}{k:Zk}
theorem Zgn(he:es.toList=zs.map (ent prog w))(i:Nat):es[i]? =(zs[i]?).map (ent prog w):=by rw[<-cp,he,a8]
theorem Zol(he:es.toList=zs.map (ent prog w))(tb:Tb t (es.toList.map (·.1))){i:Nat}{z:Zk×au}(hz:zs[i]? =aA z):∃n,t.slot (sq t.mask (Ye prog w z.1) n)= .live i/\∀k,k<n->t.slot (sq t.mask (Ye prog w z.1) k)≠.empty:=by
 have hl:zs.length=t.place.toList.length:=by rw[tb.len,he,ag,ag]
 have hi:i<zs.length:=(ax.mp hz).1;have hp:t.place.toList[i]? =aA (t.place.toList[i]'(by omega)):=aw _;have hh:(es.toList.map (·.1))[i]? =aA (Ye prog w z.1):=by rw[he,a8,a8,hz];rfl
 obtain⟨n,e1,e2⟩:=tb.look (Ye prog w z.1,t.place.toList[i]'(by omega)) (List.mem_iff_getElem?.mpr ⟨i,List.getElem?_zip_eq_some.mpr ⟨hh,hp⟩⟩);refine⟨n,?_,λk hk=>?_⟩
 ·refine Tj tb.rise ?_;rw[<-cp,hp];exact congrArg aA e1.symm
 ·have:=e2 k hk;intro z;exact Za2 tb.rise z this
theorem Za7(hu:A.units+1<fg)(hk:O5 prog w s.heap k b)(ho:s.heap.get? a=aA o)(hd:o.data= .set es ep t)(he:es.toList=zs.map (ent prog w))(his:∀z∈zs,O5 prog w s.heap z.1 z.2)(tb:Tb t (es.toList.map (·.1))){N:Nat}(hN:N<10*turns t.mask)(hE:t.slot (sq t.mask (Ye prog w k) N)= .empty){Q:SetFound->aq->Prop}
  (hfound:k∈zs.map (·.1)->∀r,Q (.there r) s) (hfree:∀n,k∉zs.map (·.1)->t.slot (sq t.mask (Ye prog w k) n)= .empty->(∀j,j<n->t.slot (sq t.mask (Ye prog w k) j)≠.empty)->Q (.free (sq t.mask (Ye prog w k) n) aD) s):
  ∀(fuel n:Nat) (st:Option Probe),st.getD (t.probeStart (Ye prog w k))=Wr t.mask n (Jl t.mask (Ye prog w k))->n<=N->N<n+fuel->(∀j,j<n->∃i z,t.slot (sq t.mask (Ye prog w k) j)= .live i/\zs[i]? =aA z/\z.1≠k)->
   bd (bz prog w) A (setSearchFrom a (.ref b) (Ye prog w k) aC fuel st) Q E s
 |0,n,st,_,h1,h2,_=>by omega
 |fuel+1,n,st,hst,h1,h2,hb=>by
  have hfit:t.fits es.size=aC:=tb.fits (by simp);unfold setSearchFrom;refine ab (wpAny_setState_of ho hd hfit ?_);dsimp only;rw[tb.gave];simp only[bm,if_false];rw[hst];have hj:∀j,(Wr t.mask j (Wr t.mask n (Jl t.mask (Ye prog w k)))).j=sq t.mask (Ye prog w k) (n+j):=λj=>by rw[<-Q7]
  unfold SetTable.probe;rcases Za3 tb.dum (λi=>(es[i]?.map (·.1)).getD 0) (Ye prog w k) (10*turns t.mask) (Wr t.mask n (Jl t.mask (Ye prog w k))) ((Vr _ _ _).trans rfl) ⟨N- n,by omega,by rw[hj,show n+(N- n)=N by omega];exact hE⟩with⟨m,g1,g2,g3,g4⟩|⟨m,i,g1,g2,g3,g4,g5⟩
  ·have key:∀f:Nat->Int,f=(λi=>(es[i]?.map (·.1)).getD 0)->SetTable.probe.go t f (Ye prog w k) (10*turns t.mask) (Wr t.mask n (Jl t.mask (Ye prog w k)))=aA (.empty (Wr t.mask m (Wr t.mask n (Jl t.mask (Ye prog w k)))).j aB):=λf hf=>by rw[hf];exact g2
   rw[key]
   case a=>rfl
   dsimp only;rw[hj]at g3⊢;refine af (hfree (n+m) ?_ g3 λj hjm=>?_)
   ·intro hin;obtain⟨z,hz,ez⟩:=av.mp hin;obtain⟨i0,hi0,e0⟩:=fq hz;have hz0:zs[i0]? =aA z:=ax.mpr ⟨hi0,e0⟩;obtain⟨n0,q1,q2⟩:=Zol he tb hz0;rw[ez]at q1 q2;rcases Nat.lt_trichotomy n0 (n+m)with c|c|c
    ·rcases dv n0 n with c'|c'
     ·obtain⟨i,z',w1,w2,w3⟩:=hb n0 c';rw[q1]at w1;cases w1;rw[hz0]at w2;cases w2;exact w3 ez
     ·obtain⟨i,w1,w2⟩:=g4 (n0- n) (by omega);rw[hj,show n+(n0- n)=n0 by omega,q1]at w1;cases w1;apply w2;show(es[i0]?.map (·.1)).getD 0=_;rw[Zgn he,hz0,<-ez];rfl
    ·rw[<-c,q1]at g3;cases g3
    ·exact q2 _ c g3
   ·rcases dv j n with c|c
    ·obtain⟨i,z',w1,_⟩:=hb j c;rw[w1];exact λz=>nomatch z
    ·obtain⟨i,w1,_⟩:=g4 (j- n) (by omega);rw[hj,show n+(j- n)=j by omega]at w1;rw[w1];exact λz=>nomatch z
  ·have key:∀f:Nat->Int,f=(λi=>(es[i]?.map (·.1)).getD 0)->SetTable.probe.go t f (Ye prog w k) (10*turns t.mask) (Wr t.mask n (Jl t.mask (Ye prog w k)))=aA (.candidate (Wr t.mask m (Wr t.mask n (Jl t.mask (Ye prog w k)))).j i (Wr t.mask (m+1) (Wr t.mask n (Jl t.mask (Ye prog w k))))):=λf hf=>by rw[hf];exact g2
   rw[key]
   case a=>rfl
   dsimp only;have hp:=Pl g3;have hil:i<zs.length:=by have:=(gd.mp hp).1;have l:=tb.len;rw[he,ag,ag,a6]at l;omega
   have hz0:zs[i]? =aA zs[i]:=aw hil;have hzi:=his zs[i] (List.getElem_mem hil);generalize zs[i]=z at hz0 hzi;have hes:es[i]? =aA (Ye prog w z.1,bu z.2):=by rw[Zgn he,hz0];rfl
   refine Zcy (λQ' q=>Zok hk (λv hv=>?_) q) ?_
   ·obtain⟨e,hem,rfl⟩:=av.mp hv;have:e∈es.toList:=by have:=Array.mem_toList_iff.mp hem;exact Array.mem_toList_iff.mpr (Array.mem_filter.mp this).1
    rw[he]at this;obtain⟨z',hz',rfl⟩:=av.mp this;exact⟨z'.1,z'.2,rfl,his z' hz'⟩
   rw[hes];dsimp only;refine ab (wpAny_holding (Zpk hu hzi hk ?_));refine ab (wpAny_setState_of ho hd hfit ?_);dsimp only;by_cases hzk:z.1=k
   ·rw[decide_eq_true hzk];simp only[Bool.and_self,if_true];exact af (hfound (av.mpr ⟨z,b6 hz0,hzk⟩) _)
   ·rw[decide_eq_false hzk];simp only[Bool.and_false,bm,if_false];have hsm:t.sameMemory t.moves t.mask=aA aC:=by unfold SetTable.sameMemory;simp
    rw[hsm];simp only[if_true];rw[g3];dsimp only;rw[hes];dsimp only;refine ab (wpAny_isSame_ref_self ?_);simp only[if_true];refine ab (af ?_);dsimp only;have hNle:n+m+1<=N:=by
     have:¬N<=n+m:=λc=>by
      rcases Nat.lt_or_eq_of_le c with c|c
      ·rcases dv N n with c'|c'
       ·omega
       ·obtain⟨i',w1,_⟩:=g5 (N- n) (by omega);rw[hj,show n+(N- n)=N by omega,hE]at w1;cases w1
      ·rw[hj,<-c,hE]at g3;cases g3
     omega
    refine Za7 hu hk ho hd he his tb hN hE hfound hfree fuel (n+m+1) _ ?_ hNle (by omega) λj hjm=>?_
    ·show Wr t.mask (m+1) (Wr t.mask n (Jl t.mask (Ye prog w k)))=_;rw[<-Q7,<-Nat.add_assoc]
    ·rcases dv j n with c|c
     ·exact hb j c
     ·rcases dv j (n+m)with c'|c'
      ·obtain⟨i',w1,w2⟩:=g5 (j- n) (by omega);rw[hj,show n+(j- n)=j by omega]at w1;have hp':=Pl w1;have hil':i'<zs.length:=by have:=(gd.mp hp').1;have l:=tb.len;rw[he,ag,ag,a6]at l;omega
       refine⟨i',zs[i'],w1,aw hil',λzz=>w2 ?_⟩;show(es[i']?.map (·.1)).getD 0=_;rw[Zgn he,aw hil',<-zz];rfl
      ·have:j=n+m:=by omega
       subst this;rw[hj]at g3;exact⟨i,z,g3,hz0,hzk⟩
end
end TT
namespace TT
open PySem PySem.SetTable PySem.Spec PyProof.Rows SX L2
noncomputable def Aa(prog:bv)(w:c6)(B:Bool)(h:f8)(o:Obj)(xs:List (Zk×au)):Prop:=
 ∃(es:Array (Int×aj)) (ep:Nat) (t:gx) (zs:List (Zk×au)),o.ExactSet/\o.data= .set es ep t/\es.toList=zs.map (ent prog w)/\zs.Perm xs/\(xs.map (·.1)).Nodup/\(∀z∈xs,O5 prog w h z.1 z.2)/\Tb t (es.toList.map (·.1))/\t.led= !B/\es.size*5<t.mask*3
noncomputable def Rl(xs:List (Zk×au))(k:Zk)(b:au):List (Zk×au):=if(xs.any λz=>decide (z.1=k))=aC then xs else xs++[(k,b)]
theorem Ma{xs:List (Zk×au)}{k:Zk}:(xs.any λz=>decide (z.1=k))=aC↔k∈xs.map (·.1):=by
 rw[List.any_eq_true,av];constructor
 ·rintro⟨z,hz,e⟩;exact⟨z,hz,of_decide_eq_true e⟩
 ·rintro⟨z,hz,e⟩;exact⟨z,hz,decide_eq_true e⟩
section
variable{prog:bv}{w:c6}{A:di}{E:aj->aq->Prop}{s:aq}
theorem O5.but{h h':f8}{k:Zk}{a d:au}{o:Obj}{es:Array (Int×aj)}{ep:Nat}{t:gx}(x:O5 prog w h k a)(ho:h.get? d=aA o)(hd:o.data= .set es ep t)(hs:∀b u,b≠d->h.get? b=aA u->h'.get? b=aA u):O5 prog w h' k a:=by
 have ne:∀{c:au} {u:Obj} {its n},h.get? c=aA u->u.data= .seq its n->c≠d:=fun{c u its n} e1 e2 z=>by subst z;rw[ho]at e1;cases e1;rw[hd]at e2;cases e2
 cases k with
 |inl l=>obtain⟨u,its,n,e,c,d',r⟩:=x;exact⟨u,its,n,hs _ _ (ne e d') e,c,d',r⟩
 |inr p=>obtain⟨u,its,n,tt,b,e,c,d',ei,⟨u2,i2,n2,e2,c2,d2,r2⟩⟩:=x;exact⟨u,its,n,tt,b,hs _ _ (ne e d') e,c,d',ei,u2,i2,n2,hs _ _ (ne e2 d2) e2,c2,d2,r2⟩
theorem Mj{α β:Type}{f:α->β}{l:List β}{m:List β}(p:l.Perm m):∀zs:List α,m=zs.map f->∃l':List α,l'.Perm zs/\l=l'.map f:=by
 induction p with
 |nil=>intro zs e;cases zs with
  |nil=>exact⟨[],List.Perm.nil,rfl⟩
  |cons z zs=>cases e
 | @cons x l1 l2 _ ih=>intro zs e;cases zs with
  |nil=>cases e
  |cons z zs=>injection e with e1 e2;obtain⟨l',p',e'⟩:=ih zs e2;exact⟨z::l',p'.cons z,by rw[a7,e1,e']⟩
 |swap x y l=>intro zs e;cases zs with
  |nil=>cases e
  |cons z zs=>cases zs with
   |nil=>cases e
   |cons z2 zs=>injection e with e1 e2;injection e2 with e2 e3;exact⟨z2::z::zs,List.Perm.swap z z2 zs,by rw[a7,a7,e1,e2,e3]⟩
 |trans _ _ ih1 ih2=>intro zs e;obtain⟨l2,p2,e2⟩:=ih2 zs e;obtain⟨l3,p3,e3⟩:=ih1 l2 e2;exact⟨l3,p3.trans p2,e3⟩
theorem Zur{B:Bool}{a b:au}{o:Obj}{xs:List (Zk×au)}{k:Zk}{Q:Bool->aq->Prop}(hu:A.units+1<fg)(ho:s.heap.get? a=aA o)(hO:Aa prog w B s.heap o xs)(hk:O5 prog w s.heap k b)(hr:xs.length+1<=76)
  (h:∀h' o' r,gz a s.heap h'->h'.get? a=aA o'->Aa prog w B h' o' (Rl xs k b)->Q r {s with heap:=h'}):
  bd (bz prog w) A (setAddHashed a (.ref b) (Ye prog w k)) Q E s:=by
 obtain⟨es,ep,t,zs,hx,hd,he,pm,nd,his,tb,hled,hroom⟩:=hO;have hisz:∀z∈zs,O5 prog w s.heap z.1 z.2:=λz hz=>his z (pm.mem_iff.mp hz);have hfit:t.fits es.size=aC:=tb.fits (by simp);have zl:zs.length=es.size:=by rw[<-a6,he,ag]
 have xl:xs.length=es.size:=by rw[<-pm.length_eq,zl]
 have kz:k∈zs.map (·.1)↔k∈xs.map (·.1):=(pm.map _).mem_iff;unfold setAddHashed;refine wpAny_holding ?_;unfold setAddHashedIn;refine ab (wpAny_setState_of ho hd hfit ?_);dsimp only;rw[show byScan (bu b) es=aD from rfl];simp only[bm,if_false];obtain⟨N,hN,hE⟩:=tb.empty (Ye prog w k);unfold setSearch;have hmask:t.mask<=127:=by rcases tb.msk with e|e|e<;> omega
 refine ab (Za7 hu hk ho hd he hisz tb hN hE (λhin r=>?_) (λn hni hEn hbn=>?_) 100000 0 aB rfl (fu _) (by unfold turns at hN;omega) (λj hj=>absurd hj (dz _)))
 ·dsimp only;refine af ?_;refine h s.heap o aD (Heap.SameBut.refl a s.heap) ho ?_;unfold Rl;rw[if_pos (Ma.mpr (kz.mp hin))];exact⟨es,ep,t,zs,hx,hd,he,pm,nd,his,tb,hled,hroom⟩
 ·dsimp only;have hni':k∉xs.map (·.1):=λz=>hni (kz.mpr z);refine ab (wpAny_setState_of ho hd hfit ?_);dsimp only;have hcase:es.size+1<=t.mask:=by rcases tb.msk with e|e|e<;> omega
  have tb1:=tb.put (Ye prog w k) hEn hbn (by rw[ag,a6];exact hcase);have hput:(t.put (sq t.mask (Ye prog w k) n)).2=below t.place (sq t.mask (Ye prog w k) n):=rfl;have hmk:(t.put (sq t.mask (Ye prog w k) n)).1.mask=t.mask:=rfl;have hld:(t.put (sq t.mask (Ye prog w k) n)).1.led=t.led:=rfl;rw[hput];generalize below t.place (sq t.mask (Ye prog w k) n)=p at tb1⊢;generalize (t.put (sq t.mask (Ye prog w k) n)).1=t1 at tb1 hmk hld⊢;have he1:(insertAt es p (Ye prog w k,bu b)).toList=(zs.take p++(k,b)::zs.drop p).map (ent prog w):=by rw[SetTable.toList_insertAt,he,b4,a7,List.map_take,List.map_drop]
  have hh1:(insertAt es p (Ye prog w k,bu b)).toList.map (·.1)=(es.toList.map (·.1)).take p++Ye prog w k::(es.toList.map (·.1)).drop p:=by rw[SetTable.toList_insertAt,b4,a7,List.map_take,List.map_drop]
  have sz1:(insertAt es p (Ye prog w k,bu b)).size=es.size+1:=by rw[<-a6,SetTable.toList_insertAt,ay,bc,List.length_take,List.length_drop,a6];omega
  rw[<-hh1]at tb1;have pm1:(zs.take p++(k,b)::zs.drop p).Perm (xs++[(k,b)]):=by refine List.perm_middle.trans ?_;rw[List.take_append_drop];exact(pm.cons _).trans (List.perm_append_singleton _ _).symm
  have Ku:((xs++[(k,b)]).map (·.1)).Nodup:=by rw[b4,cu];refine⟨nd,by simp,λx hx y hy=>?_⟩;simp only[a7,List.map_nil,ao]at hy;subst hy;exact λz=>hni' (z▸hx)
  generalize insertAt es p (Ye prog w k,bu b)=es1 at he1 tb1 sz1⊢;generalize zs.take p++(k,b)::zs.drop p=zs1 at he1 pm1;have hfin:∀h' o' r,gz a s.heap h'->h'.get? a=aA o'->Aa prog w B h' o' (xs++[(k,b)])->Q r {s with heap:=h'}:=λh' o' r x y z=>h h' o' r x y (by unfold Rl;rw[if_neg λy=>hni' (Ma.mp y)];exact z);have his1:∀h',gz a s.heap h'->∀z∈xs++[(k,b)],O5 prog w h' z.1 z.2:=λh' sb z hz=>by
   have hold:O5 prog w s.heap z.1 z.2:=by
    rcases bh.mp hz with q|q
    ·exact his z q
    ·rw[ao.mp q];exact hk
   exact O5.but hold ho hd λc u hc e=>(sb.2 c hc).trans e
  have tail:∀(t2:gx),Tb t2 (es1.toList.map (·.1))->t2.mask=t.mask->t2.led=t.led->bd (bz prog w) A (do
    storeSet a es1 t2
    if(!aD&&t2.tooFull)=aC then do
     setRelay a (grown (es.size+1))
     pure aC
    else pure aC) Q E s:=λt2 tb2 m2 l2=>by
   refine ab (wpAny_storeSet_of ho hd ?_ (by rw[sz1,ff];omega));have o1:(s.heap.update a (Obj.putSet es1 t2)).get? a=aA {o with data:=.set es1 (ep+1) t2}:=by have z:=gv (Obj.putSet es1 t2) ho (by rw[putSet_of es1 t2 hd];rfl);rw[putSet_of es1 t2 hd]at z;exact z
   have b1:=gr s.heap a (Obj.putSet es1 t2);have fl:t2.fill=es.size+1:=by unfold SetTable.fill;have:=tb2.len;rw[ag,a6,a6]at this;rw[tb2.dum,this,sz1];rfl
   by_cases hf:t2.tooFull=aC
   ·rw[if_pos (by rw[hf];rfl)];have hge:(es.size+1)*5>=t.mask*3:=by unfold SetTable.tooFull at hf;rw[fl,m2]at hf;exact of_decide_eq_true hf
    have hS:Msk (sizeAbove (grown (es.size+1))- 1)/\es1.size<=sizeAbove (grown (es.size+1))- 1/\es1.size*5<(sizeAbove (grown (es.size+1))- 1)*3/\sizeAbove (grown (es.size+1))<=128:=by
     rw[sz1];rcases tb.msk with e|e|e
     ·have:es.size=4:=by omega
      rw[this];exact⟨.inr (.inl (by decide)),by decide,by decide,by decide⟩
     ·have:es.size=18:=by omega
      rw[this];exact⟨.inr (.inr (by decide)),by decide,by decide,by decide⟩
     ·omega
    refine ab ?_;unfold setRelay;refine ab (wpAny_setState_of (s:={s with heap:=s.heap.update a (Obj.putSet es1 t2)}) o1 rfl (tb2.fits (by simp)) ?_);dsimp only;rw[if_neg (by rw[ff];have:=hS.2.2.2;omega)];obtain⟨t3,order,q1,q2,q3,q4⟩:=Zcx (t:=t2) (es:=es1) hS.1 hS.2.1;have q1':t2.relaid (es1.map (·.1)) (grown (es.size+1))=aA (t3,order):=q1;rw[q1'];have hmk3:t3.mask=sizeAbove (grown (es.size+1))- 1:=by unfold SetTable.relaid SetTable.laid at q1;obtain⟨ow,_,z⟩:=aa.mp q1;cases z;rfl
    have sz3:(order.filterMap λi=>es1[i]?).size=es1.size:=by rw[<-a6,q3.length_eq,a6]
    refine ab ?_;show bd _ _ (if((order.filterMap λi=>es1[i]?).size !=es1.size)=aC then _ else _) _ _ _;rw[if_neg (by rw[sz3];simp)];refine af ?_;dsimp only;refine wpAny_storeSet_of (s:={s with heap:=s.heap.update a (Obj.putSet es1 t2)}) o1 rfl ?_ (by rw[sz3,sz1,ff];omega);have o2:=gv (Obj.putSet (order.filterMap λi=>es1[i]?) t3) o1 (by rw[putSet_of _ t3 rfl];rfl);rw[putSet_of _ t3 rfl]at o2;have b2:=b1.trans (gr _ a (Obj.putSet (order.filterMap λi=>es1[i]?) t3));generalize (order.filterMap λi=>es1[i]?)=es3 at q3 q4 sz3 o2 b2⊢;have he3:∃zs3:List (Zk×au),es3.toList=zs3.map (ent prog w)/\zs3.Perm zs1:=by rw[he1]at q3;obtain⟨l3,r1,r2⟩:=Mj q3 zs1 rfl;exact⟨l3,r2,r1⟩
    obtain⟨zs3,r1,r2⟩:=he3;refine af (hfin _ _ aC b2 o2 ⟨es3,_,t3,zs3,hx,rfl,r1,r2.trans pm1,Ku,his1 _ b2,q4,by rw[q2,l2];exact hled,?_⟩);rw[sz3,hmk3];exact hS.2.2.1
   ·rw[if_neg (by simpa using hf)];refine af (hfin _ _ aC b1 o1 ⟨es1,_,t2,zs1,hx,rfl,he1,pm1,Ku,his1 _ b1,tb2,by rw[l2];exact hled,?_⟩);unfold SetTable.tooFull at hf;rw[fl,m2]at hf;rw[sz1,m2];have:¬(es.size+1)*5>=t.mask*3:=λz=>hf (decide_eq_true z);omega
  by_cases hpl:t1.plain=aC
  ·rw[if_pos hpl];refine ab (Zr7 hk λbb=>?_);cases bb with
   |true=>exact tail t1 tb1 hmk hld
   |false=>exact tail {t1 with plain:=aD} tb1.plainOff hmk hld
  ·rw[if_neg hpl];refine ab (af ?_);exact tail t1 tb1 hmk hld
end
end TT
namespace TT
open PySem PySem.SetTable PySem.Spec PyProof.Rows SX L2
noncomputable def Lm(ys:List (Zk×au)):List (Zk×au):=ys.foldl (λacc y=>Rl acc y.1 y.2) []
theorem Zgo(xs:List (Zk×au))(k:Zk)(b:au):(Rl xs k b).length<=xs.length+1:=by
 unfold Rl;split
 ·omega
 ·simp
theorem Zgp{xs:List (Zk×au)}{k:Zk}{b:au}{z:Zk×au}(h:z∈Rl xs k b):z∈xs\/z=(k,b):=by
 unfold Rl at h;split at h
 ·exact .inl h
 ·rcases bh.mp h with q|q
  ·exact .inl q
  ·exact .inr (ao.mp q)
theorem Zgq{ys:List (Zk×au)}{i:Nat}{y:Zk×au}(h:ys[i]? =aA y):Lm (ys.take (i+1))=Rl (Lm (ys.take i)) y.1 y.2:=by unfold Lm;rw[List.take_add_one,h];simp
theorem Ty:∀(ys acc:List (Zk×au)),(ys.foldl (λacc y=>Rl acc y.1 y.2) acc).length<=acc.length+ys.length
 | [],acc=>by simp
 |y::ys,acc=>by rw[List.foldl_cons];have h1:=Ty ys (Rl acc y.1 y.2);have h2:=Zgo acc y.1 y.2;rw[bc];omega
theorem Zkb(ys:List (Zk×au)):(Lm ys).length<=ys.length:=by have:=Ty ys [];simpa[Lm]using this
theorem Tz:∀(ys acc:List (Zk×au)) (z:Zk×au),z∈ys.foldl (λacc y=>Rl acc y.1 y.2) acc->z∈acc\/z∈ys
 | [],acc,z,h=>.inl h
 |y::ys,acc,z,h=>by
  rw[List.foldl_cons]at h;rcases Tz ys _ z h with q|q
  ·rcases Zgp q with r|r
   ·exact .inl r
   ·exact .inr (by rw[r];exact ad)
  ·exact .inr (am _ q)
theorem Pn{ys:List (Zk×au)}{z:Zk×au}(h:z∈Lm ys):z∈ys:=by
 rcases Tz ys [] z h with q|q
 ·exact nomatch q
 ·exact q
theorem Aa.re{prog:bv}{w:c6}{B:Bool}{h h':f8}{o:Obj}{xs:List (Zk×au)}(x:Aa prog w B h o xs)(hk:∀z∈xs,O5 prog w h' z.1 z.2):Aa prog w B h' o xs:=by obtain⟨es,ep,t,zs,a,b,c,d,e,_,f⟩:=x;exact⟨es,ep,t,zs,a,b,c,d,e,hk,f⟩
noncomputable def Kpt(h0 h:f8):Prop:=∀b o,h0.get? b=aA o->h.get? b=aA o
section
variable{prog:bv}{w:c6}{A:di}{R:Result->aq->Prop}{I:au}{fp wr:List au}{G:Array GenState->Array GenState->Prop}{n:Nat}{P:Nat->aj->Prop}{St:Nat->aq->Prop}
theorem Zr8{B:Bool}(W:WalksS prog w A.in1 I fp wr G n P St)(S:au)(hS:S∉fp)(hu:A.in1.units+1<fg){h0:f8}(hS0:h0.get? S=aB)(hw0:∀b∈wr,h0.get? b=aB)(ys:List (Zk×au))(hl:ys.length=n)(hv:∀i v,P i v->∃y,ys[i]? =aA y/\v= .ref y.2)(hys:∀y∈ys,O5 prog w h0 y.1 y.2)(hb:n<=75):
  ∀(m i:Nat) (s:aq) (o:Obj),i+m=n->St i s->Kpt h0 s.heap->s.heap.get? S=aA o->Aa prog w B s.heap o (Lm (ys.take i))->
  (∀s' o',Moved (S::wr) G s s'->Kpt h0 s'.heap->s'.heap.get? S=aA o'->Aa prog w B s'.heap o' (Lm ys)->R (.ok (.ret .none)) s')->codeAny (bz prog w) A (.builtin "set.update.loop" ⟨[.ref S,.ref I],[]⟩) R s:=by
 have nw:S∉wr:=λz=>hS (W.sub _ z);have up:∀b∈wr,b∈S::wr:=λ_ z=>am _ z;have kz:∀{l:List (Zk×au)} {h:f8},Kpt h0 h->(∀z∈l,z∈ys)->∀z∈Lm l,O5 prog w h z.1 z.2:=fun{l h} kp hl z hz=>(hys z (hl z (Pn hz))).mono kp;have tk:∀i,∀z∈ys.take i,z∈ys:=λi z hz=>List.mem_of_mem_take hz;intro m;induction m with
 |zero=>intro i s o hi st kp ho hO hR;obtain rfl:i=n:=hi;refine gn PyProof.Rows.F.entry_set_update_loop ?_;rw[f9 PyProof.Rows.F.plain_set_update_loop _];show bd _ A.in1 (pyNext (.ref I) >>=_) _ _ s;refine ab (W.done s _ _ st λs' mv=>?_);have kp':Kpt h0 s'.heap:=λb x e=>mv.heap b x (λz=>by rw[hw0 b z]at e;cases e) (kp b x e);rw[<-hl,List.take_length]at hO;exact af (hR s' o (mv.mono up) kp' (mv.heap S _ nw ho) (hO.re (kz kp' λ_ z=>z)))
 |succ m ih=>
  intro i s o hi st kp ho hO hR;have hlt:i<n:=by omega
  refine gn PyProof.Rows.F.entry_set_update_loop ?_;rw[f9 PyProof.Rows.F.plain_set_update_loop _];show bd _ A.in1 (pyNext (.ref I) >>=_) _ _ s;refine ab (W.item i s _ _ hlt st λv s1 pv st1 mv=>?_);obtain⟨y,hy,rfl⟩:=hv i v pv;have ho1:=mv.heap S _ nw ho;have kp1:Kpt h0 s1.heap:=λb x e=>mv.heap b x (λz=>by rw[hw0 b z]at e;cases e) (kp b x e);have hny:O5 prog w s1.heap y.1 y.2:=(hys y (b6 hy)).mono kp1;show bd _ A.in1 (holding [bu y.2] (setAdd S (.ref y.2)) >>=_) _ _ s1;refine ab (wpAny_holding ?_);unfold setAdd;refine wpAny_holding (ab (Zdx hu hny ?_));refine Zur (s:={s1 with toks:=s1.toks+Ay y.1}) (B:=B) (xs:=Lm (ys.take i)) hu ho1 (hO.re (kz kp1 (tk i))) hny (by have:=Zkb (ys.take i);rw[List.length_take]at this;omega) λh2 o2 b sb g2 O2=>?_;have kp2:Kpt h0 h2:=λc x e=>by
   have hc:c≠S:=λz=>by rw[z,hS0]at e;cases e
   rw[sb.2 c hc];exact kp1 c x e
  refine af ⟨plainId_quiet PyProof.Rows.F.plain_set_update_loop _,ih (i+1) _ o2 (by omega) (W.frame _ s1 _ _ st1 (Nat.le_add_right _ _) λc hc x e=>?_) kp2 g2 ?_ λs3 o3 m3 k3 g3 O3=>?_⟩
  ·rw[sb.2 c λz=>hS (z▸hc)];exact e
  ·rw[Zgq hy];exact O2
  ·refine hR s3 o3 (Moved.trans W.gtrans ((mv.mono up).then_heap (Nat.le_add_right _ _) λc x hc e=>?_) m3) k3 g3 O3;rw[sb.2 c λz=>hc (z▸ad)];exact e
end
section
variable{prog:bv}{w:c6}{A:di}{E:aj->aq->Prop}{s:aq}
theorem Zr9{h:f8}:Aa prog w (By w) h (Td w) []:=⟨#[],0,_,[],⟨rfl,rfl,rfl⟩,rfl,rfl,List.Perm.nil,cm,(λz hz=>nomatch hz),Tb.fresh _ _ _,rfl,by show 0*5<7*3;decide⟩
theorem Zgr{l:au}{its:Array aj}{ys:List (Zk×au)}{Q:aj->aq->Prop}(hh:A.handled=aB)(hu:A.units+5<fg)(hl:s.heap.IsList l its)(hi:its.toList=ys.map λy=>bu y.2)(hys:∀y∈ys,O5 prog w s.heap y.1 y.2)(hb:ys.length<=75)
  (h:∀(h':f8) (tk:Nat) (o:Obj),h'.get? s.heap.objs.size=aA o->Aa prog w (By w) h' o (Lm ys)->(∀b x,b<s.heap.objs.size->s.heap.get? b=aA x->h'.get? b=aA x)->Q (.ref s.heap.objs.size) {s with heap:=h',toks:=tk}):
  bd (bz prog w) A (call (.type "set") [.ref l]) Q E s:=by
 have hsz:its.size=ys.length:=by rw[<-a6,hi,ag]
 obtain⟨c,tl,hmro⟩:=PySem.F.called_set.mro;have hmade:=PySem.F.called_set.made;have hsub:=PySem.F.called_set.sub;have h1:=PySem.F.called_set.notType;have h2:=PySem.F.called_set.canCreate;have hct:=PySem.F.typeCall_set_1 (.ref l);refine wpAny_call (codeAny_of_tree ?_);show bd _ _ (callAny (.type "set") _) _ _ _;refine af ⟨Code.quiet_builtin _ (by decide+kernel),gn PySem.F.entry_type_call ?_⟩;rw[Around.under_plain (weight_type_call_type "set" [.ref l] []) rfl]
 repeat (any_goals (first|assumption|wp_step))
 refine codeAny_mono (Zj3 (.ref l) (E:=E) (Q:=λv s1=>v= .ref s.heap.objs.size/\s1={s with heap:=s.heap.push (Td w)}) ⟨rfl,rfl⟩) λr s1 hr=>?_;cases r with
 |error e=>exact hr
 |ok fl=>
  cases fl with
  |ret obj=>
   obtain⟨rfl,rfl⟩:=hr;have hS:(s.heap.push (Td w)).get? s.heap.objs.size=aA (Td w):=a9 _ rfl;have hT:Shared.TypeIs {s with heap:=s.heap.push (Td w)} (.ref s.heap.objs.size) "set":=⟨_,hS,rfl⟩
   have hli:=PySem.F.called_set.init.lookup;have hbi:=PySem.F.called_set.init.bind (.ref s.heap.objs.size)
   repeat (any_goals (first|assumption|wp_step))
   refine codeAny_mono (codeAny_call_builtin (R:=wants (λr s2=>r= .none/\∃h' tk o,s2={s with heap:=h',toks:=tk}/\h'.get? s.heap.objs.size=aA o/\Aa prog w (By w) h' o (Lm ys)/\(∀b x,b<s.heap.objs.size->s.heap.get? b=aA x->h'.get? b=aA x)) E)
    PySem.F.called_set.init.plain PySem.F.entry_set_init (check_set_init_1 hT ?_)) λr2 s2 hr2=>?_
   ·obtain⟨ol,hol,hcl,nl,hdl⟩:=hl;obtain⟨ocls,od,odata,osl⟩:=ol;simp only at hcl hdl;subst hcl hdl;have hol':(s.heap.push (Td w)).get? l=aA {cls:=.type "list",dict:=od,data:=.seq its nl,slots:=osl}:=ar _ hol;have hsa:=PySem.F.sub_list_set;have hsb:=PySem.F.sub_list_frozenset;have hsc:(Value.type "list"==Value.type "dict")=aD:=by decide
    have hl1:(s.heap.push (Td w)).IsList l its:=⟨_,hol',rfl,nl,rfl⟩
    unfold Builtin.«set.__init__» noKeywords Builtin.Frozenset.updateFrom;generalize hPI:pyIter=PI;wp_walk;subst hPI;refine wpAny_pyIter_list hl1 (ab (wpAny_runValue ?_));have ll:l<s.heap.objs.size:=bf hol;have hh3:A.in1.in1.in1.handled=aB:=by simp[hh]
    have sz:(s.heap.push (Td w)).objs.size=s.heap.objs.size+1:=Heap.size_push _ _;have ne:l≠(s.heap.push (Td w)).objs.size:=by rw[sz];exact b9 (Nat.lt_succ_of_lt ll)
    have nf:s.heap.objs.size∉[(s.heap.push (Td w)).objs.size,l]:=by rw[sz];simp only[bo,List.not_mem_nil,or_false,not_or];exact⟨b9 (Nat.lt_succ_self _),Nat.ne_of_gt ll⟩
    refine Zr8 (h0:=s.heap) ((Walks.list hh3 _ l ne its).toS) s.heap.objs.size nf (by show A.units+1+1+1+1<fg;omega) (Heap.get?_none_of_le (az _)) (λb hb'=>?_) ys hsz.symm (λi v hv=>?_) hys (by omega) its.size 0 _ (Td w) (by omega)
     ⟨⟨_,a9 _ rfl,rfl,rfl⟩,(hl1.push _)⟩ (λb o e=>ar _ (ar _ e)) (ar _ hS) Zr9 λs' o' mv kp go Oo=>?_
    ·have:b=(s.heap.push (Td w)).objs.size:=by simpa using hb'
     rw[this,sz];exact Heap.get?_none_of_le (Nat.le_succ _)
    ·have hv':its[i]? =aA v:=hv;rw[<-cp,hi,a8]at hv';obtain⟨y,hy,rfl⟩:=cq.mp hv';exact⟨y,hy,rfl⟩
    have eg:s'.gens=s.gens:=mv.gens;have ed:s'.drawn=s.drawn:=mv.drawn;have eo:s'.os=s.os:=mv.os;have es:s'={s with heap:=s'.heap,toks:=s'.toks}:=by cases s';simp only at eg ed eo;subst eg ed eo;rfl
    show bd _ _ _ _ _ _;refine af ?_;show bd _ _ (ret ci) _ _ _;exact af ⟨rfl,s'.heap,s'.toks,o',es,go,Oo,λb x hb e=>kp b x e⟩
   ·cases r2 with
    |error e=>exact hr2
    |ok f2=>
     cases f2 with
     |ret r=>
      obtain⟨rfl,h',tk,o',rfl,g',O',k'⟩:=hr2
      repeat (any_goals (first|assumption|wp_step))
      exact h _ _ _ g' O' k'
     |_=>exact hr2.elim
  |_=>exact hr.elim
end
section
variable{prog:bv}{w:c6}{A:di}{E:aj->aq->Prop}{s:aq}{I r S:au}{o:Obj}{es:Array (Int×aj)}{ep:Nat}{t:gx}
theorem Zus{R:Result->aq->Prop}{res:aj}{c:Nat}(hh:A.handled=aB)(ho:s.heap.get? r=aA o)(hx:o.ExactSet)(hd:o.data= .set es ep t)(hf:t.fits es.size=aC)(hled:t.led= !By w)(rise:Rh t.place.toList)(hr:es.size<=1000)(hS:S≠r)(hl:s.heap.get? S=aA (Fw #[] c))
  (hR:∀(h':f8) d c' (ord:List aj),ord.Perm (es.toList.map (·.2))->(∀b x,b≠S->s.heap.get? b=aA x->h'.get? b=aA x)->h'.get? S=aA (Fw ord.toArray c')->R (.ok (.ret res)) {s with heap:=h',drawn:=d}):
  bd (bz prog w) A.in1 (Builtin.List.listExtendWith (.ref S) (.ref r) res) (λfin s'=>match fin with| .done f=>R (.ok f) s'| .again c'=>c'.quiet=aC/\codeAny (bz prog w) A c' R s') (λe s'=>R (.error e) s') s:=by
 have hb:es.size<scanBound:=by unfold scanBound;omega
 have psz:t.place.size=es.size:=by unfold SetTable.fits at hf;simp only[Bool.and_eq_true,beq_iff_eq]at hf;exact hf.1
 have hT:s.TypeIs (.ref r) "set":=⟨o,ho,hx.1⟩
 have hlS:S<s.heap.objs.size:=bf hl;have hlr:r<s.heap.objs.size:=bf ho;unfold Builtin.List.listExtendWith;refine ab (wpAny_typeOf (T:="set") hT ?_);have z1:Builtin.List.listSameRef (.ref S) (.ref r)=aD:=by simp[Builtin.List.listSameRef,hS]
 have z2:(Value.type "set"==Value.type "list")=aD:=by decide
 have z3:(Value.type "set"==Value.type "tuple")=aD:=by decide
 simp only[z1,z2,z3,Bool.or_false,bm,if_false];have hh':A.in1.handled=aB:=hh;refine ab (Zj4 ho hx hd hf hb (λhc=>?_) λhc ps d hp=>?_)
 ·have rI:r≠s.heap.objs.size:=b9 hlr;have SI:S≠s.heap.objs.size:=b9 hlS;have nf:S∉[s.heap.objs.size,r]:=by simp only[bo,List.not_mem_nil,or_false,not_or];exact⟨SI,hS⟩
  have old:∀b x,s.heap.get? b=aA x->b≠s.heap.objs.size:=λb x e=>b9 (bf e);cases hB:By w with
  |false=>
   have hl':t.led=aC:=by rw[hled,hB];rfl
   have hp:(!t.plain&&decide (es.size > 1))=aD:=by rw[hB]at hc;simpa using hc
   refine Pi (Hr hh' rI hd hf hB hl' hp rise psz) nf (by rw[ag,a6];omega) ⟨o,ar _ ho,hx.1⟩ ⟨a9 _ rfl,ar _ ho⟩ (ar _ hl) (f:=λb=>b||_) λh' c' k g=>?_;exact hR h' s.drawn c' _ (List.Perm.refl _) (λb x hb e=>k b x hb (old b x e) (ar _ e)) g
  |true=>have pp:=Zge (w.params.setOrder r ep) es;refine Pi (Zct hh' rI hd hf hB) nf (by rw[ag,pp.length_eq,a6];omega) ⟨o,ar _ ho,hx.1⟩ ⟨a9 _ rfl,ar _ ho⟩ (ar _ hl) (f:=λb=>b||_) λh' c' k g=>?_;exact hR h' s.drawn c' _ (pp.map _) (λb x hb e=>k b x hb (old b x e) (ar _ e)) g
 ·have pm0:∀p∈ps,p<es.size:=λp hq=>cn.mp (hp.mem_iff.mp hq);have rI:r≠s.heap.objs.size+1:=b9 (Nat.lt_succ_of_lt hlr);have TI:s.heap.objs.size≠s.heap.objs.size+1:=b9 (Nat.lt_succ_self _);have nf:S∉[s.heap.objs.size+1,r,s.heap.objs.size]:=by simp only[bo,List.not_mem_nil,or_false,not_or];exact⟨b9 (Nat.lt_succ_of_lt hlS),hS,b9 hlS⟩
  have up:∀b x,s.heap.get? b=aA x->((s.heap.push (Tf ps)).push (Xl (.ref s.heap.objs.size) 0 r es.size ep)).get? b=aA x:=λb x e=>ar _ (ar _ e);have sz2:(s.heap.push (Tf ps)).objs.size=s.heap.objs.size+1:=Heap.size_push _ _;have gI:((s.heap.push (Tf ps)).push (Xl (.ref s.heap.objs.size) 0 r es.size ep)).get? (s.heap.objs.size+1)=aA (Xl (.ref s.heap.objs.size) 0 r es.size ep):=by rw[<-sz2];exact a9 _ rfl
  have gT:((s.heap.push (Tf ps)).push (Xl (.ref s.heap.objs.size) 0 r es.size ep)).get? s.heap.objs.size=aA (Tf ps):=ar _ (a9 _ rfl);have pl:(ps.map λp=>es.getD p (0,ci)).Perm es.toList:=by
   refine(hp.map _).trans ?_;have:(cz es.size).map (λp=>es.getD p (0,ci))=es.toList:=by
    apply List.ext_getElem?;intro i;rw[a8];by_cases hi:i<es.size
    ·rw[List.getElem?_range hi,cp];simp[Array.getD,hi]
    ·rw[dy (by simpa using hi),dy (by simpa using hi)];rfl
   rw[this]
  have eo:(ps.map λp=>(es.getD p (0,ci)).2)=(ps.map λp=>es.getD p (0,ci)).map (·.2):=by rw[bi];rfl
  refine Pi (s:={s with heap:=(s.heap.push (Tf ps)).push (Xl (.ref s.heap.objs.size) 0 r es.size ep),drawn:=d}) (Hs hh' rI TI hd hf pm0) nf (by rw[ag,hp.length_eq,List.length_range];omega) ⟨o,up _ _ ho,hx.1⟩ ⟨gI,up _ _ ho,gT⟩ (up _ _ hl) (f:=λb=>b||_) λh' c' k g=>?_;rw[eo]at g;exact hR h' d c' _ (pl.map _) (λb x hb e=>k b x hb (b9 (Nat.lt_succ_of_lt (bf e))) (up b x e)) g
theorem Zgs{xs:List (Zk×au)}{Q:List aj->aq->Prop}(hh:A.handled=aB)(ho:s.heap.get? r=aA o)(hO:Aa prog w (By w) s.heap o xs)(hr:xs.length<=1000)
  (h:∀(zs:List (Zk×au)) (h':f8) d,zs.Perm xs->(∀b x,s.heap.get? b=aA x->h'.get? b=aA x)->s.heap.objs.size<=h'.objs.size->Q (zs.map λz=>bu z.2) {s with heap:=h',drawn:=d}):bd (bz prog w) A (collect (.ref r)) Q E s:=by
 obtain⟨es,ep,t,zs,hx,hd,he,pm,nd,his,tb,hled,hroom⟩:=hO;have zl:zs.length=es.size:=by rw[<-a6,he,ag]
 have xl:xs.length=es.size:=by rw[<-pm.length_eq,zl]
 have hlr:r<s.heap.objs.size:=bf ho;have nS:s.heap.objs.size≠r:=Nat.ne_of_gt hlr;unfold collect;refine ab (wpAny_runValue (gn PySem.F.entry_proto_collect ?_));rw[f9 PySem.F.plain_proto_collect _];show bd _ A.in1 (newList [] >>=λl=>again (.builtin "list.__iadd__" ⟨[l,.ref r],[]⟩)) _ _ s;refine ab (dn ?_);refine af ⟨plainId_quiet PySem.F.plain_list_iadd _,gn PySem.F.entry_list_iadd ?_⟩;rw[f9 PySem.F.plain_list_iadd _];show bd _ A.in1 (Builtin.List.listExtendWith (.ref s.heap.objs.size) (.ref r) (.ref s.heap.objs.size)) _ _ _;refine Zus (R:=λrr s'=>match rr with
  | .ok (.ret v)=>bd (bz prog w) A (match v with
   | .ref a=>(load a >>=λx=>match x.data with
    | .seq xs _=>pure xs.toList
    |_=>unsupported "internal:collect")
   |_=>unsupported "internal:collect") Q E s'
  | .ok _=>False
  | .error e=>E e s') (s:={s with heap:=s.heap.push (Fw #[] 0)}) (c:=0) hh (ar _ ho) hx hd (tb.fits (by simp)) hled tb.rise (by omega) nS (a9 _ rfl) λh' d c' ord hp hk g=>?_
 show bd _ A (load s.heap.objs.size >>=_) _ _ _;refine ab (wpAny_load g ?_);refine af ?_;have e:ord.toArray.toList=ord:=by simp
 show Q ord.toArray.toList _;rw[e];rw[he,bi]at hp;obtain⟨zs',p',e'⟩:=Mj hp zs rfl;rw[e'];exact h zs' h' d (p'.trans pm) (λb x e=>hk b x (b9 (bf e)) (ar _ e)) (Nat.le_of_lt (bf g))
end
end TT
namespace TT
open PySem PySem.Spec PyProof.Rows L2 DL TX SX
noncomputable def Zj:Zk->D
 | .inl l=>.tup (l.map D.str)
 | .inr (n,l)=>.tup [.int n,.tup (l.map D.str)]
noncomputable def Ab(ks:List Zk)(k:Zk):List Zk:=if(ks.any λz=>decide (z=k))=aC then ks else ks++[k]
noncomputable def Ln(ks:List Zk):List Zk:=ks.foldl Ab []
theorem Zgt(xs:List (Zk×au))(k:Zk)(b:au):(Rl xs k b).map (·.1)=Ab (xs.map (·.1)) k:=by
 unfold Rl Ab;have e:((xs.map (·.1)).any λz=>decide (z=k))=xs.any λz=>decide (z.1=k):=by rw[List.any_map];rfl
 rw[e];split
 ·rfl
 ·rw[b4];rfl
theorem Za8(ys:List (Zk×au)):(Lm ys).map (·.1)=Ln (ys.map (·.1)):=by
 have go:∀(ys acc:List (Zk×au)),(ys.foldl (λacc y=>Rl acc y.1 y.2) acc).map (·.1)=(ys.map (·.1)).foldl Ab (acc.map (·.1)):=by
  intro ys;induction ys with
  |nil=>intro acc;rfl
  |cons y ys ih=>intro acc;rw[List.foldl_cons,ih,a7,List.foldl_cons,Zgt]
 exact go ys []
noncomputable def Mk(ds out:List D):Prop:=out.Perm ds/\out.Pairwise λa b=>U6 16 b a=aA aD
theorem Zcz{ks:List D}{enc:D->List Nat}(hd:∀i j:Nat,i<ks.length->j<ks.length->enc (ks.getD i .non)=enc (ks.getD j .non)->i=j){a b:D}(ha:a∈ks)(hb:b∈ks)(e:enc a=enc b):a=b:=by
 obtain⟨i,hi,rfl⟩:=fq ha;obtain⟨j,hj,rfl⟩:=fq hb;have gi:ks.getD i .non=ks[i]:=by rw[bg,aw hi];rfl
 have gj:ks.getD j .non=ks[j]:=by rw[bg,aw hj];rfl
 have:=hd i j hi hj (by rw[gi,gj];exact e);subst this;rfl
theorem Rm{ds a b:List D}(h:KeysOk ds)(ha:Mk ds a)(hb:Mk ds b):a=b:=by
 obtain⟨enc,he,hd⟩:=h.ord;refine List.Perm.eq_of_pairwise (le:=λa b=>U6 16 b a=aA aD) (λx y hx hy h1 h2=>?_) ha.2 hb.2 (ha.1.trans hb.1.symm);have mx:=ha.1.mem_iff.mp hx;have my:=hb.1.mem_iff.mp hy;rw[he _ my _ mx]at h1;rw[he _ mx _ my]at h2;have h1:¬enc y<enc x:=by simpa using h1
 have h2:¬enc x<enc y:=by simpa using h2
 exact Zcz hd mx my (List.le_antisymm (dg.mp h1) (dg.mp h2))
theorem Ia{ds:List D}{p:List Nat}(h:Mh ds p):Mk ds (p.map λi=>ds.getD i .non):=by
 refine⟨?_,ck.mpr h.2⟩;refine(h.1.map _).trans ?_;have:(cz ds.length).map (λi=>ds.getD i .non)=ds:=by
  apply List.ext_getElem
  ·simp
  ·intro i h1 h2;simp[bg,aw h2]
 rw[this]
theorem Rn{ds:List D}(h:KeysOk ds):∃out,Mk ds out:=let⟨_,hp⟩:=B3 h;⟨_,Ia hp⟩
theorem Gu{ks:List D}{enc:D->List Nat}:(∀i j:Nat,i<ks.length->j<ks.length->enc (ks.getD i .non)=enc (ks.getD j .non)->i=j)↔(ks.map enc).Nodup:=by
 have gi:∀i (hi:i<ks.length),ks.getD i .non=ks[i]:=λi hi=>by rw[bg,aw hi];rfl
 constructor
 ·intro h;refine List.pairwise_iff_getElem.mpr λi j hi hj hij e=>?_;rw[ag]at hi hj;rw[List.getElem_map,List.getElem_map]at e;have:=h i j hi hj (by rw[gi i hi,gi j hj];exact e);omega
 ·intro h i j hi hj e;rw[gi i hi,gi j hj]at e;have:=(List.getElem?_inj (i:=i) (j:=j) (by rw[ag];exact hi) h).mp (by simp[hi,hj,e]);exact this
theorem Vv{ds es:List D}(h:KeysOk ds)(p:es.Perm ds):KeysOk es:=by obtain⟨k,hk⟩:=h.key;obtain⟨enc,he,hd⟩:=h.ord;refine⟨⟨k,λd hd=>hk d (p.mem_iff.mp hd)⟩,enc,λa ha b hb=>he a (p.mem_iff.mp ha) b (p.mem_iff.mp hb),?_⟩;exact Gu.mpr ((p.map enc).nodup_iff.mpr (Gu.mp hd))
end TT
namespace L2
open PySem PySem.Spec PySem.Calls PyProof.Rows DL TX SX TT
theorem Po{P:bv}{w:c6}{H:Hp}{h:f8}(ok:Re P w H h){k:Zk}{b:au}(e:Jh H k b):O5 P w h k b:=by
 cases k with
 |inl l=>exact Br ok e
 |inr p=>
  obtain⟨n,l⟩:=p;obtain⟨c,h1,h2⟩:=e;obtain⟨_,its,r,o,q1,q2,m,q3⟩:=(show Yb P w H h b (.tup [.int n,.ref c])from ok b _ h1)
  cases r with
  |cons r1 t=>cases t with
   |cons r2 t=>cases t;obtain⟨tk,rfl⟩:=r1;cases r2;exact⟨o,_,m,tk,c,q1,q2,q3,rfl,Br ok h2⟩
theorem C2{K:ah}{F:Hp}{k:Zk}{b:au}(e:Jh F k b):Rep K F (Zj k) (.ref b):=by
 have tx:∀l:List Str,Reps K F (l.map D.str) ((Wz l).map kV):=λl=>by
  induction l with
  |nil=>exact .nil
  |cons x l ih=>exact .cons (.str x) ih
 cases k with
 |inl l=>exact .tup e (tx l)
 |inr p=>obtain⟨n,l⟩:=p;obtain⟨c,h1,h2⟩:=e;exact .tup h1 (.cons (.int n) (.cons (.tup h2 (tx l)) .nil))
theorem Ml{K:ah}{F:Hp}{k:Zk}{v:V}(r:Rep K F (Zj k) v):∃b,v= .ref b/\Jh F k b:=by
 have tx:∀{l:List Str} {vs:List V},Reps K F (l.map D.str) vs->vs=(Wz l).map kV:=fun{l}=>by
  induction l with
  |nil=>intro vs h;cases h;rfl
  |cons x l ih=>intro vs h;cases h with
   |cons h t=>cases h;rw[ih t];rfl
 cases k with
 |inl l=>cases r with
  |tup h r=>rw[tx r]at h;exact⟨_,rfl,h⟩
 |inr p=>
  obtain⟨n,l⟩:=p;cases r with
  |tup h r=>cases r with
   |cons r1 t=>cases r1;cases t with
    |cons r2 t=>cases t;cases r2 with
     |tup h2 r2=>rw[tx r2]at h2;exact⟨_,rfl,_,h,h2⟩
section
variable{X:Cx}
noncomputable def rSN(K:ah):List V->Hp->VK->Prop:=λvs H Q=>∃(l:au) (ys:List (Zk×au)),vs=[.ref l]/\U0 K H l (ys.map λy=>V.ref y.2)/\(∀y∈ys,Jh H y.1 y.2)/\ys.length<=75/\(Lm ys).length<64/\KeysOk ((Lm ys).map λy=>Zj y.1)/\
 ∀(zs:List (Zk×au)) (q:au),zs.Perm (Lm ys)->Mk ((Lm ys).map λy=>Zj y.1) (zs.map λy=>Zj y.1)->H q=aB->Q (.ref q) (Y0 H q (.lst (zs.map λz=>V.ref z.2)))
theorem Zsa:∀{ys:List (Zk×au)} {its:List aj},Z3 (ys.map λy=>V.ref y.2) its->its=ys.map λy=>bu y.2
 | [],_,h=>by cases h;rfl
 |y::ys,_,h=>by
  cases h with
  |cons r t=>cases r;rw[Zsa t];rfl
theorem Zgu:∀ys:List (Zk×au),Z3 (ys.map λy=>V.ref y.2) (ys.map λy=>bu y.2)
 | []=>.nil
 |y::ys=>.cons rfl (Zgu ys)
theorem Zkc{a:c5}{t:TA}{p1 p2 q1 q2:Pos}(hc:X.calm=aC)(hu:X.A.units+64<fg)(h1:X.mg "sorted"=aB)(h2:X.mg "set"=aB)(ha:PA X [a] t)(g1:Gl X "sorted")(g2:Gl X "set")
  (he1:ba [.Call (.Name "set" q1) [a] [] q2] X.env=(aD,gw (.Call (.Name "set" q1) [a] [] q2) X.env)::ba [] X.env) (hp1:(gp p2 (ba [] X.env)).any (·.1)=aD)
  (he2:ba [a] X.env=(aD,gw a X.env)::ba [] X.env) (hp2:(gp q2 (ba [] X.env)).any (·.1)=aD):
  PE X (.Call (.Name "sorted" p1) [.Call (.Name "set" q1) [a] [] q2] [] p2) (tCB (rSN X.K) t):=by
 intro pins s σ H Q I h;refine wpAny_Call_Name_kw (Bo I g1 h1 Cz ?_);refine PyProof.Rows.callWith_builtin1 ?_ he1 hp1;rw[he1];show bd _ _ (spliced ((aD,gw (.Call (.Name "set" q1) [a] [] q2) X.env)::gp p2 (ba [] X.env))) _ _ s;refine Calls.spliced_cons (wpAny_Call_Name_kw (Bo I g2 h2 Zgf ?_));refine PyProof.Rows.callWith_type1 (Wv (ha q2 pins s σ H _ I h) λus s1 ⟨vs,H1,I1,r1,z1⟩=>?_) he2 hp2;obtain⟨l,ys,rfl,hl,hn,hz,hz2,ko,q⟩:=z1;obtain⟨u,rfl,ru⟩:=Ui r1;cases ru;obtain⟨its,rv,⟨o,n,ho,hcl,_,hd⟩,_⟩:=I1.list hl;have hits:=Zsa rv;have hh:=I1.ok.hd hc;refine Zgr (its:=its.toArray) (ys:=ys) hh (by omega) ⟨o,ho,hcl,n,hd⟩ (by simpa using hits) (λy hy=>Po I1.hok (hn y hy)) hz λh' tk o' ho' hO hk=>?_;show bd _ _ (spliced []) _ _ _;refine Calls.spliced_nil ?_;have kept:∀b x,s1.heap.get? b=aA x->h'.get? b=aA x:=λb x e=>hk b x (bf e) e;have I2:Inv X pins σ H1 {s1 with heap:=h',toks:=tk}:=I1.kept kept;refine Calls.call_function_entry kind_sorted plain_sorted entry_sorted (args_sorted1 _) ?_;unfold Builtin.«sorted»;refine ab (m:=checkCount "sorted" 1 1 _) (af ?_);refine ab (Zgs (A:=X.A.in1) (s:={s1 with heap:=h',toks:=tk}) hh ho' hO (by omega) λzs h3 d hp hk3 ge=>?_);have I3:Inv X pins σ H1 {s1 with heap:=h3,toks:=tk,drawn:=d}:=(I2.kept (t':=tk) hk3).drawnAt d;have kz:KeysOk (zs.map λy=>Zj y.1):=Vv ko (hp.map _);obtain⟨enc,he,hdis⟩:=id kz.ord;obtain⟨kb,hkb⟩:=id kz.key;have hu2:X.A.in1.in1.units+16<cLine:=by show X.A.units+1+1+16<fg;omega
 have zl:zs.length=(Lm ys).length:=hp.length_eq;have dl:(zs.map λy=>Zj y.1).length=(zs.map λz=>bu z.2).length:=by simp
 have hnz:∀z∈zs,Jh H1 z.1 z.2:=λz hz'=>hn z (Pn (hp.mem_iff.mp hz'));refine Lh (its:=zs.map λz=>bu z.2) (kvs:=zs.map λz=>V.ref z.2) (KeyOk:=λj kv H=>Rep X.K H ((zs.map λy=>Zj y.1).getD j .non) kv) (O:=strKind.toKeyOrd) (key:=Vp enc (zs.map λy=>Zj y.1)) I3 (by rw[ag];omega) (Zgu zs) (λj kv e=>?_) (Hx hu2 hkb he dl) ?hQ
 ·rw[a8]at e;obtain⟨z,ez,rfl⟩:=cq.mp e;have:(zs.map λy=>Zj y.1).getD j .non=Zj z.1:=by rw[bg,a8,ez];rfl
  rw[this];exact C2 (hnz z (b6 ez))
 case hQ=>
  intro p D s3 cc hp2' hs hD0 I4 fD gD;have sb:=Hy he dl hp2' hs;have pt:p.toList.Perm (cz zs.length):=by have:=sb.1;rw[ag]at this;exact this
  have bnd:∀i∈p.toList,i<zs.length:=λi hi=>cn.mp (pt.mem_iff.mp hi);have g1':∀i∈p.toList,(zs.map λz=>bu z.2).getD i ci=bu (zs.getD i (.inl [],0)).2:=λi hi=>by have hb:=bnd i hi;simp[bg,a8,aw hb]
  have g2':∀i∈p.toList,(zs.map λy=>Zj y.1).getD i .non=Zj (zs.getD i (.inl [],0)).1:=λi hi=>by have hb:=bnd i hi;simp[bg,a8,aw hb]
  generalize hzs2:p.toList.map (λi=>zs.getD i (.inl [],0))=zs2;have e1:(p.toList.map λi=>(zs.map λz=>bu z.2).getD i ci)=zs2.map λz=>bu z.2:=by rw[<-hzs2,bi];exact fj g1'
  have e2:(p.toList.map λi=>(zs.map λy=>Zj y.1).getD i .non)=zs2.map λy=>Zj y.1:=by rw[<-hzs2,bi];exact fj g2'
  have pz:zs2.Perm zs:=by
   rw[<-hzs2];refine(pt.map _).trans ?_;have:(cz zs.length).map (λi=>zs.getD i (.inl [],0))=zs:=by
    apply List.ext_getElem
    ·simp
    ·intro i h1 h2;simp[bg,aw h2]
   rw[this]
  have so:=Ia sb;rw[e2]at so;have so2:Mk ((Lm ys).map λy=>Zj y.1) (zs2.map λy=>Zj y.1):=⟨so.1.trans (hp.map _),so.2⟩
  rw[e1]at gD;have new:Yb X.prog X.w (Y0 H1 D (.lst (zs2.map λz=>V.ref z.2))) s3.heap D (.lst (zs2.map λz=>V.ref z.2)):=by refine⟨?_,zs2.map λz=>bu z.2,cc,Zgu zs2,gD⟩;rw[ag,pz.length_eq,ff];omega
  exact⟨.ref D,_,Inv.trackO I4 hD0 fD.1 fD.2.1 fD.2.2.2.2.1 fD.2.2.2.2.2 new,rfl,q zs2 D (pz.trans hp) so2 fD.1⟩
end
end L2
namespace DL
open PySem PySem.Spec PyProof.Rows L2 SX TT TX
variable{K:ah}
noncomputable def nk?:D->Option Zk
 | .tup xs=>match strs? xs with
  |some l=>aA (.inl l)
  |none=>match xs with
   | [.int n,.tup ys]=>(strs? ys).bind λl=>aA (.inr (n,l))
   |_=>aB
 |_=>aB
theorem Ib:∀l:List Str,strs? (l.map D.str)=aA l
 | []=>rfl
 |x::l=>by rw[a7,strs?,Ib l];rfl
theorem Pp:∀{xs:List D} {l:List Str},strs? xs=aA l->xs=l.map D.str
 | [],_,h=>by cases h;rfl
 |x::xs,l,h=>by
  unfold strs? at h;split at h
  ·rename_i e;cases e
  ·rename_i y r e;cases e;obtain⟨t,h1,h2⟩:=aa.mp h;cases h2;rw[Pp h1];rfl
  ·cases h
@[simp]theorem B5(k:Zk):nk? (Zj k)=some k:=by
 cases k with
 |inl l=>show(match strs? (l.map D.str)with|some l=>_|none=>_)=_;rw[Ib]
 |inr p=>obtain⟨n,l⟩:=p;show(strs? (l.map D.str)).bind _=_;rw[Ib];rfl
theorem Zgv{d:D}{k:Zk}(h:nk? d=aA k):d=Zj k:=by
 unfold nk? at h;split at h
 ·rename_i xs;split at h
  ·rename_i l hl;cases h;rw[Pp hl];rfl
  ·split at h
   ·obtain⟨l,h1,h2⟩:=aa.mp h;cases h2;rw[Pp h1];rfl
   ·cases h
 ·cases h
noncomputable def nks?:List D->Option (List Zk)
 | []=>aA []
 |d::r=>(nk? d).bind λk=>(nks? r).bind λks=>aA (k::ks)
@[simp]theorem Al:∀ks:List Zk,nks? (ks.map Zj)=some ks
 | []=>rfl
 |k::ks=>by rw[a7,nks?,B5,Al ks];rfl
theorem Pq:∀{ds:List D} {ks:List Zk},nks? ds=aA ks->ds=ks.map Zj
 | [],_,h=>by cases h;rfl
 |d::ds,_,h=>by obtain⟨k,h1,h2⟩:=aa.mp (show(nk? d).bind _=_ from h);obtain⟨ks,h3,h4⟩:=aa.mp h2;cases h4;rw[Zgv h1,Pq h3];rfl
theorem Vw{F:Hp}:∀{ks:List Zk} {vs:List V},Reps K F (ks.map Zj) vs->∃ys:List (Zk×au),ys.map (·.1)=ks/\vs=ys.map (λy=>V.ref y.2)/\∀y∈ys,Jh F y.1 y.2
 | [],_,h=>by cases h;exact⟨[],rfl,rfl,λ_ z=>nomatch z⟩
 |k::ks,_,h=>by
  cases h with
  |cons h t=>
   obtain⟨b,rfl,hb⟩:=Ml h;obtain⟨ys,rfl,rfl,hy⟩:=Vw t;refine⟨(k,b)::ys,rfl,rfl,λy hy'=>?_⟩;rcases bo.mp hy' with z|z
   ·rw[z];exact hb
   ·exact hy y z
theorem Lo{F:Hp}:∀{ys:List (Zk×au)},(∀y∈ys,Jh F y.1 y.2)->Reps K F (ys.map λy=>Zj y.1) (ys.map λy=>V.ref y.2)
 | [],_=>.nil
 |y::ys,h=>.cons (C2 (h y ad)) (Lo λz hz=>h z (am _ hz))
open Classical in
noncomputable def Ic(ks:List Zk):Option SV:=
 if h:ks.length<=75/\(Ln ks).length<64/\KeysOk ((Ln ks).map Zj)then aA (.ol (Classical.choose (Rn h.2.2)))else aB
theorem Zgw{ks:List Zk}{sv:SV}(e:Ic ks=aA sv):ks.length<=75/\(Ln ks).length<64/\KeysOk ((Ln ks).map Zj)/\∃out,Mk ((Ln ks).map Zj) out/\sv= .ol out:=by
 unfold Ic at e;split at e
 ·rename_i h;cases e;exact⟨h.1,h.2.1,h.2.2,_,Classical.choose_spec (Rn h.2.2),rfl⟩
 ·cases e
theorem Zgx{ks:List Zk}{out:List D}(h1:ks.length<=75)(h2:(Ln ks).length<64)(h3:KeysOk ((Ln ks).map Zj))(h4:Mk ((Ln ks).map Zj) out):Ic ks=aA (.ol out):=by unfold Ic;rw[dif_pos ⟨h1,h2,h3⟩,Rm h3 (Classical.choose_spec (Rn h3)) h4]
noncomputable def Bj:List D->Option SV
 | [.lst xs]=>(nks? xs).bind Ic
 |_=>aB
@[simp]theorem Lp(ks:List Zk):Bj [.lst (ks.map Zj)]=Ic ks:=by show(nks? (ks.map Zj)).bind _=_;rw[Al];rfl
section
variable{Z:Ent K}{H:Hp}{σ:L2.St}{Q:VK}{E:Ends}
theorem Zom:Ot Z (rSN K) Bj:=by
 intro F H σ δ own vs ds sv Q s r e k;unfold Bj at e;split at e
 ·obtain⟨ks,e1,e2⟩:=aa.mp e;obtain⟨z1,z2,ko,out,ho,rfl⟩:=Zgw e2;have:=Pq e1;subst this;cases r with
  |cons h t=>
   cases t;obtain⟨a,us,rfl,ha,ru⟩:=h.lst s.le;obtain⟨ys,rfl,rfl,hy⟩:=Vw ru;have ek:(Lm ys).map (λy=>Zj y.1)=(Ln (ys.map (·.1))).map Zj:=by rw[<-Za8,bi];rfl
   refine⟨a,ys,rfl,ha,λy hy'=>(hy y hy').mono λ_ _ q=>s.le _ _ q,by simpa using z1,?_,by rw[ek];exact ko,λzs q hp so hq=>?_⟩
   ·have:=congrArg List.length (Za8 ys);rw[ag]at this;omega
   ·have eo:out=zs.map λy=>Zj y.1:=by rw[ek]at so;exact Rm ko ho so
    rw[eo]at k;exact k.lst s (Lo λz hz=>hy z (Pn (hp.mem_iff.mp hz))) hq
 ·cases e
end
section
variable{X:Cx}{Z:Ent X.K}{a b c:c5}{fa fb fc:FE}{pos:Pos}
theorem Pr{p1 q1 q2:Pos}(hc:X.calm=aC)(hv:X.A.units+64<fg)(h1:X.mg "sorted"=aB)(h2:X.mg "set"=aB)(ha:PE X a (Ze Z fa))(g1:Gl X "sorted":=by rfl)(g2:Gl X "set":=by rfl)
  (he1:ba [.Call (.Name "set" q1) [a] [] q2] X.env=(aD,gw (.Call (.Name "set" q1) [a] [] q2) X.env)::ba [] X.env:=by rfl) (hp1:(gp pos (ba [] X.env)).any (·.1)=aD:=by rfl)
  (he2:ba [a] X.env=(aD,gw a X.env)::ba [] X.env:=by rfl) (hp2:(gp q2 (ba [] X.env)).any (·.1)=aD:=by rfl):
  PE X (.Call (.Name "sorted" p1) [.Call (.Name "set" q1) [a] [] q2] [] pos) (Ze Z (Yd Bj (Zc fa Zi))):=
 (Zkc hc hv h1 h2 (Zm ha Yn he2) g1 g2 he1 hp1 he2 hp2).imp λ_ _ _ h=>N4 Zom h
end
end DL
namespace L2
open PySem PySem.Spec PySem.Calls PyProof.Rows
section
variable{prog:bv}{w:c6}{K:Type}[DecidableEq K]{knd:HeapKind prog w K}{A:di}{E:aj->aq->Prop}{s:aq}
theorem Vx{d a:au}{xs:List (K×au×aj)}{k:K}{v:aj}{Q:aj->aq->Prop}(hu:knd.room A)(hkey:knd.is s.heap k a)(hm:s.heap.DictOfH knd d xs)
  (hold:∀p,atKey xs k=aA p->Q p.2 {s with toks:=s.toks+knd.draws k})
  (hnew:atKey xs k=aB->∀h',h'.DictOfH knd d (xs++[(k,a,v)])->gz d s.heap h'->Q v {s with heap:=h',toks:=s.toks+knd.draws k}) (hsz:xs.length<=sizeLine):
  bd (bz prog w) A (dictSetDefault d (.ref a) v) Q E s:=by
 obtain⟨o,es,ep,ho,hc,hd,he,his,hn⟩:=hm;unfold dictSetDefault
 try with_reducible refine wpAny_holding ?_
 refine ab (knd.pyHash hu hkey (ab (wpAny_dictFind_heap (s:={s with toks:=s.toks+knd.draws k}) hu hkey ho hd he his hn ?_ ?_)))
 ·intro hno;have hnot:k∉xs.map (·.1):=not_mem_keys_of_get hno;dsimp only;refine ab (wpAny_rule (ab (wpAny_updateDictKeys (hz:=by have e:=size_of_entries he;omega) (s:={s with toks:=s.toks+knd.draws k}) ho hd (af (hnew (atKey_none_of_get hno) _ ⟨_,_,ep+1,gv _ ho (Obj.isFreed_of_dict (Obj.data_mapDictKeys hd _)),
   hc.mapDictKeys _,Obj.data_mapDictKeys hd _,?_,?_,?_⟩ (gr ..))))))
  ·simp[he,entryOfKey]
  ·intro x hx;rcases bh.mp hx with hx|hx
   ·exact knd.keeps (his x hx) ho hd (gr ..)
   ·simp only[ao]at hx;subst hx;exact knd.keeps hkey ho hd (gr ..)
  ·rw[b4,cu];refine⟨hn,by simp,?_⟩;intro x hx y hy;simp only[a7,List.map_nil,ao]at hy;subst hy;exact λe=>hnot (e▸hx)
 ·intro j p hj;dsimp only;refine ab (wpAny_dictEntries (s:={s with toks:=s.toks+knd.draws k}) ho hd ?_);rw[entry_at he j,hj];exact ab (wpAny_rule (af (hold p (atKey_of_get hn hj))))
end
noncomputable def KNt(H:Hp):List (Zk×V)->List (Zk×au×aj)->Prop:=Paired λ(p:Zk×V) (q:Zk×au×aj)=>p.1=q.1/\Jh H p.1 q.2.1/\Zz p.2 q.2.2
section
variable{P:bv}{w:c6}{H:Hp}{h:f8}{a:au}
theorem Zgy{kvs:List (Zk×V)}{ep:Nat}{bs:List au}(ok:Re P w H h)(e:H a=aA (.dN kvs ep bs)):kvs.length<=sizeLine/\(a==sysModules)=aD/\
  ∃xs,KNt H kvs xs/\h.DictOfH (Kh P w) a xs/\(xs.map λx=>x.2.1)=bs:=by
 obtain⟨z,y,xs,r,o,es,h1,h2,h3,h4,h5,h6⟩:=(show Yb P w H h a (.dN kvs ep bs)from ok a _ e)
 refine⟨z,y,xs,r,⟨o,es,ep,h1,h2,h3,h4,λx hx=>?_,h5⟩,h6⟩;have all:∀{l:List (Zk×V)} {m:List (Zk×au×aj)},KNt H l m->∀x∈m,(Kh P w).is h x.1 x.2.1:=by
  intro l m q;induction q with
  |nil=>intro x hx;exact nomatch hx
  | @cons p q ps qs hq t ih=>
   intro x hx;rcases bo.mp hx with e|hx
   ·subst e;exact Po ok (by rw[<-hq.1];exact hq.2.1)
   ·exact ih x hx
 exact all r x hx
theorem KNt.val{kvs:List (Zk×V)}{xs:List (Zk×au×aj)}(r:KNt H kvs xs)(k:Zk):Ry (Jd kvs k) ((atKey xs k).map (·.2)):=by
 induction r with
 |nil=>exact True.intro
 | @cons p q ps qs hq t ih=>
  by_cases e:p.1=k
  ·rw[Be e];have:atKey (q::qs) k=aA q.2:=by unfold atKey;rw[List.find?_cons_of_pos (by rw[<-hq.1];exact decide_eq_true e)];rfl
   rw[this];exact hq.2.2
  ·rw[U1 e];have:atKey (q::qs) k=atKey qs k:=by unfold atKey;rw[List.find?_cons_of_neg (by rw[<-hq.1];simpa using e)]
   rw[this];exact ih
end
noncomputable def IsN(H:Hp)(a:au):Prop:=∃kvs ep bs,H a=aA (.dN kvs ep bs)
noncomputable def Zsc(td ty:TE):TE:=λσ H Q=>td σ H λx H1=>ty σ H1 λy H2=>∃a b kvs ep bs k v,x= .ref a/\y= .ref b/\H2 a=aA (.dN kvs ep bs)/\Jh H2 k b/\Jd kvs k=aA v/\Q v H2
noncomputable def Zl9(td ty tx:TE):TE:=λσ H Q=>td σ H λx H1=>∃a,x= .ref a/\IsN H1 a/\ty σ H1 λy H2=>tx σ H2 λz H3=>∃kvs ep bs k b,y= .ref b/\H3 a=aA (.dN kvs ep bs)/\Jh H3 k b/\kvs.length<sizeLine/\
 ((∃v,Jd kvs k=aA v/\Q v H3)\/(Jd kvs k=aB/\∀ep',Q z (Y0 H3 a (.dN (kvs++[(k,z)]) ep' (bs++[b])))))
section
variable{X:Cx}{o i e f:c5}{td ty tx:TE}{pos apos cpos:Pos}
theorem Zma{A:di}{P:bv}{w:c6}(hu:A.units+2<fg):(Kh P w).room A.in1:=hu
theorem Zkd(hu:X.A.units+2<fg)(ho:PE X o td)(hi:PE X i ty)(hs:Zne i):PE X (.Subscript o i pos) (Zsc td ty):=by intro pins s σ H Q I h;refine D7 PySem.F.slot_dict_getitem.lookup hs (Wv (ho pins s σ H _ I h) λu s1 ⟨x,H1,I1,rx,q1⟩=>Wv (hi pins s1 σ H1 _ I1 q1) λiv s2 zq9=>?_);obtain⟨y,H2,I2,ry,a,b,kvs,ep,bs,k,v,ex,ey,ea,eb,ev,q2⟩:=zq9;subst ex ey;obtain rfl:u=bu a:=rx;obtain rfl:iv=bu b:=ry;obtain⟨z,hd,xs,rel,dd,_⟩:=Zgy I2.hok ea;obtain⟨w',hw,rw'⟩:=Ry.some_of (v:=v) (o:=(atKey xs k).map (·.2)) (by rw[<-ev];exact rel.val k);obtain⟨p,hp,hp2⟩:=cq.mp hw;refine⟨dd.typeIs,wpAny_getItem_heap (Zma hu) (Po I2.hok eb) dd hp ?_⟩;rw[hp2];exact⟨v,H2,I2.tok _,rw',q2⟩
theorem Za9(hu:X.A.units+2<fg)(ho:PE X o td)(he:PE X e ty)(hf:PE X f tx)(m:M2 X o "setdefault" apos e f cpos):PE X (.Call (.Attribute o "setdefault" apos) [e,f] [] cpos) (Zl9 td ty tx):=by
 intro pins s σ H Q I h;refine wpAny_Call_method m.base m.few m.line PySem.F.plainAttrs_dict PySem.F.slot_dict_setdefault PySem.F.type_dict_setdefault (Wv (ho pins s σ H _ I h) λu s1 zq9=>?_);obtain⟨x,H1,I1,rx,a,ex,d,q1⟩:=zq9;subst ex;obtain rfl:u=bu a:=rx;obtain⟨kvs1,ep1,bs1,ea1⟩:=d;obtain⟨_,_,xs1,_,dd1,_⟩:=Zgy I1.hok ea1;refine⟨dd1.typeIs,λb q=>?_,?_⟩
 ·cases q;obtain⟨ob,_,_,h1,h2,_⟩:=dd1;exact⟨ob,h1,h2.2.1⟩
 rw[m.trees];refine Calls.callWith_builtin rfl (Calls.evalArgs_plain (Calls.spliced_cons (Wv (he pins s1 σ H1 _ I1 q1) λiv s2 ⟨y,H2,I2,ry,q2⟩=>
  Calls.spliced_cons (Wv (hf pins s2 σ H2 _ I2 q2) λfv s3 ⟨z,H3,I3,rz,kvs,ep,bs,k,b,ey,ea,eb,hl,q3⟩=>Calls.spliced_nil ?_))))
 subst ey;obtain rfl:iv=bu b:=ry;obtain⟨hz,hd,xs,rel,dd,hbs⟩:=Zgy I3.hok ea;have hxl:xs.length=kvs.length:=(gq rel).symm;refine de PySem.F.slot_dict_setdefault dd.typeIs PySem.F.entry_dict_setdefault ?_ (PySem.F.args_dict_setdefault_3 _ _ _);unfold Builtin.«dict.setdefault»;refine ab (m:=Builtin.Dict.keyAndDefault "setdefault" ⟨[.ref a,.ref b,fv],[]⟩) ?_;show bd _ _ (Builtin.Dict.notOrdered "setdefault" ⟨[.ref a,.ref b,fv],[]⟩>>=_) _ _ s3;refine ab (wpAny_notOrdered_dict dd.typeIs ?_);refine af (a:=(a,bu b,aA fv)) ?_;dsimp only;rw[if_neg (by rw[hd];simp)];refine ab (Vx (knd:=Kh X.prog X.w) (Zma hu) (Po I3.hok eb) dd (λp hp=>?_) (λhno h' dd' hs=>?_) (by omega))
 ·rcases q3 with⟨v,ev,q⟩|⟨ev,_⟩
  ·have r:=rel.val k;rw[hp,ev]at r;exact af ⟨_,rfl,v,H3,I3.tok _,r,q⟩
  ·have r:=rel.val k;rw[hp,ev]at r;exact r.elim
 ·rcases q3 with⟨v,ev,q⟩|⟨ev,q⟩
  ·have r:=rel.val k;rw[hno,ev]at r;exact r.elim
  ·obtain⟨ob,es,ep',hq,h2,h3,h4,_,h5⟩:=dd';refine af ⟨_,rfl,z,_,Af I3 (ob:=.dN (kvs++[(k,z)]) ep' (bs++[b])) (by rw[ea];exact True.intro) hs ⟨ob,hq⟩ ⟨by rw[ay,d8];omega,hd,xs++[(k,b,fv)],?_,ob,es,hq,h2,h3,h4,h5,by rw[b4,hbs];rfl⟩,rz,q ep'⟩;have app:∀{l:List (Zk×V)} {m:List (Zk×au×aj)},KNt H3 l m->Paired (λ(p:Zk×V) (q:Zk×au×aj)=>p.1=q.1/\Jh (Y0 H3 a (.dN (kvs++[(k,z)]) ep' (bs++[b]))) p.1 q.2.1/\Zz p.2 q.2.2) (l++[(k,z)]) (m++[(k,b,fv)]):=by
    have up:∀c ys,H3 c=aA (.tup ys)->Y0 H3 a (.dN (kvs++[(k,z)]) ep' (bs++[b])) c=aA (.tup ys):=λc ys ec=>by rw[Zv (Ea ec ea (λz=>nomatch z))];exact ec
    intro l m r;induction r with
    |nil=>exact .cons ⟨rfl,eb.mono up,rz⟩ .nil
    |cons hq t ih=>exact .cons ⟨hq.1,hq.2.1.mono up,hq.2.2⟩ ih
   exact app rel
theorem Zgz{P:bv}{w:c6}{H:Hp}(h:f8)(hb:sysModules<h.objs.size):Yb P w H (h.push {cls:=.type "dict",data:=.dict #[]}) h.objs.size (.dN [] 0 []):=
 ⟨fu _,beq_eq_false_iff_ne.mpr (Ne.symm (b9 hb)),[],.nil,_, #[],a9 _ rfl,⟨rfl,rfl,rfl⟩,rfl,rfl,cm,rfl⟩
noncomputable def Zg0:TE:=λ_ H Q=>∀p,H p=aB->Q (.ref p) (Y0 H p (.dN [] 0 []))
theorem Zg1:PE X (.Dict [] [] pos) Zg0:=λpins s σ H Q I h=>
 wpAny_Dict_empty ⟨.ref s.heap.objs.size,_,I.laid (a:=s.heap.objs.size) (o:=.dN [] 0 []) (t':=s.toks) (λ_ _ q=>ar _ q) (az _) (Zgz s.heap I.big),rfl,h _ (I.hok.fresh (az _))⟩
noncomputable def Zba(K:ah):V->List V->Hp->VK->Prop:=λx vs H Q=>∃l b xs zs,x= .ref l/\vs=[.ref b]/\H l=aA (.lst xs)/\U0 K H b zs/\xs.length+zs.length<=sizeLine/\Q .non (Y0 H l (.lst (xs++zs)))
end
end L2
namespace L2
open PySem PySem.Spec PySem.Calls PyProof.Rows
theorem Zke(l:au)(items:Array aj)(n:Nat)(b:au)(items2:Array aj)(n2:Nat)(dc:Option au)(sl:Array (Option aj))(hs0:¬(!items.isEmpty&&Builtin.List.listTooLong (items.size+items2.size))=aC)(hs1:items.size<=sizeLine)(hs2:items.size+items2.size<=sizeLine+1):
  Meets (Builtin.«list.extend» ⟨[.ref l,.ref b],[]⟩) (λ_ R s=>s.heap.get? l=aA {cls:=.type "list",dict:=aB,data:=.seq items n,slots:= #[]}/\s.heap.get? b=aA {cls:=.type "list",dict:=dc,data:=.seq items2 n2,slots:=sl}/\R (.ok (.ret ci)) {s with heap:=s.heap.update l (dm λx=>x++items2),toks:=s.toks}):=
 .of_wp λprog w A R s h=>by
  obtain⟨hp,g,d,tk,os⟩:=s;obtain⟨hl,hb,h⟩:=h;have f1:=AutoSeq1.idx_int;have f2:=AutoSeq1.sub_tuple_tuple;have f3:=AutoSeq1.sub_list_list;have f4:=AutoSeq1.sub_tuple_list;have f5:=AutoSeq1.sub_list_tuple;have hz':(items++items2).size<=sizeLine+1:=by rw[Array.size_append];exact hs2
  wp_walk using(wpAny_updateSeq hl rfl (hz:=hs1) (_hz':=hz')),AutoSeq1.wpAny_loadPart' hl,AutoSeq1.wpAny_loadPart' hb;exact⟨_,rfl,h⟩
theorem Zbb{X:Cx}:MtM X "list.extend" (Zba X.K):=by
 intro pins s σ H x vs v us Q I rx rv h;obtain⟨l,b,xs,zs,rfl,rfl,hH,hB,hz,q⟩:=h;cases rx;obtain⟨u,rfl,ru⟩:=rv.one;cases ru;obtain⟨z,its,n,r,hl,e⟩:=I.lstM hH;obtain⟨its2,r2,⟨o,n2,ho,hc,hdn,hd⟩,z2⟩:=I.list hB;have hl2:=r2.length;obtain⟨cls,dc,data,sl⟩:=o;cases hc;cases hd;have hsz:its.toArray.size+its2.toArray.size<=sizeLine:=by rw[bp,bp];omega
 have hlong:¬(!its.toArray.isEmpty&&Builtin.List.listTooLong (its.toArray.size+its2.toArray.size))=aC:=by rw[Zei hsz,Bool.and_false];exact bj
 refine call_meets F.slot_list_extend ⟨_,e,rfl⟩ F.entry_list_extend (F.args_list_extend_2 _ _)
  (Zke l its.toArray n b its2.toArray n2 dc sl hlong (by rw[bp];omega) (by omega)) ⟨e,ho,?_⟩
 refine⟨.non,_,I.lset (its':=its++its2) hH e (by simp) (r.append r2) ?_,rfl,q⟩;rw[ay];omega
end L2
namespace DL
open PySem PySem.Spec PyProof.Rows L2 TT
variable{K:ah}
theorem Kids.appL{F:Hp}:∀{xss:List (List D)} {ws:List V} {ns:Zr} {p:Nat} {b:au},Kids K F xss ws ns->ws[p]? =aA (.ref b)->(T8 ns).Nodup->
  ∃xs vs,xss[p]? =aA xs/\(b,HO.lst vs)∈ns/\Reps K F xs vs/\∀{ys:List D} {us:List V},Reps K F ys us->∃ns',Kids K F (xss.set p (xs++ys)) ws ns'/\T8 ns'=T8 ns/\∀q∈ns',q=(b,HO.lst (vs++us))\/(q∈ns/\q.1≠b)
 |_,_,_,_,_,.nil,e,_=>by simp at e
 |_,_,_,0,b,@Kids.cons _ _ xs xss b' vs ws ns r t,e,nd=>by
  have e':b'=b:=by simpa using e
  subst e';obtain⟨n1,n2⟩:=d3.mp nd;refine⟨xs,vs,rfl,ad,r,fun{ys us} hd=>⟨(b',.lst (vs++us))::ns,.cons (r.append hd) t,rfl,λq hq=>?_⟩⟩;rcases bo.mp hq with z|z
  ·exact .inl z
  ·exact .inr ⟨am _ z,λw=>n1 (av.mpr ⟨q,z,w⟩)⟩
 |_,_,_,p+1,b,@Kids.cons _ _ xs0 xss b' vs0 ws ns r t,e,nd=>by
  obtain⟨n1,n2⟩:=d3.mp nd;obtain⟨xs,vs,h1,h2,h3,h4⟩:=Kids.appL (p:=p) (b:=b) t (by simpa using e) n2;refine⟨xs,vs,by simpa using h1,am _ h2,h3,fun{ys us} hd=>?_⟩;obtain⟨ns',k1,k2,k3⟩:=h4 hd;refine⟨(b',.lst vs0)::ns',by rw[List.set_cons_succ];exact .cons r k1,by show b'::T8 ns'=b'::T8 ns;rw[k2],λq hq=>?_⟩;rcases bo.mp hq with z|z
  ·refine .inr ⟨by rw[z];exact ad,λw=>n1 ?_⟩;rw[z]at w;exact av.mpr ⟨_,h2,w.symm⟩
  ·rcases k3 q z with w|⟨w,w2⟩
   ·exact .inl w
   ·exact .inr ⟨am _ w,w2⟩
@[simp]noncomputable def Wf:List Zk->Zk->Option Nat
 | [],_=>aB
 |a::r,k=>if a=k then aA 0 else(Wf r k).map (· +1)
theorem Lq{k:Zk}:∀{kvs:List (Zk×V)} {p:Nat},Wf (kvs.map (·.1)) k=aA p->∃v,(kvs.map (·.2))[p]? =aA v/\Jd kvs k=aA v
 | [],_,e=>by cases e
 |q::r,p,e=>by
  have e:(if q.1=k then aA 0 else(Wf (r.map (·.1)) k).map (· +1))=aA p:=e;by_cases h:q.1=k
  ·rw[if_pos h]at e;cases e;exact⟨q.2,rfl,Be h⟩
  ·rw[if_neg h]at e;obtain⟨p',e1,e2⟩:=cq.mp e;subst e2;obtain⟨v,h1,h2⟩:=Lq e1;exact⟨v,by simpa using h1,by rw[U1 h];exact h2⟩
theorem Lr{k:Zk}:∀{kvs:List (Zk×V)},Wf (kvs.map (·.1)) k=aB->Jd kvs k=aB
 | [],_=>rfl
 |q::r,e=>by
  have e:(if q.1=k then aA 0 else(Wf (r.map (·.1)) k).map (· +1))=aB:=e;by_cases h:q.1=k
  ·rw[if_pos h]at e;cases e
  ·rw[if_neg h]at e;rw[U1 h];exact Lr (Option.map_eq_none_iff.mp e)
theorem KN.snoc{F:Hp}{kvs:List (Zk×V)}{bs:List au}{k:Zk}{v:V}{b:au}(h:KN F kvs bs)(hb:Jh F k b):KN F (kvs++[(k,v)]) (bs++[b]):=by
 induction h with
 |nil=>exact .cons hb .nil
 |cons r t ih=>exact .cons r ih
theorem Zg2{F:Hp}{ks:List Zk}{xss:List (List D)}{v:V}{ns:Zr}(h:Shape K F (.oX ks xss) v ns):∃a kvs ns' ep bs,v= .ref a/\ns=(a,.dN kvs ep bs)::ns'/\KN F kvs bs/\kvs.map (·.1)=ks/\Kids K F xss (kvs.map (·.2)) ns':=by
 cases h with
 |oX kb e r=>exact⟨_,_,_,_,_,rfl,rfl,kb,e,r⟩
section
variable{Z:Ent K}{H:Hp}{σ:L2.St}{Q:VK}{E:Ends}
@[simp]noncomputable def Ls:FE:=λδ=>some (.tmp (.oX [] []),δ)
theorem Zkf(h:Ze Z Ls σ H Q):Zg0 σ H Q:=by obtain⟨F,δ,own,rv,δ',s,e,k⟩:=h;cases e;intro p hp;have f:Fin Z F H σ δ own (.oX [] []) Q:=λv H' F' ns a b c t=>k v H' F' own a b c ⟨ns,t⟩;exact f.one s (.oX (kvs:=[]) .nil rfl .nil) hp
theorem Mm{F:Hp}{δ:Wc}{own:Nat->Zr}{i:Nat}{ks:List Zk}{xss:List (List D)}(s:SR Z F H σ δ own)(e:δ[i]? =aA (aA (.oX ks xss))):∃a kvs ep bs ns',σ[i]? =aA (aA (.ref a))/\own i=(a,.dN kvs ep bs)::ns'/\H a=aA (.dN kvs ep bs)/\KN F kvs bs/\kvs.map (·.1)=ks/\Kids K F xss (kvs.map (·.2)) ns':=by obtain⟨x,hx,sh⟩:=s.at' i _ e;obtain⟨a,kvs,ns',ep,bs,rfl,en,kb,ek,kd⟩:=Zg2 sh;exact⟨a,kvs,ep,bs,ns',hx,en,(s.ok i (a,.dN kvs ep bs) (by rw[en];exact ad)).2.2,kb,ek,kd⟩
theorem Zsd{F:Hp}{δ:Wc}{own:Nat->Zr}{i:Nat}{ks:List Zk}{xss:List (List D)}{k:Zk}{p:Nat}(s:SR Z F H σ δ own)(e:δ[i]? =aA (aA (.oX ks xss)))(hp:Wf ks k=aA p):
  ∃a kvs ep bs c vs xs,σ[i]? =aA (aA (.ref a))/\H a=aA (.dN kvs ep bs)/\kvs.length=xss.length/\Jd kvs k=aA (.ref c)/\H c=aA (.lst vs)/\xss[p]? =aA xs/\xs.length=vs.length/\F c=aB/\
   ∀(ys:List D) (us:List V),Reps K F ys us->∃own',SR Z F (Y0 H c (.lst (vs++us))) σ (δ.set i (aA (.oX ks (xss.set p (xs++ys))))) own':=by
 obtain⟨a,kvs,ep,bs,ns',hx,en,hH,kb,ek,kd⟩:=Mm s e;rw[<-ek]at hp;obtain⟨v,g1,g2⟩:=Lq hp;obtain⟨c,rfl⟩:=kd.ref g1;have nd:=s.nod i;rw[en]at nd;obtain⟨n1,n2⟩:=d3.mp nd;obtain⟨xs,vs,q1,q2,q3,q4⟩:=kd.appL g1 n2;have mb:(c,HO.lst vs)∈own i:=by rw[en];exact am _ q2
 obtain⟨fc,_,hHc⟩:=s.ok i _ mb;refine⟨a,kvs,ep,bs,c,vs,xs,hx,hH,by have:=kd.length;rw[ag]at this;exact this.symm,g2,hHc,q1,q3.length,fc,λys us r=>?_⟩;obtain⟨ns2,k1,k2,k3⟩:=q4 r;have hac:a≠c:=λz=>n1 (av.mpr ⟨_,q2,z.symm⟩);refine⟨_,s.change (sv':=.oX ks (xss.set p (xs++ys))) (o':=.lst (vs++us)) (ns':=(a,.dN kvs ep bs)::ns2) e hx mb (.oX kb ek k1) (λq hq=>?_) ?_⟩
 ·rcases bo.mp hq with z|z
  ·exact .inr ⟨by rw[en,z];exact ad,by rw[z];exact hac⟩
  ·rcases k3 q z with w|⟨w,w2⟩
   ·exact .inl w
   ·exact .inr ⟨by rw[en];exact am _ w,w2⟩
 ·show(a::T8 ns2).Nodup;rw[k2];exact nd
theorem Zse{F:Hp}{δ:Wc}{own:Nat->Zr}{i:Nat}{ks:List Zk}{xss:List (List D)}{k:Zk}(s:SR Z F H σ δ own)(e:δ[i]? =aA (aA (.oX ks xss)))(hp:Wf ks k=aB):
  ∃a kvs ep bs,σ[i]? =aA (aA (.ref a))/\H a=aA (.dN kvs ep bs)/\kvs.length=xss.length/\Jd kvs k=aB/\
   ∀(l b:au) (ys:List D) (us:List V) (ep':Nat),H l=aB->Jh F k b->Reps K F ys us->∃own',SR Z F (Y0 (Y0 (Y0 H l (.lst [])) a (.dN (kvs++[(k,.ref l)]) ep' (bs++[b]))) l (.lst us)) σ (δ.set i (aA (.oX (ks++[k]) (xss++[ys])))) own':=by
 obtain⟨a,kvs,ep,bs,ns',hx,en,hH,kb,ek,kd⟩:=Mm s e;rw[<-ek]at hp;have nd:=s.nod i;rw[en]at nd;obtain⟨n1,n2⟩:=d3.mp nd;have mb:(a,HO.dN kvs ep bs)∈own i:=by rw[en];exact ad
 refine⟨a,kvs,ep,bs,hx,hH,by have:=kd.length;rw[ag]at this;exact this.symm,Lr hp,λl b ys us ep' hl hb r=>?_⟩;have hla:l≠a:=λz=>by rw[z,hH]at hl;cases hl
 have eH:Y0 (Y0 (Y0 H l (.lst [])) a (.dN (kvs++[(k,.ref l)]) ep' (bs++[b]))) l (.lst us)=Y0 (Y0 H l (.lst us)) a (.dN (kvs++[(k,.ref l)]) ep' (bs++[b])):=by
  funext c;unfold Y0;by_cases h1:c=l
  ·rw[if_pos h1];by_cases h2:c=a
   ·exact absurd (h1.symm.trans h2) hla
   ·rw[if_neg h2,if_pos h1]
  ·rw[if_neg h1];by_cases h2:c=a
   ·rw[if_pos h2,if_pos h2]
   ·rw[if_neg h2,if_neg h2,if_neg h1,if_neg h1]
 rw[eH];have sm:=J1 (o:=HO.lst us) hl;have s1:=s.grow sm;have t:TmpOk Z F (Y0 H l (.lst us)) own (.ol ys) (.ref l) [(l,.lst us)]:=by
  refine⟨.ol r,Ku,λq hq=>?_,λj q r hq hr z=>?_⟩
  ·obtain rfl:=ao.mp hq;exact⟨s.le.free hl,s.old.free hl,Yr⟩
  ·obtain rfl:=ao.mp hq;have z':l=r.1:=z;have:=(s.ok j r hr).2.2;rw[<-z',hl]at this;cases this
 have hb':∀p∈own i,p.1≠l:=λp hp z=>t.sep i (l,.lst us) p ad hp z.symm;refine⟨_,s1.changeT (o':=.dN (kvs++[(k,.ref l)]) ep' (bs++[b])) (ns':=(a,.dN (kvs++[(k,.ref l)]) ep' (bs++[b]))::(ns'++[(l,.lst us)])) t e hx mb (.oX (kb.snoc hb) (by rw[b4,ek];rfl) (by rw[b4];exact kd.snoc r)) (λp hp=>?_) ?_⟩
 ·rcases bo.mp hp with z|z
  ·exact .inl z
  ·rcases bh.mp z with z|z
   ·exact .inr (.inl ⟨by rw[en];exact am _ z,λw=>n1 (av.mpr ⟨p,z,w⟩)⟩)
   ·exact .inr (.inr z)
 ·show(a::(ns'++[(l,HO.lst us)]).map (·.1)).Nodup;rw[b4];refine d3.mpr ⟨λz=>?_,?_⟩
  ·rcases bh.mp z with z|z
   ·exact n1 z
   ·exact hb' _ mb (ao.mp z)
  ·refine cu.mpr ⟨n2,Ku,λx hx y hy z=>?_⟩;obtain⟨p,hp,ep⟩:=av.mp hx;have hy':y=l:=ao.mp hy;exact hb' p (by rw[en];exact am _ hp) (by rw[ep,z,hy'])
@[simp]noncomputable def Ac(ks:List Zk)(xss:List (List D))(k:Zk)(ys:List D):List Zk×List (List D):=match Wf ks k with
 |some p=>(ks,xss.set p (xss.getD p []++ys))
 |none=>(ks++[k],xss++[ys])
noncomputable def okX(xss:List (List D))(n:Nat):Prop:=xss.length<cx/\n<cx/\∀xs∈xss,xs.length+n<cx
open Classical in
noncomputable def T0(i:Nat)(fk:FE)(j:Nat)(ext:Bool):FS:=λδ=>match δ[i]? with
 |some (aA (.oX _ _))=>(fk δ).bind λp=>(frz p.1 p.2).bind λq=>(nk? q.1).bind λk=>match q.2[i]?,q.2[j]? with
  |some (aA (.oX ks xss)),aA (aA (.fz d))=>(if ext=aC then(match d with| .lst ys=>aA ys|_=>aB)else aA [d]).bind λys=>if okX xss ys.length then aA (.nx (q.2.set i (aA (.oX (Ac ks xss k ys).1 (Ac ks xss k ys).2))))else aB
  |_,_=>aB
 |_=>aB
theorem Zbc{i j:Nat}{fk:FE}{ext:Bool}(h:Z9 Z (T0 i fk j ext) E σ H):D3 (tBM K "list" (if ext=aC then Zba K else Gp) (Zl9 (Mx i) (Ze Z fk) (Zm4 Xs)) (Kj (Mx j) Xs)) E σ H:=by
 obtain⟨F,δ,own,fl,s,e,k⟩:=h;unfold T0 at e;split at e
 ·rename_i ks0 xss0 hi0;obtain⟨⟨rv,δ1⟩,e1,e⟩:=aa.mp e;obtain⟨⟨kd,δ2⟩,e2,e⟩:=aa.mp e;obtain⟨kk,e3,e⟩:=aa.mp e;dsimp only at e2 e3 e;split at e
  ·rename_i ks xss d hi hj;obtain⟨ys,e4,e⟩:=aa.mp e;split at e
   ·rename_i hok;cases e;obtain⟨a,kvs0,ep0,bs0,ns0,hx0,en0,hH0,_⟩:=Mm s hi0;refine⟨.ref a,hx0,a,rfl,⟨_,_,_,hH0⟩,F,δ,own,rv,δ1,s,e1,λv H1 F1 own1 sH sF s1 r1=>?_⟩;obtain⟨F2,sF2,s2,r2⟩:=s1.settleR r1;obtain⟨F3,own3,sF3,s3,r3⟩:=s2.frzR r2 e2;rw[Zgv e3]at r3;obtain⟨b,rfl,hb⟩:=Ml r3;obtain⟨y,hy,shy⟩:=s3.at' j _ hj;have ry:=J2 shy;have hus:∃us,Reps K F3 ys us/\(∀{c:au} {vs:List V} {H4:Hp} {Q:VK},Zl F3 H4->H4 c=aA (.lst vs)->F3 c=aB->vs.length+ys.length<cx->Q .non (Y0 H4 c (.lst (vs++us)))->(if ext=aC then Zba K else Gp) (.ref c) [y] H4 Q):=by
     cases ext with
     |false=>
      obtain rfl:[d]=ys:=by simpa using e4
      refine⟨[y],.cons ry .nil,fun{c vs H4 Q} le hc hf hz q=>?_⟩;exact⟨c,vs,y,rfl,rfl,hc,by simpa using(by simp at hz;omega:vs.length<cx),q⟩
     |true=>
      simp only[if_true]at e4;split at e4
      ·rename_i zs;cases e4;cases ry with
       | @lst l _ us hl _ ru=>refine⟨us,ru,fun{c vs H4 Q} le hc hf hz q=>?_⟩;exact⟨c,l,vs,us,rfl,rfl,hc,Wb le hl,by rw[<-ru.length];omega,q⟩
      ·cases e4
    obtain⟨us,ru,step⟩:=hus;have lu:=ru.length;have sFt:=sF.trans (sF2.trans sF3);refine⟨fu _,λl hl=>?_⟩;have sml:=J1 (o:=HO.lst []) hl;cases hp:Wf ks kk with
    |some p=>
     obtain⟨a',kvs,ep,bs,c,vs,xs,hx,hH,hlen,hv,hHc,q1,q2,fc,q3⟩:=Zsd (s3.grow sml) hi hp;rw[hx0]at hx;cases hx;have hxs:=b6 q1;have hz:=hok.2.2 xs hxs;refine⟨kvs,ep,bs,kk,b,rfl,hH,hb.mono λ_ _ q=>(s3.grow sml).le _ _ q,by rw[hlen];exact hok.1,.inl ⟨.ref c,hv,.inl ⟨rfl,vs,.inl (.inl hHc)⟩,y,hy,?_⟩⟩;refine step (s3.grow sml).le hHc fc (by omega) ?_;obtain⟨own',sr⟩:=q3 ys us ru;refine k σ _ F3 own' sFt ?_;have:Ac ks xss kk ys=(ks,xss.set p (xs++ys)):=by
      unfold Ac;rw[hp];have:xss.getD p []=xs:=by rw[bg,q1];rfl
      show(ks,xss.set p (xss.getD p []++ys))=_;rw[this]
     rw[this];exact sr
    |none=>
     obtain⟨a',kvs,ep,bs,hx,hH,hlen,hv,q3⟩:=Zse s3 hi hp;rw[hx0]at hx;cases hx;have hH':(Y0 H1 l (.lst [])) a=aA (.dN kvs ep bs):=sml _ _ hH;refine⟨kvs,ep,bs,kk,b,rfl,hH',hb.mono λ_ _ q=>(s3.grow sml).le _ _ q,by rw[hlen];exact hok.1,.inr ⟨hv,λep'=>?_⟩⟩;have hla:l≠a:=λz=>by rw[z,hH]at hl;cases hl
     have hHl:(Y0 (Y0 H1 l (.lst [])) a (.dN (kvs++[(kk,.ref l)]) ep' (bs++[b]))) l=aA (.lst []):=by rw[Zv hla,Yr]
     have leN:Zl F3 (Y0 (Y0 H1 l (.lst [])) a (.dN (kvs++[(kk,.ref l)]) ep' (bs++[b]))):=λc u ec=>by
      have hca:c≠a:=λz=>by obtain⟨a2,kvs2,ep2,bs2,ns2,hx2,en2,_⟩:=Mm s3 hi;rw[hx0]at hx2;cases hx2;have:=(s3.ok i (a,.dN kvs2 ep2 bs2) (by rw[en2];exact ad)).1;rw[z,this]at ec;cases ec
      rw[Zv hca];exact(s3.grow sml).le _ _ ec
     refine⟨.inl ⟨rfl,[],.inl (.inl hHl)⟩,y,hy,?_⟩;refine step (vs:=[]) leN hHl (s3.le.free hl) (by have h1:=hok.2.1;simpa using h1) ?_;obtain⟨own',sr⟩:=q3 l b ys us ep' hl hb ru;refine k σ _ F3 own' sFt ?_;have:Ac ks xss kk ys=(ks++[kk],xss++[ys]):=by unfold Ac;rw[hp]
     rw[this];exact sr
   ·cases e
  ·cases e
 ·cases e
end
section
variable{X:Cx}{Z:Ent X.K}{a b c:c5}{fa fb fc:FE}{pos:Pos}
theorem Zbd:PE X (.Dict [] [] pos) (Ze Z Ls):=Zg1.imp λ_ _ _ h=>Zkf h
theorem Zkg(i j:Nat){x y:Str}{k:c5}{fk:FE}{px py p2 ap1 cp1 apos cpos:Pos}(hu:X.A.units+64<fg)(hk:PE X k (Ze Z fk))(hN:X.N[i]? =aA x:=by rfl)(hv:D2 X.env.scope x:=by first|exact Or.inl rfl|exact Or.inr (Or.inl rfl)|exact Or.inr (Or.inr rfl))(hd:(x==("__debug__":Str))=aD:=by decide)(hcd:(x==("__classdict__":Str))=aD:=by decide)
  (hN':X.N[j]? =aA y:=by rfl) (hv':D2 X.env.scope y:=by first|exact Or.inl rfl|exact Or.inr (Or.inl rfl)|exact Or.inr (Or.inr rfl)) (hd':(y==("__debug__":Str))=aD:=by decide) (hcd':(y==("__classdict__":Str))=aD:=by decide)
  (m:M2 X (.Name x px) "setdefault" ap1 k (.List [] p2) cp1:=by exact⟨rfl,rfl,rfl,rfl⟩)
  (hbase:attributeBase (.Call (.Attribute (.Name x px) "setdefault" ap1) [k,.List [] p2] [] cp1) "append" X.env (gw (.Call (.Attribute (.Name x px) "setdefault" ap1) [k,.List [] p2] [] cp1) X.env)=gw (.Call (.Attribute (.Name x px) "setdefault" ap1) [k,.List [] p2] [] cp1) X.env:=by rfl)
  (hfew:((gp cpos (ba [.Name y py] X.env)).all (λx=>!x.1)&&(backToKw cpos (keywordEach [] X.env)).all (λx=>x.1.isSome)&&decide ([Expr.Name y py].length+([]:List Keyword).length+(if([]:List Keyword).isEmpty then 0 else 1)<30))=aC:=by rfl)
  (hline:(apos.endLine==cpos.line)=aC:=by rfl) (hs:ba [.Name y py] X.env=(aD,gw (.Name y py) X.env)::ba [] X.env:=by rfl) (hpl:(gp cpos (ba [] X.env)).any (·.1)=aD:=by rfl) (hsw:swapsWith (.Call (.Attribute (.Call (.Attribute (.Name x px) "setdefault" ap1) [k,.List [] p2] [] cp1) "append" apos) [.Name y py] [] cpos) aB pos.line X.env=pure aD:=by rfl):
  PS X (.Expr (.Call (.Attribute (.Call (.Attribute (.Name x px) "setdefault" ap1) [k,.List [] p2] [] cp1) "append" apos) [.Name y py] [] cpos) pos) (Z9 Z (T0 i fk j aD)):=
 (Ae (Sv PySem.F.plainAttrs_list PySem.F.slot_list_append PySem.F.type_list_append M0 (Za9 (by omega) (O6 (i:=i) hN hv hd hcd) hk (Xt Bq) m) (Um (O6 (i:=j) hN' hv' hd' hcd') Bq hs) hbase hfew hline hs hpl) hsw).imp λ_ _ _ h=>Zbc (ext:=aD) h
theorem Zkh(i j:Nat){x y:Str}{k:c5}{fk:FE}{px py p2 ap1 cp1 apos cpos:Pos}(hu:X.A.units+64<fg)(hk:PE X k (Ze Z fk))(hN:X.N[i]? =aA x:=by rfl)(hv:D2 X.env.scope x:=by first|exact Or.inl rfl|exact Or.inr (Or.inl rfl)|exact Or.inr (Or.inr rfl))(hd:(x==("__debug__":Str))=aD:=by decide)(hcd:(x==("__classdict__":Str))=aD:=by decide)
  (hN':X.N[j]? =aA y:=by rfl) (hv':D2 X.env.scope y:=by first|exact Or.inl rfl|exact Or.inr (Or.inl rfl)|exact Or.inr (Or.inr rfl)) (hd':(y==("__debug__":Str))=aD:=by decide) (hcd':(y==("__classdict__":Str))=aD:=by decide)
  (m:M2 X (.Name x px) "setdefault" ap1 k (.List [] p2) cp1:=by exact⟨rfl,rfl,rfl,rfl⟩)
  (hbase:attributeBase (.Call (.Attribute (.Name x px) "setdefault" ap1) [k,.List [] p2] [] cp1) "extend" X.env (gw (.Call (.Attribute (.Name x px) "setdefault" ap1) [k,.List [] p2] [] cp1) X.env)=gw (.Call (.Attribute (.Name x px) "setdefault" ap1) [k,.List [] p2] [] cp1) X.env:=by rfl)
  (hfew:((gp cpos (ba [.Name y py] X.env)).all (λx=>!x.1)&&(backToKw cpos (keywordEach [] X.env)).all (λx=>x.1.isSome)&&decide ([Expr.Name y py].length+([]:List Keyword).length+(if([]:List Keyword).isEmpty then 0 else 1)<30))=aC:=by rfl)
  (hline:(apos.endLine==cpos.line)=aC:=by rfl) (hs:ba [.Name y py] X.env=(aD,gw (.Name y py) X.env)::ba [] X.env:=by rfl) (hpl:(gp cpos (ba [] X.env)).any (·.1)=aD:=by rfl) (hsw:swapsWith (.Call (.Attribute (.Call (.Attribute (.Name x px) "setdefault" ap1) [k,.List [] p2] [] cp1) "extend" apos) [.Name y py] [] cpos) aB pos.line X.env=pure aD:=by rfl):
  PS X (.Expr (.Call (.Attribute (.Call (.Attribute (.Name x px) "setdefault" ap1) [k,.List [] p2] [] cp1) "extend" apos) [.Name y py] [] cpos) pos) (Z9 Z (T0 i fk j aC)):=
 (Ae (Sv PySem.F.plainAttrs_list PySem.F.slot_list_extend PySem.F.type_list_extend Zbb (Za9 (by omega) (O6 (i:=i) hN hv hd hcd) hk (Xt Bq) m) (Um (O6 (i:=j) hN' hv' hd' hcd') Bq hs) hbase hfew hline hs hpl) hsw).imp λ_ _ _ h=>Zbc (ext:=aC) h
end
end DL
namespace L2
open PySem PySem.Spec PySem.Calls PyProof.Rows
noncomputable def Zsg:V->V->Hp->VK->Prop:=λx y H Q=>∃a b kvs ep bs k v,x= .ref a/\y= .ref b/\H a=aA (.dN kvs ep bs)/\Jh H k b/\Jd kvs k=aA v/\Q v H
noncomputable def Itn(a:au)(n ep:Nat):It:=
 ⟨λi H=>∃kvs bs,H a=aA (.dN kvs ep bs)/\kvs.length=n/\i<n,λi H x H'=>H'=H/\∃kvs bs b,H a=aA (.dN kvs ep bs)/\bs[i]? =aA b/\x= .ref b,λi H=>∃kvs bs,H a=aA (.dN kvs ep bs)/\kvs.length=n/\n<=i⟩
theorem Zki{P:bv}{w:c6}{K:ah}{tg:c5}(a it:au)(n ep:Nat):Turn P w K tg (Itn a n ep) [it] it (λi h=>h.IsKeyIter it a i n ep)where
 mem:=ad
 obj:=(B1 (P:=P) (w:=w) (K:=K) (tg:=tg) a it n ep).obj
 keep:=(B1 (P:=P) (w:=w) (K:=K) (tg:=tg) a it n ep).keep
 item:=by
  intro X hP hw hK hc i pins s σ H E I hf st hg;subst hP hw hK;obtain⟨kvs,bs,hq,hn,hi⟩:=hg;obtain⟨z,hd,xs,rel,od,es,g,x,c,en,nd,hbs⟩:=(show Yb X.prog X.w H s.heap a (.dN kvs ep bs)from I.hok a _ hq)
  obtain⟨f0,f1,f2,f3,f4,f5⟩:=hf it ad;have hkv:kvs[i]? =aA (kvs[i]'(by omega)):=aw (by omega);obtain⟨vv,hv,hr⟩:=Uy rel hkv;have hz:es.size=n:=by rw[<-a6,en,ag,<-gq rel,hn]
  have he:es[i]? =aA (entryOfKey (Kh X.prog X.w) vv):=by rw[<-cp,en,a8,hv];rfl
  refine Md st g c hz he λh' st' sb=>?_;have I1:Inv X pins σ H {s with heap:=h'}:=I.turned (t':=s.toks) (λb o hb e=>(sb.2 b hb).trans e) f0 f1 f3 f4 f5;obtain⟨o,e1,c1,d1⟩:=id st';exact⟨.ref vv.2.1,rfl,Tu (s:={s with heap:=h'}) e1 c1 d1 (by decide) ⟨.ref vv.2.1,H,I1,rfl,⟨rfl,kvs,bs,vv.2.1,hq,by rw[<-hbs,a8,hv];rfl,rfl⟩,st',λb hb=>(hf b hb).1⟩⟩
 done:=by
  intro X hP hw hK hc i pins s σ H E I hf st hg;subst hP hw hK;obtain⟨kvs,bs,hq,hn,hi⟩:=hg;obtain⟨z,hd,xs,rel,od,es,g,x,c,en,nd,hbs⟩:=(show Yb X.prog X.w H s.heap a (.dN kvs ep bs)from I.hok a _ hq)
  obtain⟨f0,f1,f2,f3,f4,f5⟩:=hf it ad;have hz:es.size=n:=by rw[<-a6,en,ag,<-gq rel,hn]
  exact Me (I.ok.hd hc) st g c hz hi λh' eb=>⟨rfl,I.turned (t':=s.toks) (λb o hb e=>eb b o hb e) f0 f1 f3 f4 f5⟩
 self:=(B1 (P:=P) (w:=w) (K:=K) (tg:=tg) a it n ep).self
section
variable{X:Cx}{tg:c5}
noncomputable def Zmb(tl:TE):TI:=λσ H R=>tl σ H λx H1=>∃a kvs ep bs,x= .ref a/\H1 a=aA (.dN kvs ep bs)/\R (Itn a kvs.length ep) H1
theorem Zkj{l:c5}{tl:TE}(hl:PE X l tl):PI X tg l (Zmb tl):=by
 intro pins s σ H R I h;refine Wv (hl pins s σ H _ I h) λv s1 zq9=>?_;obtain⟨x,H1,I1,r1,q1⟩:=zq9;obtain⟨a,kvs,ep,bs,rfl,hq,q⟩:=q1;cases r1;obtain⟨z,hd,xs,rel,od,es,g,x,c,en,nd,hbs⟩:=(show Yb X.prog X.w H1 s1.heap a (.dN kvs ep bs)from I1.hok a _ hq)
 have hz:es.size=kvs.length:=by rw[<-a6,en,ag,<-gq rel]
 refine Mc hd g x c ⟨s1.heap.objs.size,[s1.heap.objs.size],_,_,H1,rfl,I1.kept (t':=s1.toks) λb o e=>ar _ e,Zki a _ kvs.length ep,⟨_,a9 _ rfl,rfl,by rw[hz];rfl⟩,λb hb=>?_,q⟩;obtain rfl:=ao.mp hb;exact I1.fpOk (az _) (I1.hok.fresh (az _))
end
end L2
namespace DL
open PySem PySem.Spec PyProof.Rows L2 TT
variable{K:ah}
theorem Zc0{F:Hp}{a:au}{kvs:List (Zk×V)}{ep:Nat}{bs:List au}(h:F a=aA (.dN kvs ep bs))(kb:KN F kvs bs):U2 K (Itn a kvs.length ep) F ((kvs.map (·.1)).map Zj):=λF' H sF sH i=>by have q:H a=aA (.dN kvs ep bs):=sH _ _ (sF _ _ h);refine⟨λd hd=>?_,λhl=>⟨kvs,bs,q,rfl,by simpa using hl⟩⟩;rw[bi,a8]at hd;obtain⟨kv,h1,h2⟩:=cq.mp hd;refine⟨⟨kvs,bs,q,rfl,(ax.mp h1).1⟩,λx H' ⟨e1,kvs',bs',b,e2,e3,e4⟩=>?_⟩;subst e1;rw[q]at e2;cases e2;subst e4;obtain⟨b',g1,g2⟩:=Uy (kb.mono sF) h1;rw[e3]at g1;cases g1;rw[<-h2];exact⟨Zl.refl _,[],cm,λ_ h=>(nomatch h),C2 g2⟩
theorem Yf.dX{F H:Hp}{ks:List Zk}{ds:List D}{v:V}(le:Zl F H)(h:Yf K F H (.dX ks ds) v):∃a kvs ep bs,v= .ref a/\H a=aA (.dN kvs ep bs)/\kvs.map (·.1)=ks/\Reps K F ds (kvs.map (·.2)):=by
 obtain⟨sv,ns,e,n,sh,hp⟩:=h;cases sh with
 |fz r=>cases e;cases r with|dX h kb e r=>exact⟨_,_,_,_,rfl,le _ _ h,e,r⟩
 |ol r=>cases e
 |oK e' r=>cases e
 |oT kb e' r=>cases e
 |oN e' r=>cases n
 |oX kb' e' r=>cases n
 |oD r=>cases n
 |oM kb' e' r=>cases n
 |oL _ r=>cases n
 |oQ e' r=>cases e
theorem Yf.nk{F H:Hp}{d:D}{k:Zk}{v:V}(le:Zl F H)(e0:nk? d=aA k)(h:Yf K F H d v):∃b,v= .ref b/\Jh H k b:=by
 rw[Zgv e0]at h;obtain⟨sv,ns,e,n,sh,hp⟩:=h;have nt:∀{xs:List D},Zj k≠.lst xs:=fun{xs} z=>by cases k<;> cases z
 have nd:∀{ks:List Key} {xs:List D},Zj k≠.dK ks xs:=fun{ks xs} z=>by cases k<;> cases z
 have ndt:∀{ks:List (List Key)} {xs:List D},Zj k≠.dT ks xs:=fun{ks xs} z=>by cases k<;> cases z
 cases sh with
 |fz r=>have e:_=Zj k:=e;simp only[SV.toD]at e;subst e;obtain⟨b,rfl,hb⟩:=Ml r;exact⟨b,rfl,hb.mono λ_ _ q=>le _ _ q⟩
 |ol r=>exact absurd e.symm nt
 |oK e' r=>exact absurd e.symm nd
 |oT kb e' r=>exact absurd e.symm ndt
 |oN e' r=>cases n
 |oX kb' e' r=>cases n
 |oD r=>cases n
 |oM kb' e' r=>cases n
 |oL _ r=>cases n
 |oQ e' r=>exact absurd e.symm nd
section
variable{Z:Ent K}{H:Hp}{σ:L2.St}{Q:VK}{E:Ends}
@[simp]noncomputable def Zg3(fe:FE):FD:=λδ=>(fe δ).bind λp=>(frz p.1 p.2).bind λq=>match q.1 with
 | .dX ks _=>aA (ks.map Zj,q.2)
 |_=>aB
theorem Zkk{fe:FE}{R:It->Hp->Prop}(h:Qj Z (Zg3 fe) σ H R):Zmb (Ze Z fe) σ H R:=by
 obtain⟨F,δ,own,ds,δ',s,e,k⟩:=h;obtain⟨⟨rv,δ1⟩,e1,e2⟩:=aa.mp e;obtain⟨⟨d,δ2⟩,e3,e4⟩:=aa.mp e2;refine⟨F,δ,own,rv,δ1,s,e1,λv H1 F1 own1 sH sF s1 r1=>?_⟩;obtain⟨F2,sF2,s2,r2⟩:=s1.settleR r1;obtain⟨F3,own3,sF3,s3,r3⟩:=s2.frzR r2 e3;dsimp only at e4;split at e4
 ·cases e4;cases r3 with
  |dX h kb e r=>subst e;exact⟨_,_,_,_,rfl,s3.le _ _ h,k _ H1 F3 own3 sH (sF.trans (sF2.trans sF3)) s3 (Zc0 h kb)⟩
 ·cases e4
@[simp]noncomputable def Zg4(d1 d2:D):Option SV:=match d1 with
 | .dX ks vs=>(nk? d2).bind λk=>(look ks vs k).bind λd=>aA (.fz d)
 |_=>aB
theorem Zsh:Y6 Z Zsg Zg4:=by
 intro F H σ δ own x y d1 d2 sv Q s r1 r2 e k;unfold Zg4 at e;split at e
 ·rename_i ks vs;obtain⟨kk,e1,e2⟩:=aa.mp e;obtain⟨d,e3,e4⟩:=aa.mp e2;cases e4;obtain⟨a,kvs,ep,bs,rfl,ha,rfl,rr⟩:=r1.dX s.le;obtain⟨b,rfl,hb⟩:=r2.nk s.le e1;have z:=Ai kk kvs _ rr;rw[e3]at z;obtain⟨v,z1,z2⟩:=z;exact⟨a,b,kvs,ep,bs,kk,v,rfl,rfl,ha,hb,z1,k.fz s z2⟩
 ·cases e
@[simp]noncomputable def Lu(i:Nat)(fe:FE):FS:=λδ=>match δ[i]? with
 |some (aA (.ol _))=>(fe δ).bind λp=>(frz p.1 p.2).bind λq=>match q.1,q.2[i]? with
  | .lst ys,aA (aA (.ol xs))=>if xs.length+ys.length<=cx then aA (.nx (q.2.set i (aA (.ol (xs++ys)))))else aB
  |_,_=>aB
 |_=>aB
theorem Zon{i:Nat}{fe:FE}(h:Z9 Z (Lu i fe) E σ H):D3 (tBM K "list" (Zba K) (Mx i) (Kj (Ze Z fe) Xs)) E σ H:=by
 obtain⟨F,δ,own,fl,s,e,k⟩:=h;unfold Lu at e;split at e
 ·rename_i xs0 hx0;obtain⟨⟨rv,δ1⟩,e1,e2⟩:=aa.mp e;obtain⟨⟨d,δ2⟩,e3,e4⟩:=aa.mp e2;obtain⟨v,hv,sh⟩:=s.at' i _ hx0;obtain⟨a,vs0,ev,en,r0⟩:=U5 sh;refine⟨v,hv,?_,F,δ,own,rv,δ1,s,e1,λy H1 F1 own1 sH sF s1 r1=>?_⟩
  ·subst ev;exact .inl ⟨rfl,vs0,.inl (.inl (s.ok i (a,.lst vs0) (by rw[en];exact ad)).2.2)⟩
  obtain⟨F2,sF2,s2,r2⟩:=s1.settleR r1;obtain⟨F3,own3,sF3,s3,r3⟩:=s2.frzR r2 e3;dsimp only at e4;split at e4
  ·rename_i ys xs hx;by_cases hz:xs.length+ys.length<=cx
   ·rw[if_pos hz]at e4;cases e4;obtain⟨v',hv',sh'⟩:=s3.at' i _ hx;rw[hv]at hv';cases hv';obtain⟨b,vs,eb,en',r'⟩:=U5 sh';have mb:(b,HO.lst vs)∈own3 i:=by rw[en'];exact ad
    subst eb;cases r3 with
    | @lst l _ us hl _ ru=>refine⟨b,l,vs,us,rfl,rfl,(s3.ok i _ mb).2.2,Wb s3.le hl,by rw[<-r'.length,<-ru.length];exact hz,?_⟩;exact k σ _ F3 _ (sF.trans (sF2.trans sF3)) (s3.change (sv':=.ol (xs++ys)) (o':=.lst (vs++us)) (ns':=[(b,.lst (vs++us))]) hx hv mb (.ol (r'.append ru)) (λp hp=>.inl (ao.mp hp)) Ku)
   ·rw[if_neg hz]at e4;cases e4
  ·cases e4
 ·cases e
@[simp]noncomputable def Ps(j ia il:Nat):FS:=λδ=>match δ[ia]?,δ[il]? with
 |some (aA (.fz (.lst hs))),aA (aA (.ol xs))=>(xs[xs.length- 1]?).bind λd=>(ixD (.lst hs) d).bind λsv=>(stow j (.tmp sv) (δ.set il (aA (.ol xs.dropLast)))).bind λδ'=>aA (.nx δ')
 |_,_=>aB
theorem Reps.dropLast{F:Hp}{ds:List D}{vs:List V}(r:Reps K F ds vs):Reps K F ds.dropLast vs.dropLast:=by rw[List.dropLast_eq_take,List.dropLast_eq_take,<-r.length];exact r.take _
theorem Zkl{j ia il:Nat}(h:Z9 Z (Ps j ia il) E σ H):Zb3 (tOp (rIx K) (Mx ia) (Zqd K "list" Zqf (Mx il))) (Eb j) E σ H:=by
 obtain⟨F,δ,own,fl,s,e,k⟩:=h;unfold Ps at e;split at e
 ·rename_i hs xs hia hil;obtain⟨d,e1,e⟩:=aa.mp e;obtain⟨sv,e2,e⟩:=aa.mp e;obtain⟨δ2,e3,e⟩:=aa.mp e;cases e;obtain⟨x,hx,shx⟩:=s.at' ia _ hia;have rx:=J2 shx;obtain⟨y,hy,shy⟩:=s.at' il _ hil;obtain⟨a,vs,ea,en,ra⟩:=U5 shy;subst ea;have mb:(a,HO.lst vs)∈own il:=by rw[en];exact ad
  have hHa:=(s.ok il _ mb).2.2;obtain⟨v,hv,rv⟩:=ra.get e1;have hl:=ra.length;refine⟨x,hx,.ref a,hy,.inl ⟨rfl,vs,.inl (.inl hHa)⟩,a,vs,v,rfl,rfl,hHa,by rw[<-hl];exact hv,?_⟩;have s2:=s.change (sv':=.ol xs.dropLast) (o':=.lst vs.dropLast) (ns':=[(a,.lst vs.dropLast)]) hil hy mb (.ol ra.dropLast) (λp hp=>.inl (ao.mp hp)) Ku;refine Zq7 F _ σ _ _ x v (.lst hs) d sv _ s2 (Yf.of rx) (Yf.of rv) e2 λw H3 F3 ns sH sF s3 t3=>?_;obtain⟨F4,own4,sF4,s4⟩:=s3.stow (rv:=.tmp sv) (v:=w) ⟨ns,t3⟩ e3;exact k _ H3 F4 own4 (sF.trans sF4) s4
 ·cases e
@[simp]noncomputable def Zbe(j:Nat)(f1:FE):FE:=λδ=>match δ[j]? with
 |some (aA (.fz kd))=>kd.key?.bind λk=>(Zh f1 Zo δ).bind λp=>match p.1 with
  | [v1]=>aA (.tmp (.oK [k] [v1]),p.2)
  |_=>aB
 |_=>aB
theorem Zkm{f1:FE}{j:Nat}(h:Ze Z (Zbe j f1) σ H Q):Zf4 [(Mx j,Ze Z f1)] σ H Q:=by
 obtain⟨F,δ,own,rv,δ',s,e,k⟩:=h;unfold Zbe at e;split at e
 ·rename_i kd hx;obtain⟨kk,e0,e⟩:=aa.mp e;obtain⟨⟨ds,δ1⟩,e1,e2⟩:=aa.mp e;dsimp only at e2;split at e2
  ·rename_i v1;cases e2;obtain⟨v,hv,sh⟩:=s.at' j _ hx;have r:=J2 sh;have ev:v=kV kk:=Zag e0 r;have hd:Qd Z (Zh f1 Zo) σ H (λvs H'=>∃kvs:List (Key×V),([kV kk].zip vs)=kvs.map (λkv=>(kV kv.1,kv.2))/\kvs.length<=15/\∀p ep,H' p=aB->Q (.ref p) (Y0 H' p (.dK (Bt [] kvs) ep))):=by
    refine⟨F,δ,own,[v1],_,s,e1,λvs H1 F1 own1 sH sF s1 r1=>?_⟩;obtain⟨w1,rfl⟩:∃w1,vs=[w1]:=by
     cases r1 with
     |cons h t=>cases t;exact⟨_,rfl⟩
    refine⟨[(kk,w1)],rfl,by show 1<=15;decide,λp ep hp=>?_⟩;have nd:((([]:List (Key×V))++[(kk,w1)]).map (·.1)).Nodup:=by simp
    rw[La _ [] nd,dj];exact Fin.one (λw H' F' ns a b c t=>k w H' F' own1 (sH.trans a) (sF.trans b) c ⟨ns,t⟩) s1 (.oK rfl r1) hp
   have h2:=El (fe:=f1) (fd:=Zo) hd;refine⟨v,hv,?_⟩;rw[ev];refine Ho (λu H1 q=>?_) h2;have z:=Kw q;exact z
  ·cases e2
 ·cases e
end
section
variable{X:Cx}{Z:Ent X.K}{a b c:c5}{fa fb fc:FE}{pos:Pos}
theorem Zoo{tg:c5}(ha:PE X a (Ze Z fa)):PI X tg a (Qj Z (Zg3 fa)):=λpins s σ H R I h=>Zkj ha pins s σ H R I (Zkk h)
theorem Zmc(hu:X.A.units+64<fg)(ha:PE X a (Ze Z fa))(hb:PE X b (Ze Z fb))(hs:Nr b:=by intro _ _;rfl):PE X (.Subscript a b pos) (Ze Z (Zn Zg4 fa fb)):=λpins s σ H Q I h=>Zkd (by omega) ha hb hs pins s σ H Q I (Kv Zsh h)
theorem Dc(i:Nat){x:Str}{px apos cpos:Pos}(hb:PE X b (Ze Z fb))(hN:X.N[i]? =aA x:=by rfl)(hv:D2 X.env.scope x:=by first|exact Or.inl rfl|exact Or.inr (Or.inl rfl)|exact Or.inr (Or.inr rfl))(hd:(x==("__debug__":Str))=aD:=by decide)
  (hcd:(x==("__classdict__":Str))=aD:=by decide) (hbase:attributeBase (.Name x px) "extend" X.env (gw (.Name x px) X.env)=gw (.Name x px) X.env:=by rfl)
  (hfew:((gp cpos (ba [b] X.env)).all (λx=>!x.1)&&(backToKw cpos (keywordEach [] X.env)).all (λx=>x.1.isSome)&&decide ([b].length+([]:List Keyword).length+(if([]:List Keyword).isEmpty then 0 else 1)<30))=aC:=by rfl)
  (hline:(apos.endLine==cpos.line)=aC:=by rfl) (hs:ba [b] X.env=(aD,gw b X.env)::ba [] X.env:=by rfl) (hpl:(gp cpos (ba [] X.env)).any (·.1)=aD:=by rfl) (hsw:swapsWith (.Call (.Attribute (.Name x px) "extend" apos) [b] [] cpos) aB pos.line X.env=pure aD:=by rfl):
  PS X (.Expr (.Call (.Attribute (.Name x px) "extend" apos) [b] [] cpos) pos) (Z9 Z (Lu i fb)):=
 (Ae (Sv PySem.F.plainAttrs_list PySem.F.slot_list_extend PySem.F.type_list_extend Zbb (O6 (i:=i) hN hv hd hcd) (Um hb Bq hs) hbase hfew hline hs hpl) hsw).imp λ_ _ _ h=>Zon h
theorem Zkn(j ia il:Nat){x y z:Str}{py pz apos cpos p1 p2:Pos}(hn:X.N.Nodup)(hy:PE X (.Name y py) (Mx ia))(hz:PE X (.Name z pz) (Mx il))(hj:X.N[j]? =aA x:=by rfl)(hl:Loc X.env.scope x:=by first|exact Or.inl rfl|exact Or.inr rfl)
  (hbase:attributeBase (.Name z pz) "pop" X.env (gw (.Name z pz) X.env)=gw (.Name z pz) X.env:=by rfl) (hline:(apos.endLine==cpos.line)=aC:=by rfl)
  (hs:swapsWith (.Subscript (.Name y py) (.Call (.Attribute (.Name z pz) "pop" apos) [] [] cpos) p2) (aA (.Name x p1)) pos.line X.env=pure aD:=by rfl) (hf:X.fn x=aC\/X.env.scope.names.lookup x=aA .local:=by first|exact .inl rfl|exact .inr rfl):
  PS X (.Assign [.Name x p1] (.Subscript (.Name y py) (.Call (.Attribute (.Name z pz) "pop" apos) [] [] cpos) p2) pos) (Z9 Z (Ps j ia il)):=
 (Zd5 hn hj hl (Zlg Zee hy (Znc PySem.F.plainAttrs_list PySem.F.slot_list_pop PySem.F.type_list_pop Znd hz hbase hline) (by intro _ _;rfl)) hs hf).imp λ_ _ _ h=>Zkl h
theorem Zko(j:Nat){x:Str}{p2:Pos}(hb:PE X b (Ze Z fb))(hN:X.N[j]? =aA x:=by rfl)(hv:D2 X.env.scope x:=by first|exact Or.inl rfl|exact Or.inr (Or.inl rfl)|exact Or.inr (Or.inr rfl))(hd:(x==("__debug__":Str))=aD:=by decide)
  (hcd:(x==("__classdict__":Str))=aD:=by decide):PE X (.Dict [aA (.Name x p2)] [b] pos) (Ze Z (Zbe j fb)):=
 (Zf5 (Zeq (O6 (i:=j) hN hv hd hcd) hb Zix) (by rfl) (by rfl) (by simp) (by show 1<=15;decide)).imp λ_ _ _ h=>Zkm h
end
end DL
namespace L2
open PySem PySem.Spec PySem.Calls PyProof.Rows DL TX
end L2
namespace DL
open PySem PySem.Spec PySem.Calls PyProof.Rows L2 TX
variable{K:ah}
end DL
namespace DL
open PySem PySem.Spec PyProof.Rows L2 TT
variable{K:ah}
open Classical in
noncomputable def res(S:au->Prop)(F:Hp):Hp:=λb=>if S b then F b else aB
end DL
namespace DL
open PySem PySem.Spec PyProof.Rows L2 TT
end DL
namespace DL
open PySem PySem.Spec PyProof.Rows L2 TX TT
variable{K:ah}
noncomputable abbrev NTs(H:Hp)(bs:List au)(ks:List Zk):Prop:=Paired (λ(b:au) (k:Zk)=>Jh H k b) bs ks
open Classical in
noncomputable def Fy(H:Hp)(k:Zk):aj->Bool:=λw=>decide (∃b,w= .ref b/\Jh H k b)
theorem Zbf{a b:List Str}(h:(Wz a).map kV=(Wz b).map kV):a=b:=by
 have e:∀l:List Str,(Wz l).map kV=l.map V.str:=λl=>by unfold Wz;rw[bi];rfl
 rw[e,e]at h;exact Vk h
theorem Zg5{H:Hp}{k k':Zk}{b:au}(h:Jh H k b)(h':Jh H k' b):k=k':=by
 cases k with
 |inl l=>
  cases k' with
  |inl l'=>have e:=HO.tup.inj (df.inj ((show H b=_ from h).symm.trans h'));rw[Zbf e]
  |inr p=>
   obtain⟨c,h1,h2⟩:=h';have e:=HO.tup.inj (df.inj ((show H b=_ from h).symm.trans h1));cases l with
   |nil=>simp[Wz]at e
   |cons x l=>simp[Wz,kV]at e
 |inr p=>
  obtain⟨c,h1,h2⟩:=h;cases k' with
  |inl l'=>
   have e:=HO.tup.inj (df.inj (h1.symm.trans (show H b=_ from h')));cases l' with
   |nil=>simp[Wz]at e
   |cons x l=>simp[Wz,kV]at e
  |inr p'=>obtain⟨c',h1',h2'⟩:=h';have e:=HO.tup.inj (df.inj (h1.symm.trans h1'));simp at e;obtain⟨e1,e2⟩:=e;subst e2;have e3:=HO.tup.inj (df.inj (h2.symm.trans h2'));obtain⟨n,l⟩:=p;obtain⟨n',l'⟩:=p';rw[show n=n' from e1,show l=l' from Zbf e3]
theorem Vy{H:Hp}{k k':Zk}{b:au}(h:Jh H k' b):Fy H k (.ref b)=decide (k'=k):=by
 unfold Fy;by_cases e:k'=k
 ·subst e;rw[decide_eq_true rfl];exact @decide_eq_true _ (Classical.propDecidable _) ⟨b,rfl,h⟩
 ·rw[decide_eq_false e];exact @decide_eq_false _ (Classical.propDecidable _) λ⟨b',z,q⟩=>by cases z;exact e (Zg5 h q)
theorem Ie{H:Hp}{k:Zk}:∀{bs:List au} {ks:List Zk},NTs H bs ks->(bs.map bu).any (Fy H k)=ks.any λx=>decide (x=k)
 |_,_,.nil=>rfl
 |c::bs,x::ks,.cons h t=>by rw[a7,List.any_cons,List.any_cons,Vy h,Ie t]
noncomputable def Zkp(K:ah)(neg:Bool):R2:=λx y H Q=>∃b k a bs ks,x= .ref b/\Jh H k b/\y= .ref a/\U0 K H a (bs.map V.ref)/\NTs H bs ks/\(∀k'∈ks,Wo 48 (Zj k') (Zj k)=aA (decide (k'=k)))/\Q (.bl (if neg then !(ks.any λx=>decide (x=k))else ks.any λx=>decide (x=k))) H
section
variable{X:Cx}{pins:List (au×Obj)}{σ:L2.St}{H:Hp}{s:aq}
theorem Ig(I:Inv X pins σ H s){A:di}(hu:A.units+48<fg){b:au}{k:Zk}(hb:Jh H k b):∀{bs:List au} {ks:List Zk},NTs H bs ks->(∀k'∈ks,Wo 48 (Zj k') (Zj k)=aA (decide (k'=k)))->∀u∈bs.map bu,SeqAt.EqAt A s u (.ref b) (Fy H k u)
 |_,_,.nil,_,u,hm=>nomatch hm
 |c::bs,x::ks,.cons h t,hq,u,hm=>by
  rw[a7]at hm;rcases bo.mp hm with z|z
  ·subst z;rw[Vy h];exact M6 I (Zl.refl H) 48 A (Zj x) (Zj k) _ (.ref c) (.ref b) _ _ hu (C2 h) rfl (C2 hb) rfl (hq x ad)
  ·exact Ig I hu hb t (λk' hk=>hq k' (am _ hk)) u z
theorem Zop(hu:X.A.units+64<fg):Cq X (g6 .In) (Zkp X.K aD):=by intro pins s σ H x y v u Q I rx ry h;obtain⟨b,k,a,bs,ks,rfl,hb,rfl,hq,ht,he,q⟩:=h;cases rx;cases ry;obtain⟨its,r,pl,hz⟩:=I.list hq;have ei:=N0 r;subst ei;refine SeqAt.in_listAt (Fy H k) pl.isList (λw hw=>Ig I (by have:X.A.in1.units=X.A.units+1:=rfl;omega) hb ht he w (by simpa using hw)) ⟨.bl _,H,I,rfl,?_⟩;rw[show(bs.map bu).toArray.any (Fy H k)=(bs.map bu).any (Fy H k) by simp,Ie ht];exact q
theorem Zc1(hu:X.A.units+64<fg):Cq X (g6 .NotIn) (Zkp X.K aC):=by intro pins s σ H x y v u Q I rx ry h;obtain⟨b,k,a,bs,ks,rfl,hb,rfl,hq,ht,he,q⟩:=h;cases rx;cases ry;obtain⟨its,r,pl,hz⟩:=I.list hq;have ei:=N0 r;subst ei;refine SeqAt.notIn_listAt (Fy H k) pl.isList (λw hw=>Ig I (by have:X.A.in1.units=X.A.units+1:=rfl;omega) hb ht he w (by simpa using hw)) ⟨.bl _,H,I,rfl,?_⟩;rw[show(bs.map bu).toArray.any (Fy H k)=(bs.map bu).any (Fy H k) by simp,Ie ht];exact q
end
open Classical in
noncomputable def inN(d1 d2:D):Option SV:=match d2 with
 | .lst xs=>(nk? d1).bind λk=>(nks? xs).bind λks=>if(∀k'∈ks,Wo 48 (Zj k') (Zj k)=aA (decide (k'=k)))then aA (.fz (.bl (ks.any λx=>decide (x=k))))else aB
 |_=>aB
open Classical in
noncomputable def Ro(d1 d2:D):Option SV:=match d2 with
 | .lst xs=>(nk? d1).bind λk=>(nks? xs).bind λks=>if(∀k'∈ks,Wo 48 (Zj k') (Zj k)=aA (decide (k'=k)))then aA (.fz (.bl (!(ks.any λx=>decide (x=k)))))else aB
 |_=>aB
theorem Zoq{k:Zk}{ks:List Zk}(h:∀k'∈ks,Wo 48 (Zj k') (Zj k)=aA (decide (k'=k))):inN (Zj k) (.lst (ks.map Zj))=aA (.fz (.bl (ks.any λx=>decide (x=k)))):=by unfold inN;dsimp only;rw[B5];dsimp only[cf];rw[Al];dsimp only[cf];rw[if_pos h]
theorem Zc2{k:Zk}{ks:List Zk}(h:∀k'∈ks,Wo 48 (Zj k') (Zj k)=aA (decide (k'=k))):Ro (Zj k) (.lst (ks.map Zj))=aA (.fz (.bl (!(ks.any λx=>decide (x=k))))):=by unfold Ro;dsimp only;rw[B5];dsimp only[cf];rw[Al];dsimp only[cf];rw[if_pos h]
theorem Dd{F:Hp}:∀{ks:List Zk} {vs:List V},Reps K F (ks.map Zj) vs->∃bs,vs=bs.map V.ref/\NTs F bs ks
 | [],_,h=>by cases h;exact⟨[],rfl,.nil⟩
 |k::ks,_,h=>by
  cases h with
  |cons h t=>obtain⟨b,rfl,hb⟩:=Ml h;obtain⟨bs,rfl,hbs⟩:=Dd t;exact⟨b::bs,rfl,.cons hb hbs⟩
section
variable{Z:Ent K}
theorem Zsi:Y6 Z (Zkp K aD) inN:=by
 intro F H σ δ own x y d1 d2 sv Q s r1 r2 e k;unfold inN at e;split at e
 ·obtain⟨kk,e1,e⟩:=aa.mp e;obtain⟨ks,e2,e⟩:=aa.mp e;split at e
  ·rename_i hq;cases e;obtain⟨b,rfl,hb⟩:=r1.nk s.le e1;obtain⟨a,us,rfl,hs,ru⟩:=r2.lst s.le;rw[Pq e2]at ru;obtain⟨bs,rfl,tb⟩:=Dd ru;exact⟨b,kk,a,bs,ks,rfl,hb,rfl,hs,Paired.mapP tb λ_ _ z=>z.mono λ_ _ w=>s.le _ _ w,hq,k.fz s (.bl _)⟩
  ·cases e
 ·cases e
theorem Zg6:Y6 Z (Zkp K aC) Ro:=by
 intro F H σ δ own x y d1 d2 sv Q s r1 r2 e k;unfold Ro at e;split at e
 ·obtain⟨kk,e1,e⟩:=aa.mp e;obtain⟨ks,e2,e⟩:=aa.mp e;split at e
  ·rename_i hq;cases e;obtain⟨b,rfl,hb⟩:=r1.nk s.le e1;obtain⟨a,us,rfl,hs,ru⟩:=r2.lst s.le;rw[Pq e2]at ru;obtain⟨bs,rfl,tb⟩:=Dd ru;exact⟨b,kk,a,bs,ks,rfl,hb,rfl,hs,Paired.mapP tb λ_ _ z=>z.mono λ_ _ w=>s.le _ _ w,hq,k.fz s (.bl _)⟩
  ·cases e
 ·cases e
end
end DL
namespace RV
open PySem PyProof.Rows
theorem Zbg:mroOf (.type "reversed")=pure [.type "reversed",.type "object"]:=by rw[mroOf_type];kernel_rfl
theorem Ih:typeLookup (.type "reversed") "__new__"=pure (aA (.builtin "reversed.__new__")):=by rw[typeLookup_type,builtinLookup_eq_fast];kernel_rfl
theorem Pt(a:aj):checkTypeCall "reversed" ⟨[a],[]⟩=pure ():=by kernel_rfl
theorem Vz(a:aj):checkBuiltinCall "reversed.__new__" ⟨[.type "reversed",a],[]⟩=pure ():=by kernel_rfl
theorem Zc3:entryFor table "reversed.__new__"=aA Builtin.«reversed.__new__»:=entryFor_of_tree (by kernel_rfl)
theorem Zkq:isSubtype (.type "reversed") (.type "reversed")=pure aC:=by rw[isSubtype_type];kernel_rfl
theorem Zg7(self:aj):bindSpecial (.builtin "list.__reversed__") self=pure (.builtin "list.__reversed__",[self]):=by unfold bindSpecial;rw[F.type_list_reversed];rfl
theorem Zg8{prog:bv}{w:c6}{A:di}{E:aj->aq->Prop}{s:aq}{l:au}{items:Array aj}{n:Nat}{dct:Option au}{sl:Array (Option aj)}{Q:aj->aq->Prop}(hl:s.heap.get? l=aA {cls:=.type "list",dict:=dct,data:=.seq items n,slots:=sl})
  (h:Q (.ref s.heap.objs.size) {s with heap:=s.heap.push {cls:=.type "list_reverseiterator",data:=.fields #[.ref l,rawInt (items.size- 1:Int)]}}):bd (bz prog w) A (call (.builtin "list.__reversed__") [.ref l]) Q E s:=by
 refine de F.slot_list_reversed ⟨_,hl,rfl⟩ F.entry_list_reversed ?_ (F.args_list_reversed_1 _);unfold Builtin.«list.__reversed__»;obtain⟨hp,g,d,tk,os⟩:=s;wp_walk using AutoSeq1.wpAny_loadPart' hl;exact⟨_,rfl,h⟩
theorem Fz(l:au)(items:Array aj)(n:Nat)(dct:Option au)(sl:Array (Option aj)):
  Meets (Builtin.«reversed.__new__» ⟨[.type "reversed",.ref l],[]⟩) (λ_ R s=>s.heap.get? l=aA {cls:=.type "list",dict:=dct,data:=.seq items n,slots:=sl}/\
   R (.ok (.ret (.ref s.heap.objs.size))) {s with heap:=s.heap.push {cls:=.type "list_reverseiterator",data:=.fields #[.ref l,rawInt (items.size- 1:Int)]}}):=
 .of_wp λprog w A R s h=>by
  obtain⟨hp,g,d,tk,os⟩:=s;obtain⟨hl,h⟩:=h;have hsub:=Zkq;have hL:Heap.IsList (Shared.heap ⟨hp,g,d,tk,os⟩) l items:=⟨_,hl,rfl,n,rfl⟩
  wp_walk using AutoSeq1.wpAny_loadPart' hl;show bd _ _ (typeLookup (.type "list") (gh "__reversed__")) _ _ _;rw[F.slot_list_reversed.lookup];refine af ?_;dsimp only;rw[Zg7];refine ab (af ?_);dsimp only;refine wpAny_ite_false rfl ?_;refine ab (wpAny_rule ?_);refine ab (Zg8 (A:=A.in1) hl ?_);exact af ⟨_,rfl,h⟩
theorem Ka:Slot "reversed" "__init__" "object.__init__":=
 .of (owner:="object") (n:="__init__") (by rw[typeLookup_type,builtinLookup_eq_fast];kernel_rfl) (by decide+kernel) (by decide+kernel) (by decide+kernel)
  (by first|exact .inl (by decide+kernel)|exact .inr (by decide+kernel)) (by rw[isSubtype_type];kernel_rfl)
theorem De:TypeCalled "reversed" "reversed.__new__" "object.__init__":=
 ⟨by decide+kernel,by decide+kernel,⟨_,_,Zbg⟩,madeBy_type Zbg Ih (by decide+kernel),by decide+kernel,by rw[isSubtype_type];kernel_rfl,Ka⟩
end RV
namespace RV
open PySem PyProof.Rows
theorem Ys:Slot "list_reverseiterator" "__next__" "list_reverseiterator.__next__":=
 .of (owner:="list_reverseiterator") (n:="__next__") (by rw[typeLookup_type,builtinLookup_eq_fast];kernel_rfl) (by decide+kernel) (by decide+kernel) (by decide+kernel)
  (by first|exact .inl (by decide+kernel)|exact .inr (by decide+kernel)) (by rw[isSubtype_type];kernel_rfl)
theorem Lv:Slot "list_reverseiterator" "__iter__" "list_reverseiterator.__iter__":=
 .of (owner:="list_reverseiterator") (n:="__iter__") (by rw[typeLookup_type,builtinLookup_eq_fast];kernel_rfl) (by decide+kernel) (by decide+kernel) (by decide+kernel)
  (by first|exact .inl (by decide+kernel)|exact .inr (by decide+kernel)) (by rw[isSubtype_type];kernel_rfl)
theorem Qs:entryFor table "list_reverseiterator.__next__"=aA Builtin.«list_reverseiterator.__next__»:=entryFor_of_fast (by kernel_rfl)
theorem Ri:entryFor table "list_reverseiterator.__iter__"=aA Builtin.«dict_keyiterator.__iter__»:=
 entryFor_alias (id':="dict_keyiterator.__iter__") (by kernel_rfl) rfl (by decide+kernel) (by kernel_rfl)
theorem Jj(a:aj):argsOk "list_reverseiterator.__next__" ⟨[a],[]⟩:=by unfold argsOk;kernel_rfl
theorem Zc4(a:aj):argsOk "list_reverseiterator.__iter__" ⟨[a],[]⟩:=by unfold argsOk;kernel_rfl
theorem Zsj:isSubtype (.type "list_reverseiterator") (.type "reversed")=pure aD:=by rw[isSubtype_type];kernel_rfl
noncomputable def T2(h:f8)(it a:au)(j:Int):Prop:=∃o,h.get? it=aA o/\o.cls= .type "list_reverseiterator"/\o.data= .fields #[.ref a,.int j 0]
section
variable{prog:bv}{w:c6}{A:di}{E:aj->aq->Prop}{s:aq}
theorem T2.typeIs{it a:au}{j:Int}(x:T2 s.heap it a j):s.TypeIs (.ref it) "list_reverseiterator":=let⟨o,ho,hc,_⟩:=x;⟨o,ho,hc⟩
theorem V2{it l:au}{j:Int}{Q:aj->aq->Prop}(hit:T2 s.heap it l j)(h:Q (.ref it) s):
  bd (bz prog w) A (pyIter (.ref it)) Q E s:=by
 refine wpAny_pyIter_slot hit.typeIs Lv (de Lv hit.typeIs Ri ?_ (Zc4 _));show bd _ _ (ret (.ref it)) _ _ s;exact af ⟨_,rfl,"list_reverseiterator",_,hit.typeIs,Ys.lookup,h⟩
theorem Zc5{it l:au}{i:Nat}{items} {x:aj} {Q:Option aj->aq->Prop} (hit:T2 s.heap it l i)
  (hl:s.heap.IsList l items) (hx:items[i]? =aA x)
  (hQ:∀h',T2 h' it l ((i:Int)- 1)->gz it s.heap h'->Q (aA x) {s with heap:=h'}):
  bd (bz prog w) A (pyNext (.ref it)) Q E s:=by
 obtain⟨o,ho,hc,hd⟩:=id hit;obtain⟨ol,hol,_,nl,hdl⟩:=hl;unfold pyNext;refine ab (wpAny_attempt (du (name:=gh "__next__") hit.typeIs Ys
  (de Ys hit.typeIs Qs ?_ (Jj _))))
 show bd _ _ (field (.ref it) 1 >>=_) _ _ s;refine ab (wpAny_field ho hd (x:=.int i 0) rfl ?_);show bd _ _ (if(i:Int)<0 then _ else _) _ _ s;rw[if_neg (by omega)];show bd _ _ (field (.ref it) 0 >>=_) _ _ s;refine ab (wpAny_field ho hd (x:=.ref l) rfl ?_);show bd _ _ (seqItems? (.ref l) >>=_) _ _ s;refine ab (wpAny_seqItems hol hdl ?_);simp only[gy,hx];refine ab (wpAny_setField ho hd (by simp) (af ⟨x,rfl,af (hQ _ ?_ (gr ..))⟩));exact⟨_,gv _ ho (Obj.isFreed_of_fields (Obj.data_mapFields hd _)),(Obj.cls_mapFields ..).trans hc,by
  rw[Obj.data_mapFields hd];simp[rawInt]⟩
theorem Zg9{it l:au}{j:Int}{Q:Option aj->aq->Prop}(hh:A.handled=aB)
  (hit:T2 s.heap it l j) (hj:j<0)
  (hQ:∀h',Heap.ExtBut it s.heap h'->Q aB {s with heap:=h'}):bd (bz prog w) A (pyNext (.ref it)) Q E s:=by
 obtain⟨o,ho,hc,hd⟩:=id hit;unfold pyNext;refine ab (wpAny_attempt (du (name:=gh "__next__") hit.typeIs Ys
  (de Ys hit.typeIs Qs ?_ (Jj _))))
 show bd _ _ (field (.ref it) 1 >>=_) _ _ s;refine ab (wpAny_field ho hd (x:=.int j 0) rfl ?_);show bd _ _ (if j<0 then _ else _) _ _ s;rw[if_pos hj];refine ab (wpAny_rule ?_);refine ab ?_;show bd _ _ (newExc (.type "StopIteration") [] >>=_) _ _ _;refine ab ?_;simp only[newExc,newTuple];refine ab (dn ?_ (by size_fits));refine ab (m:=firstArgMember _ _) (wpAny_of_eq (a:=ci) (by first|rfl| (simp only[firstArgMember];rfl)) ?_);refine dn ?_ (by size_fits);simp only[raiseNew];refine ab (wpAny_handled ?_);rw[show A.in1.handled=aB from hh];refine ab (af (wpAny_throw ?_));refine ab (ic (T:="StopIteration") (b:=aC) ⟨_,a9 _ rfl,rfl⟩ isSubtype_stop ?_);exact af (hQ _ (((show Heap.ExtBut it s.heap s.heap from λ_ _ _ q=>q).push _).push _))
theorem Df{T U newId:String}{Bn:Builtin}{args:List aj}{S:PySem.Spec}{Q:aj->aq->Prop}(ft:TypeCalled T newId "object.__init__")
  (hct:checkTypeCall T ⟨args,[]⟩=pure ()) (hcn:checkBuiltinCall newId ⟨.type T::args,[]⟩=pure ())
  (hns:isSubtype (.type U) (.type T)=pure aD) (entryN:entryFor table newId=aA Bn) (g:Meets (Bn ⟨.type T::args,[]⟩) S)
  (h:S A.in1 (wants (λobj s₁=>s₁.TypeIs obj U/\Q obj s₁) E) s):bd (bz prog w) A (call (.type T) args) Q E s:=by
 obtain⟨c,tl,hmro⟩:=ft.mro;have hmade:=ft.made;refine wpAny_call (codeAny_of_tree ?_);show bd _ _ (callAny (.type T) _) _ _ _;refine af ⟨Code.quiet_builtin _ (by decide+kernel),gn F.entry_type_call ?_⟩;rw[Around.under_plain (weight_type_call_type T args []) (units_type_call_type T args [])];have h1:=ft.notType;have h2:=ft.canCreate
 repeat (any_goals (first|assumption|wp_step))
 refine codeAny_mono (codeAny_call_builtin ft.plain entryN (wpAny_of_eq hcn (g prog w A.in1 _ s h))) λr s₁ hr=>?_;cases r with
 |error e=>exact hr
 |ok fl=>
  cases fl with
  |ret obj=>
   obtain⟨hT,hq⟩:=hr
   repeat (any_goals (first|assumption|wp_step))
  |_=>exact hr.elim
theorem Kb{l:au}{items:Array aj}{Q:aj->aq->Prop}(hL:s.heap.IsList l items)
  (h:Q (.ref s.heap.objs.size) {s with heap:=s.heap.push {cls:=.type "list_reverseiterator",data:=.fields #[.ref l,rawInt (items.size- 1:Int)]}}):
  bd (bz prog w) A (call (.type "reversed") [.ref l]) Q E s:=by
 obtain⟨⟨c,dct,dt,sl⟩,hl,hc,n,hd⟩:=hL;replace hc:c= .type "list":=hc;replace hd:dt= .seq items n:=hd;subst hc hd;exact Df De (Pt _) (Vz _) Zsj Zc3 (Fz l items n dct sl) ⟨hl,⟨⟨_,a9 _ rfl,rfl⟩,h⟩⟩
end
end RV
namespace L2
open PySem PySem.Spec PyProof.Rows RV
noncomputable def Itv(K:ah)(a:au)(n:Nat):It:=
 ⟨λi H=>∃xs x,U0 K H a xs/\xs.length=n/\xs.reverse[i]? =aA x,λi H x H'=>H'=H/\∀xs,U0 K H a xs->xs.reverse[i]? =aA x,λi H=>n<=i⟩
theorem Zha{P:bv}{w:c6}{K:ah}{tg:c5}(a it:au)(n:Nat):Turn P w K tg (Itv K a n) [it] it (λi h=>T2 h it a ((n:Int)- 1- i))where
 mem:=by simp
 obj:=λi h st b hb=>by
  have e:b=it:=by simpa using hb
  subst e;obtain⟨o,e,c,d⟩:=st;exact⟨o,e,λv z=>by rw[d]at z;cases z⟩
 keep:=λi h h' ⟨o,e,c,d⟩ k=>⟨o,k it (by simp) o e,c,d⟩
 item:=by
  intro X hP hw hK hc i pins s σ H E I hf st hg;subst hP hw hK;obtain⟨xs,x,hq,hn,hx⟩:=hg;obtain⟨its,rv,p,hz⟩:=I.list hq;have hi:i<xs.length:=by have:=(ax.mp hx).1;simpa using this
  have hx':xs[xs.length- 1- i]? =aA x:=by rw[<-List.getElem?_reverse hi];exact hx
  obtain⟨u,hu,ru⟩:=rv.get hx';obtain⟨f0,f1,f2,f3,f4,f5⟩:=hf it (by simp);have ej:((n:Int)- 1- i)=((xs.length- 1- i:Nat):Int):=by omega
  rw[ej]at st;refine Zc5 st p.isList (x:=u) (by simpa using hu) λh' st' sb=>?_;have I1:Inv X pins σ H {s with heap:=h'}:=I.turned (t':=s.toks) (λb o hb e=>(sb.2 b hb).trans e) f0 f1 f3 f4 f5;obtain⟨o,e,c,d⟩:=id st';refine⟨u,rfl,Tu (s:={s with heap:=h'}) e c d (by decide) ⟨x,H,I1,ru,⟨rfl,λys hy=>by rw[I.list_inj hy hq];exact hx⟩,?_,λb hb=>(hf b hb).1⟩⟩;have e2:((n:Int)- 1- ((i+1:Nat):Int))=((xs.length- 1- i:Nat):Int)- 1:=by omega
  rw[e2];exact st'
 done:=by intro X hP hw hK hc i pins s σ H E I hf st hg;subst hP hw hK;obtain⟨f0,f1,f2,f3,f4,f5⟩:=hf it (by simp);have hg':n<=i:=hg;exact Zg9 (I.ok.hd hc) st (by omega) λh' eb=>⟨rfl,I.turned (t':=s.toks) (λb o hb e=>eb b o hb e) f0 f1 f3 f4 f5⟩
 self:=λ_ _ _ _ _ st h=>V2 st h
noncomputable def Zsk(K:ah)(ta:TA):TI:=λσ H R=>ta σ H λvs H1=>∃a xs,vs=[.ref a]/\U0 K H1 a xs/\R (Itv K a xs.length) H1
section
variable{X:Cx}{tg:c5}
theorem Zor{l:c5}{p pos:Pos}{ta:TA}(hg:Gl X "reversed")(hm:X.mg "reversed"=aB)(ha:PA X [l] ta)(hs:ba [l] X.env=[(aD,gw l X.env)]:=by rfl):
  PI X tg (.Call (.Name "reversed" p) [l] [] pos) (Zsk X.K ta):=by
 intro pins s σ H R I h;refine Call_ (Bo I hg hm boot_reversed (PyProof.Rows.callWith_type1 (Wv (ha pos pins s σ H _ I h) λus s1 ⟨vs,H1,I1,r1,q1⟩=>?_) hs rfl));obtain⟨a,xs,e,hq,q⟩:=q1;subst e;obtain⟨u,rfl,ru⟩:=Ui r1;cases ru;obtain⟨its,rv,p,hz⟩:=I1.list hq;have hi:T2 (s1.heap.push {cls:=.type "list_reverseiterator",data:=.fields #[.ref a,rawInt (its.toArray.size- 1:Int)]}) s1.heap.objs.size a ((xs.length:Int)- 1- ((0:Nat):Int)):=
  ⟨_,a9 _ rfl,rfl,by have:=rv.length;simp[rawInt,this]⟩
 refine Kb p.isList (V2 (s:={s1 with heap:=_}) hi ?_);refine⟨s1.heap.objs.size,[s1.heap.objs.size],_,_,H1,rfl,I1.kept (t':=s1.toks) λb o e=>ar _ e,Zha a _ xs.length,hi,λb hb=>?_,q⟩;have e:b=s1.heap.objs.size:=by simpa using hb
 subst e;exact I1.fpOk (az _) (I1.hok.fresh (az _))
end
end L2
namespace DL
open PySem PySem.Spec PyProof.Rows L2
variable{K:ah}{Z:Ent K}{σ:L2.St}{H:Hp}
theorem Dg{F:Hp}{a:au}{xs:List D}{vs:List V}(h:U0 K F a vs)(r:Reps K F xs vs):U2 K (Itv K a vs.length) F xs.reverse:=λF' H sF sH i=>by
 have q:U0 K H a vs:=Wb (sF.trans sH) h;have hl:=r.length;refine⟨λd hd=>?_,λhl'=>?_⟩
 ·have hi:i<xs.length:=by have:=(ax.mp hd).1;simpa using this
  rw[List.getElem?_reverse hi]at hd;obtain⟨v,h1,h2⟩:=r.get hd;rw[hl]at h1;have h1':vs.reverse[i]? =aA v:=by rw[List.getElem?_reverse (by omega)];exact h1
  refine⟨⟨vs,v,q,rfl,h1'⟩,λx H' zq9=>?_⟩;obtain⟨e1,e2⟩:=zq9;subst e1;have e3:=e2 vs q;rw[h1']at e3;cases e3;exact⟨Zl.refl _,[],cm,λ_ h=>(nomatch h),h2.mono sF⟩
 ·show vs.length<=i;rw[<-hl];simpa using hl'
@[simp]noncomputable def Zos(fd:FD):FD:=λδ=>(fd δ).bind λp=>match p.1 with
 | [.lst xs]=>aA (xs.reverse,p.2)
 |_=>aB
theorem Zot{fd:FD}{R:It->Hp->Prop}(h:Qj Z (Zos fd) σ H R):Zsk K (Qd Z fd) σ H R:=by
 obtain⟨F,δ,own,ds,δ',s,e,k⟩:=h;obtain⟨⟨ds1,δ1⟩,e1,e2⟩:=aa.mp e;refine⟨F,δ,own,ds1,δ1,s,e1,λvs H1 F1 own1 sH sF s1 r1=>?_⟩;dsimp only at e2;split at e2
 ·rename_i xs;cases e2;cases r1 with
  |cons h t=>
   cases t;cases h with
   |lst h _ r=>exact⟨_,_,rfl,Wb s1.le h,k _ H1 F1 own1 sH sF s1 (Dg h r)⟩
 ·cases e2
theorem Zsl{X:Cx}{Z:Ent X.K}{a:c5}{tg:c5}{p pos:Pos}{fd:FD}(hm:X.mg "reversed"=aB)(ha:PA X [a] (Qd Z fd))(hg:Gl X "reversed":=by rfl)(hs:ba [a] X.env=[(aD,gw a X.env)]:=by rfl):
  PI X tg (.Call (.Name "reversed" p) [a] [] pos) (Qj Z (Zos fd)):=(Zor hg hm ha hs).imp λ_ _ _ h=>Zot h
section
variable{X:Cx}{Z:Ent X.K}{a b c:c5}{fa fb fc:FE}{pos:Pos}
theorem Zmd(hv:X.A.units+64<fg)(ha:PE X a (Ze Z fa))(hb:PE X b (Ze Z fb))(hm:behindInMarks .In b=aD:=by rfl):PT X (.Compare a [.In] [b] pos) (Ym Z (Yy (Zn inN fa fb))):=Ep (Zop hv) Zsi ha hb hm
theorem Zhb(hv:X.A.units+64<fg)(ha:PE X a (Ze Z fa))(hb:PE X b (Ze Z fb))(hm:behindInMarks .NotIn b=aD:=by rfl):PT X (.Compare a [.NotIn] [b] pos) (Ym Z (Yy (Zn Ro fa fb))):=Ep (Zc1 hv) Zg6 ha hb hm
end
end DL
namespace My
open DL PySem
theorem Qo{n:Nat}(h:n<=16777216):n<=PySem.sizeLine:=h
theorem Z4{n:Nat}(h:n<16777216):n<PySem.sizeLine:=h
theorem Ztj(c:Nat):(⟨#[c]⟩:Str).length=1:=rfl
theorem Zkr(ns:List Int)(lo hi:Option Int):∃ms:List Int,S3 (ns.map D.int) lo hi=ms.map D.int/\ms.length<=ns.length:=by unfold S3;refine⟨(ns.drop _).take _,by rw[List.map_take,List.map_drop],?_⟩;rw[List.length_take,List.length_drop];omega
theorem Ob{te:FE}{f:D->D}{c:Option SV}{j:Nat}:∀(xs ys:List D),(∀x∈xs,∀zs,te [aA (.fz x),c,aA (.ol zs)]=aA (.tmp (.fz (f x)),[aA (.fz x),c,aA (.ol zs)]))->ys.length+xs.length<=16777216->
  Ya [.own,.cap j,.acc] 2 (Zd 0) W0 te xs [aB,c,aA (.ol ys)]=aA [aB,c,aA (.ol (ys++xs.map f))]
 | [],ys,_,_=>by simp
 |x::xs,ys,h,hl=>by rw[bc]at hl;have ih:=Ob (te:=te) (f:=f) (c:=c) (j:=j) xs (ys++[f x]) (λy hy=>h y (am _ hy)) (by rw[ay];simp;omega);have e1:=h x ad ys;have h4:ys.length<PySem.sizeLine:=Z4 (by omega);simp[e1,h4];simpa using ih
theorem Rp{f:D->D->Option Bool}:∀xs:List D,(∀x∈xs,f x x=aA aC)->Bi f xs xs=aA aC
 | [],_=>rfl
 |x::r,h=>by simp[h x ad,Rp r λy hy=>h y (am _ hy)]
end My
namespace My
open DL PySem StrLaws Builtin.Str
noncomputable def jl(y:List Nat):List (List Nat)->List Nat
 | []=>[]
 | [p]=>p
 |p::q::r=>p++y++jl y (q::r)
noncomputable def pos(n:Nat):Nat->List (List Nat)->List Nat
 |_,[]=>[]
 |_,[_]=>[]
 |a,p::q::r=>(a+p.length)::pos n (a+p.length+n) (q::r)
end My
namespace My
open DL PySem
theorem Y2{tg:FG}{body:FS}{d:D}{ds:List D}{δ δ1 δ2:Wc}(h1:tg.run d δ=aA δ1)(h2:body δ1=aA (.nx δ2)):Z0 tg body (d::ds) δ=Z0 tg body ds δ2:=by show(tg.run d δ).bind _=_;rw[h1,cf,h2,cf]
theorem Zbh{tg:FG}{body:FS}{d:D}{ds:List D}{δ δ1:Wc}{sv:SV}(h1:tg.run d δ=aA δ1)(h2:body δ1=aA (.rt sv)):Z0 tg body (d::ds) δ=aA (.rt sv):=by show(tg.run d δ).bind _=_;rw[h1,cf,h2,cf]
noncomputable abbrev S(l:List Nat):Str:=⟨l.toArray⟩
theorem Zme(l:List Nat):(S l).length=l.length:=by show l.toArray.size=_;simp
theorem Zsm(a b:List Nat):S a++S b=S (a++b):=by
 show(⟨a.toArray++b.toArray⟩:Str)=⟨(a++b).toArray⟩
 simp
theorem Zsn{a b:List Nat}(h:S a=S b):a=b:=by have:a.toArray=b.toArray:=congrArg Str.cps h;simpa using this
theorem Zso(x:Str):x=S x.cps.toList:=by cases x;simp
theorem Zou(l:List Nat):(S l).cps.toList=l:=by simp
theorem Ii{α:Type}(p:List α)(i:Nat)(c:α)(h:p[i]? =aA c):L2.atI p (i:Int)=aA c:=by have hl:=(ax.mp h).1;unfold L2.atI L2.ixN;rw[if_pos (by omega),if_pos (by omega)];simpa using h
section
variable{κ:Type}[DecidableEq κ]
theorem V3(k k':κ)(v:D):∀(ks:List κ) (vs:List D),k∈ks->ks.length=vs.length->look ks ((ks.zip vs).map λp=>if p.1=k then v else p.2) k'=if k=k' then aA v else look ks vs k'
 |a::ks,u::vs,hk,hl=>by
  rw[List.zip_cons_cons,a7];show(if a=k' then aA (if a=k then v else u)else look ks ((ks.zip vs).map λp=>if p.1=k then v else p.2) k')=if k=k' then aA v else(if a=k' then aA u else look ks vs k')
  by_cases ha:a=k'
  ·subst ha;rw[if_pos rfl,if_pos rfl];by_cases hk2:a=k
   ·subst hk2;rw[if_pos rfl,if_pos rfl]
   ·rw[if_neg hk2,if_neg λe=>hk2 e.symm]
  ·rw[if_neg ha,if_neg ha];by_cases hm:k∈ks
   ·exact V3 k k' v ks vs hm (by simpa using hl)
   ·have hak:k=a:=by
     rcases bo.mp hk with e|e
     ·exact e
     ·exact absurd e hm
    rw[if_neg λe=>ha (hak.symm.trans e)];have:((ks.zip vs).map λp=>if p.1=k then v else p.2)=vs:=by
     have hl':ks.length=vs.length:=by simpa using hl
     clear hk hl ha;induction ks generalizing vs with
     |nil=>cases vs with
      |nil=>rfl
      |cons _ _=>simp at hl'
     |cons b ks ih=>cases vs with
      |nil=>simp at hl'
      |cons w vs=>rw[List.zip_cons_cons,a7,if_neg λe=>hm (by rw[<-e];exact ad),ih vs (λh=>hm (am _ h)) (by simpa using hl')]
    rw[this]
 | [],_,hk,_=>nomatch hk
theorem Lw(k k':κ)(v:D):∀(ks:List κ) (vs:List D),k∉ks->ks.length=vs.length->look (ks++[k]) (vs++[v]) k'=if k=k' then aA v else look ks vs k'
 | [],[],_,_=>by show(if k=k' then aA v else aB)=_;rfl
 |a::ks,u::vs,hk,hl=>by
  show(if a=k' then aA u else look (ks++[k]) (vs++[v]) k')=if k=k' then aA v else(if a=k' then aA u else look ks vs k')
  by_cases ha:a=k'
  ·rw[if_pos ha,if_pos ha,if_neg λe=>hk (by rw[e,<-ha];exact ad)]
  ·rw[if_neg ha,if_neg ha];exact Lw k k' v ks vs (λh=>hk (am _ h)) (by simpa using hl)
theorem Zhc(k k':κ)(v:D)(ks:List κ)(vs:List D)(hl:ks.length=vs.length):look (Y3 ks vs k v).1 (Y3 ks vs k v).2 k'=if k=k' then aA v else look ks vs k':=by
 unfold Y3;split
 ·rename_i h;exact V3 k k' v ks vs h hl
 ·rename_i h;exact Lw k k' v ks vs h hl
theorem Zks(k:κ)(v:D)(ks:List κ)(vs:List D)(hl:ks.length=vs.length):(Y3 ks vs k v).1.length=(Y3 ks vs k v).2.length/\(Y3 ks vs k v).2.length<=vs.length+1:=by
 unfold Y3;split
 ·simp[hl]
 ·simp[hl]
end
end My
namespace My
open DL PySem
noncomputable abbrev G3(s n:Nat):List D:=(List.range' s n).map λi:Nat=>D.int (i:Int)
theorem Qw(n:Nat):Em 0 n=G3 0 n:=by unfold Em;rw[List.range_eq_range'];refine fj λi _=>?_;simp
theorem Gv{tg:FG}{body:FS}{P:Nat->Wc->Prop}:∀(n s:Nat) (δ:Wc),P s δ->(∀i,s<=i->i<s+n->∀δ,P i δ->∃δ1 δ2,tg.run (.int (i:Int)) δ=aA δ1/\body δ1=aA (.nx δ2)/\P (i+1) δ2)->
  ∃δ',Z0 tg body (G3 s n) δ=aA (.nx δ')/\P (s+n) δ'
 |0,s,δ,h,_=>⟨δ,rfl,h⟩
 |n+1,s,δ,h,k=>by obtain⟨δ1,δ2,h1,h2,h3⟩:=k s (az _) (by omega) δ h;obtain⟨δ',e,h'⟩:=Gv (tg:=tg) (body:=body) (P:=P) n (s+1) δ2 h3 λi hi hj=>k i (by omega) (by omega);refine⟨δ',?_,by rw[show s+(n+1)=s+1+n by omega];exact h'⟩;show Z0 tg body (.int (s:Int)::G3 (s+1) n) δ=_;rw[Y2 h1 h2];exact e
end My
namespace My
open DL PySem StrLaws Builtin.Str
end My
namespace My
open DL PySem
noncomputable abbrev Zy(xs:List Str):List L2.Key:=xs.map da
theorem Ub(k:Str):∀(xs:List Str) (vs:List D),look (Zy xs) vs (da k)=look xs vs k
 | [],[]=>rfl
 | [],_::_=>rfl
 |_::_,[]=>rfl
 |x::xs,v::vs=>by
  show(if(da x:L2.Key)=da k then aA v else look (Zy xs) vs (da k))=if x=k then aA v else look xs vs k;rw[Ub k xs vs];by_cases h:x=k
  ·rw[if_pos h,if_pos (by rw[h])]
  ·rw[if_neg h,if_neg λe=>h (da.inj e)]
theorem Mn(k:Str)(v:D)(xs:List Str)(vs:List D):Y3 (Zy xs) vs (da k) v=(Zy (Y3 xs vs k v).1,(Y3 xs vs k v).2):=by
 have hm:((da k:L2.Key)∈Zy xs)↔k∈xs:=by
  constructor
  ·intro h;obtain⟨y,hy,e⟩:=av.mp h;rw[<-da.inj e];exact hy
  ·exact λh=>av.mpr ⟨k,h,rfl⟩
 unfold Y3;by_cases h:k∈xs
 ·rw[if_pos h,if_pos (hm.mpr h)];congr 1;have:∀(xs:List Str) (vs:List D),((Zy xs).zip vs).map (λp=>if p.1=(da k:L2.Key)then v else p.2)=(xs.zip vs).map λp=>if p.1=k then v else p.2:=by
   intro xs;induction xs with
   |nil=>intro vs;rfl
   |cons x xs ih=>
    intro vs;cases vs with
    |nil=>rfl
    |cons u vs=>
     show(if(da x:L2.Key)=da k then v else u)::((Zy xs).zip vs).map (λp=>if p.1=(da k:L2.Key)then v else p.2)=(if x=k then v else u)::(xs.zip vs).map λp=>if p.1=k then v else p.2;rw[ih vs];by_cases hx:x=k
     ·rw[if_pos hx,if_pos (by rw[hx])]
     ·rw[if_neg hx,if_neg λe=>hx (da.inj e)]
  exact this xs vs
 ·rw[if_neg h,if_neg λe=>h (hm.mp e)];simp[Zy]
theorem Mo{k:Str}{v:D}{xs:List Str}{vs:List D}(h:k∉xs):Y3 xs vs k v=(xs++[k],vs++[v]):=by unfold Y3;rw[if_neg h]
theorem Zhd{xs:List Str}:∀{vs:List D},xs.Nodup->xs.length=vs.length->∀(i:Nat) (x:Str) (v:D),xs[i]? =aA x->vs[i]? =aA v->look xs vs x=aA v:=by
 induction xs with
 |nil=>intro vs _ _ i x v h;simp at h
 |cons y xs ih=>
  intro vs nd hl i x v hx hv;cases vs with
  |nil=>simp at hv
  |cons u vs=>
   obtain⟨n1,n2⟩:=d3.mp nd;show(if y=x then aA u else look xs vs x)=aA v;cases i with
   |zero=>simp at hx hv;rw[if_pos hx,hv]
   |succ i=>simp at hx hv;have hm:=b6 hx;rw[if_neg λe=>n1 (by rw[e];exact hm)];exact ih n2 (by simpa using hl) i x v hx hv
end My
namespace My
open DL PySem TT
theorem Mp(n:Nat)(xs:List D)(h:∀x∈xs,Wo n x x=aA aC):Wo (n+1) (.lst xs) (.lst xs)=aA aC:=by simp[Rp xs h]
theorem Zbi(n:Nat)(xs:List D)(h:∀x∈xs,Wo n x x=aA aC):Wo (n+1) (.tup xs) (.tup xs)=aA aC:=by simp[Rp xs h]
theorem Zbj(n:Nat)(x:Str):Wo (n+1) (.str x) (.str x)=aA aC:=by simp
noncomputable abbrev NK:=L2.Zk
noncomputable def tE(s:List Nat):List Nat:=s.map (· +1)++[0]
theorem T3:∀(s t u v:List Nat),(tE s++u<tE t++v)↔(s<t\/(s=t/\u<v))
 | [],[],u,v=>by show(0::u<0::v)↔_;rw[eh];simp
 | [],b::t,u,v=>by show(0::u<(b+1)::(tE t++v))↔_;rw[eh];simp
 |a::s,[],u,v=>by show((a+1)::(tE s++u)<0::v)↔_;rw[eh];simp
 |a::s,b::t,u,v=>by
  show((a+1)::(tE s++u)<(b+1)::(tE t++v))↔_;rw[eh,T3 s t u v,eh];constructor
  ·rintro(h|⟨h1,h2|⟨h2,h3⟩⟩)
   ·exact .inl (.inl (by omega))
   ·exact .inl (.inr ⟨by omega,h2⟩)
   ·exact .inr ⟨by rw[h2,show a=b by omega],h3⟩
  ·rintro((h|⟨h1,h2⟩)|⟨h1,h2⟩)
   ·exact .inl (by omega)
   ·exact .inr ⟨by omega,.inl h2⟩
   ·cases h1;exact .inr ⟨rfl,.inr ⟨rfl,h2⟩⟩
theorem Zov:∀(s t u v:List Nat),tE s++u=tE t++v->s=t/\u=v:=by
 intro s;induction s with
 |nil=>intro t u v z;cases t with
  |nil=>exact⟨rfl,by simpa[tE]using z⟩
  |cons b t=>simp[tE]at z
 |cons a s ih=>intro t u v z;cases t with
  |nil=>simp[tE]at z
  |cons b t=>have z:(a+1)::(tE s++u)=(b+1)::(tE t++v):=z;obtain⟨z1,z2⟩:=List.cons.inj z;obtain⟨i1,i2⟩:=ih t u v z2;exact⟨by rw[i1,show a=b by omega],i2⟩
theorem Ij{a b:Str}(h:a.cps.toList=b.cps.toList):a=b:=by rw[Zso a,Zso b,h]
noncomputable def O8:List Str->List Nat
 | []=>[0]
 |x::l=>1::(tE x.cps.toList++O8 l)
theorem Ik:∀{a b:List Str},O8 a=O8 b->a=b
 | [],[],_=>rfl
 | [],_::_,h=>by simp[O8]at h
 |_::_,[],h=>by simp[O8]at h
 |x::a,y::b,h=>by obtain⟨_,h2⟩:=List.cons.inj h;obtain⟨e1,e2⟩:=Zov _ _ _ _ h2;rw[Ij e1,Ik e2]
theorem Pu(n:Nat)(x y:Str):Wo (n+1) (.str x) (.str y)=aA (decide (x=y)):=by simp
theorem Dh(n:Nat)(x y:Str):TX.U6 (n+1) (.str x) (.str y)=aA (decide (x.cps.toList<y.cps.toList)):=rfl
theorem Il(n:Nat):∀a b:List Str,TX.Mg (Wo (n+1)) (TX.U6 (n+1)) (a.map D.str) (b.map D.str)=aA (decide (O8 a<O8 b))
 | [],[]=>by show aA aD=_;exact congrArg aA (by decide)
 | [],y::b=>by show aA aC=_;refine congrArg aA (decide_eq_true ?_).symm;show[0]<1::_;rw[eh];exact .inl (by decide)
 |x::a,[]=>by show aA aD=_;refine congrArg aA (decide_eq_false ?_).symm;show¬(1::_< [0]);rw[eh];rintro(h|⟨h,_⟩)<;> omega
 |x::a,y::b=>by
  show(Wo (n+1) (.str x) (.str y)).bind (λc=>if c=aC then TX.Mg (Wo (n+1)) (TX.U6 (n+1)) (a.map D.str) (b.map D.str)else TX.U6 (n+1) (.str x) (.str y))=_;rw[Pu,Il n a b,Dh];have e:(O8 (x::a)<O8 (y::b))↔(x.cps.toList<y.cps.toList\/(x.cps.toList=y.cps.toList/\O8 a<O8 b)):=by
   show(1::(tE x.cps.toList++O8 a)<1::(tE y.cps.toList++O8 b))↔_;rw[eh,T3];constructor
   ·rintro(h|⟨_,h⟩)
    ·omega
    ·exact h
   ·exact λh=>.inr ⟨rfl,h⟩
  by_cases h:x=y
  ·subst h;have i:=f6 x.cps.toList;rw[decide_eq_true rfl];show aA (decide (O8 a<O8 b))=_;refine congrArg aA (decide_eq_decide.mpr ?_);rw[e];exact⟨λz=>.inr ⟨rfl,z⟩,λz=>z.elim (λz=>absurd z i) λz=>z.2⟩
  ·rw[decide_eq_false h];show aA (decide (x.cps.toList<y.cps.toList))=_;refine congrArg aA (decide_eq_decide.mpr ?_);rw[e];exact⟨.inl,λz=>z.elim id λz=>absurd (Ij z.1) h⟩
theorem Im(n:Nat):∀a b:List Str,∃c,Bi (Wo (n+1)) (a.map D.str) (b.map D.str)=aA c/\(c&&decide ((a.map D.str).length=(b.map D.str).length))=decide (a=b)
 | [],[]=>⟨aC,rfl,by simp⟩
 | [],y::b=>⟨aC,rfl,by simp⟩
 |x::a,[]=>⟨aC,rfl,by simp⟩
 |x::a,y::b=>by
  obtain⟨c,e1,e2⟩:=Im n a b;refine⟨decide (x=y)&&c,?_,?_⟩
  ·show(Wo (n+1) (.str x) (.str y)).bind (λb'=>(Bi (Wo (n+1)) (a.map D.str) (b.map D.str)).bind λc'=>aA (b'&&c'))=_;rw[Pu,e1];rfl
  ·rw[Bool.and_assoc];have:decide (((x::a).map D.str).length=((y::b).map D.str).length)=decide ((a.map D.str).length=(b.map D.str).length):=by simp
   rw[this,e2];by_cases h:x=y
   ·by_cases h2:a=b<;> simp[h,h2]
   ·simp[h]
theorem Di(n:Nat)(a b:List Str):Wo (n+2) (.tup (a.map D.str)) (.tup (b.map D.str))=aA (decide (a=b)):=by obtain⟨c,e1,e2⟩:=Im n a b;show(Bi (Wo (n+1)) (a.map D.str) (b.map D.str)).bind (λb'=>aA (b'&&decide ((a.map D.str).length=(b.map D.str).length)))=_;rw[e1];show aA (c&&_)=_;rw[e2]
inductive OneK:NK->NK->Prop where
 |nm (a b:List Str):OneK (.inl a) (.inl b)
 |mk (n m:Nat) (a b:List Str):OneK (.inr ((n:Int),a)) (.inr ((m:Int),b))
noncomputable def O9:NK->List Nat
 | .inl l=>O8 l
 | .inr (n,l)=>n.toNat::O8 l
theorem Io{a b:NK}(h:OneK a b)(e:O9 a=O9 b):a=b:=by
 cases h with
 |nm a b=>rw[Ik e]
 |mk n m a b=>obtain⟨e1,e2⟩:=List.cons.inj e;rw[Ik e2,show n=m by simpa using e1]
theorem V4(n:Nat){a b:NK}(h:OneK a b):Wo (n+3) (Zj a) (Zj b)=aA (decide (a=b)):=by
 cases h with
 |nm a b=>show Wo (n+3) (.tup (a.map D.str)) (.tup (b.map D.str))=_;rw[show n+3=n+1+2 from rfl,Di];exact congrArg aA (decide_eq_decide.mpr ⟨λz=>by rw[z],λz=>gg.inj z⟩)
 |mk n1 m1 a b=>
  have e:=Di n a b;show(Bi (Wo (n+2)) [.int (n1:Int),.tup (a.map D.str)] [.int (m1:Int),.tup (b.map D.str)]).bind (λb'=>aA (b'&&decide (2=2)))=_;show((Wo (n+2) (.int (n1:Int)) (.int (m1:Int))).bind λb'=>((Wo (n+2) (.tup (a.map D.str)) (.tup (b.map D.str))).bind λc1=>(aA aC).bind λc2=>aA (c1&&c2)).bind λc'=>aA (b'&&c')).bind (λb'=>aA (b'&&decide (2=2)))=_;rw[e,show Wo (n+2) (.int (n1:Int)) (.int (m1:Int))=aA (decide ((n1:Int)=m1)) by simp];show aA _=_;refine congrArg aA ?_;by_cases h1:n1=m1
  ·by_cases h2:a=b
   ·subst h1 h2;simp
   ·subst h1;have hf:decide ((da ((n1:Int),a):NK)=da ((n1:Int),b))=aD:=decide_eq_false λz=>h2 (Prod.mk.inj (da.inj z)).2;rw[hf,decide_eq_false h2];simp
  ·have hf:decide ((da ((n1:Int),a):NK)=da ((m1:Int),b))=aD:=decide_eq_false λz=>h1 (by have:=(Prod.mk.inj (da.inj z)).1;omega);rw[hf,decide_eq_false (show¬(n1:Int)=m1 by omega)];simp
theorem Zbk(n:Nat){a b:NK}(h:OneK a b):TX.U6 (n+4) (Zj a) (Zj b)=aA (decide (O9 a<O9 b)):=by
 cases h with
 |nm a b=>exact Il (n+2) a b
 |mk n1 m1 a b=>
  have e:=Di (n+1) a b;have e2:=Il (n+1) a b;show(Wo (n+3) (.int (n1:Int)) (.int (m1:Int))).bind (λc=>if c=aC then(Wo (n+3) (.tup (a.map D.str)) (.tup (b.map D.str))).bind (λc=>if c=aC then aA aD else TX.U6 (n+3) (.tup (a.map D.str)) (.tup (b.map D.str)))else TX.U6 (n+3) (.int (n1:Int)) (.int (m1:Int)))=_;rw[e,show Wo (n+3) (.int (n1:Int)) (.int (m1:Int))=aA (decide ((n1:Int)=m1)) by simp];show(if decide ((n1:Int)=m1)=aC then(if decide (a=b)=aC then aA aD else TX.Mg (Wo (n+2)) (TX.U6 (n+2)) (a.map D.str) (b.map D.str))else aA (decide ((n1:Int)<m1)))=_;rw[e2];have el:(O9 (.inr ((n1:Int),a))<O9 (.inr ((m1:Int),b)))↔(n1<m1\/(n1=m1/\O8 a<O8 b)):=by show((n1:Int).toNat::O8 a<(m1:Int).toNat::O8 b)↔_;rw[eh];simp
  by_cases h1:n1=m1
  ·rw[if_pos (by simp[h1])];by_cases h2:a=b
   ·rw[if_pos (by simp[h2])];refine congrArg aA (decide_eq_false ?_).symm;rw[el];subst h1 h2;rintro(z|⟨_,z⟩)
    ·omega
    ·exact f6 _ z
   ·rw[if_neg (by simp[h2])];refine congrArg aA (decide_eq_decide.mpr ?_);rw[el];exact⟨λz=>.inr ⟨h1,z⟩,λz=>z.elim (λz=>by omega) λz=>z.2⟩
  ·rw[if_neg (by simp;omega)];refine congrArg aA (decide_eq_decide.mpr ?_);rw[el];exact⟨λz=>.inl (by omega),λz=>z.elim (λz=>by omega) λz=>absurd z.1 h1⟩
noncomputable def Cp(ks:List NK):Prop:=(∀k∈ks,∃(x:Str) (l:List Str),k= .inl (x::l))\/∀k∈ks,∃(n:Nat) (l:List Str),k= .inr ((n:Int),l)
theorem Cp.one{ks:List NK}(h:Cp ks){a b:NK}(ha:a∈ks)(hb:b∈ks):OneK a b:=by
 rcases h with h|h
 ·obtain⟨x,l,rfl⟩:=h a ha;obtain⟨y,m,rfl⟩:=h b hb;exact .nm _ _
 ·obtain⟨x,l,rfl⟩:=h a ha;obtain⟨y,m,rfl⟩:=h b hb;exact .mk _ _ _ _
theorem Cp.sub{ks js:List NK}(h:Cp ks)(hs:∀k∈js,k∈ks):Cp js:=h.imp (λh k hk=>h k (hs k hk)) λh k hk=>h k (hs k hk)
noncomputable def Zhe(d:D):List Nat:=O9 ((nk? d).getD (.inl []))
theorem Am(k:NK):Zhe (Zj k)=O9 k:=by unfold Zhe;rw[B5];rfl
theorem Lx{ks:List NK}(h:Cp ks)(nd:ks.Nodup):TX.KeysOk (ks.map Zj):=by
 refine⟨?_,Zhe,λa ha b hb=>?_,?_⟩
 ·rcases h with h|h
  ·refine⟨.str,λd hd=>?_⟩;obtain⟨k,hk,rfl⟩:=av.mp hd;obtain⟨x,l,rfl⟩:=h k hk;exact .str _ _
  ·refine⟨.int,λd hd=>?_⟩;obtain⟨k,hk,rfl⟩:=av.mp hd;obtain⟨x,l,rfl⟩:=h k hk;exact .int _ _
 ·obtain⟨k,hk,rfl⟩:=av.mp ha;obtain⟨l,hl,rfl⟩:=av.mp hb;rw[Am,Am];exact Zbk 12 (h.one hk hl)
 ·refine Gu.mpr ?_;rw[bi];refine List.Pairwise.map _ (R:=λa b=>a≠b/\a∈ks/\b∈ks) (λa b ⟨h1,h2,h3⟩ e=>h1 ?_) ?_
  ·have e:Zhe (Zj a)=Zhe (Zj b):=e;rw[Am,Am]at e;exact Io (h.one h2 h3) e
  ·exact(gu.mp nd).imp fun{a b} z=>⟨z.2.2,z.1,z.2.1⟩
theorem Zhf{ks:List NK}{k x:NK}:x∈Ab ks k↔x∈ks\/x=k:=by
 unfold Ab;have e:(ks.any λz=>decide (z=k))=aC↔k∈ks:=by rw[List.any_eq_true];exact⟨λ⟨z,hz,e⟩=>by have:z=k:=of_decide_eq_true e;rw[<-this];exact hz,λh=>⟨k,h,decide_eq_true rfl⟩⟩
 split
 ·rename_i h;exact⟨.inl,λz=>z.elim id λz=>by rw[z];exact e.mp h⟩
 ·rw[bh,ao]
theorem Zkt{ks:List NK}{k:NK}(h:ks.Nodup):(Ab ks k).Nodup:=by
 unfold Ab;split
 ·exact h
 ·rename_i hn;refine cu.mpr ⟨h,by simp,λa ha b hb z=>hn ?_⟩;rw[ao.mp hb]at z;rw[List.any_eq_true];exact⟨a,ha,decide_eq_true z⟩
theorem Ip:∀(ks acc:List NK),acc.Nodup->(ks.foldl Ab acc).Nodup/\∀x,x∈ks.foldl Ab acc↔x∈acc\/x∈ks
 | [],acc,h=>⟨h,λx=>by simp⟩
 |k::ks,acc,h=>by obtain⟨a,b⟩:=Ip ks (Ab acc k) (Zkt h);refine⟨a,λx=>?_⟩;rw[List.foldl_cons,b x,Zhf,bo];exact⟨λz=>by rcases z with(z|z)|z;(· exact .inl z);(· exact .inr (.inl z));exact .inr (.inr z),λz=>by rcases z with z|z|z;(· exact .inl (.inl z));(· exact .inl (.inr z));exact .inr z⟩
theorem Pv(ks:List NK):(Ln ks).Nodup:=(Ip ks [] cm).1
theorem An(ks:List NK)(x:NK):x∈Ln ks↔x∈ks:=by rw[show Ln ks=ks.foldl Ab []from rfl,(Ip ks [] cm).2 x];simp
theorem Zku(ks:List NK):(Ln ks).length<=ks.length:=bx (Pv ks) λx hx=>(An ks x).mp hx
theorem Zhg{ks out:List NK}(h:Cp ks)(hl:ks.length<64)(hm:∀x,x∈out↔x∈ks)(hs:out.Pairwise λa b=>O9 a<O9 b):Ic ks=aA (.ol (out.map Zj)):=by
 have nd:out.Nodup:=hs.imp fun{a b} z e=>by rw[e]at z;exact f6 _ z
 have pm:out.Perm (Ln ks):=(List.perm_ext_iff_of_nodup nd (Pv ks)).mpr λx=>by rw[hm,An]
 have hk:=h.sub λk hk=>(An ks k).mp hk;refine Zgx (by omega) (by have:=Zku ks;omega) (Lx hk (Pv ks)) ⟨pm.map _,ck.mpr ?_⟩;refine(gu.mp hs).imp fun{a b} ⟨ha,hb,z⟩=>?_;rw[Zbk 12 (h.one ((hm b).mp hb) ((hm a).mp ha))];exact congrArg aA (decide_eq_false λy=>f6 _ (List.lt_trans y z))
end My
namespace My
open DL PySem TT
theorem Zbl{ds out:List D}(hk:TX.KeysOk ds)(hl:ds.length<64)(so:Mk ds out):TX.G2 ds ds=aA (.ol out):=by obtain⟨p,hp,e⟩:=TX.Zj6 (ks:=ds) (xs:=ds) rfl hl hk;rw[e,Rm hk (Ia hp) so]
open Classical in
theorem Zbm{α:Type}{f:α->D}{enc:α->List Nat}{xs out:List α}{kk:TX.KK}(hk:∀a∈xs,TX.IsKey kk (f a))(hlt:∀a∈xs,∀b∈xs,TX.U6 16 (f a) (f b)=aA (decide (enc a<enc b)))(nd:(xs.map enc).Nodup)(hl:xs.length<64)
  (hp:out.Perm xs) (hs:out.Pairwise λa b=>¬enc b<enc a):TX.G2 (xs.map f) (xs.map f)=aA (.ol (out.map f)):=by
 have same:∀a∈xs,∀b∈xs,f a=f b->enc a=enc b:=λa ha b hb e=>by
  have h1:=hlt a ha b hb;have h2:=hlt b hb a ha;rw[<-e,hlt a ha a ha]at h1;rw[<-e,hlt a ha a ha]at h2;have i:¬enc a<enc a:=f6 _;have h1:decide (enc a<enc b)=aD:=by rw[<-df.inj h1];exact decide_eq_false i
  have h2:decide (enc b<enc a)=aD:=by rw[<-df.inj h2];exact decide_eq_false i
  exact List.le_antisymm (dg.mp (of_decide_eq_false h2)) (dg.mp (of_decide_eq_false h1))
 let e:D->List Nat:=λd=>if h:∃a,a∈xs/\f a=d then enc (Classical.choose h)else[]
 have ee:∀a∈xs,e (f a)=enc a:=λa ha=>by
  have h:∃a',a'∈xs/\f a'=f a:=⟨a,ha,rfl⟩
  show(if h:∃a',a'∈xs/\f a'=f a then enc (Classical.choose h)else[])=enc a;rw[dif_pos h];exact same _ (Classical.choose_spec h).1 a ha (Classical.choose_spec h).2
 have ko:TX.KeysOk (xs.map f):=by
  refine⟨⟨kk,λd hd=>?_⟩,e,λa ha b hb=>?_,?_⟩
  ·obtain⟨a,ha,rfl⟩:=av.mp hd;exact hk a ha
  ·obtain⟨x,hx,rfl⟩:=av.mp ha;obtain⟨y,hy,rfl⟩:=av.mp hb;rw[ee x hx,ee y hy];exact hlt x hx y hy
  ·refine Gu.mpr ?_;rw[bi];have:xs.map (e∘f)=xs.map enc:=fj λa ha=>ee a ha;rw[this];exact nd
 refine Zbl ko (by rw[ag];exact hl) ⟨hp.map f,ck.mpr ?_⟩;refine(gu.mp hs).imp fun{a b} ⟨ha,hb,z⟩=>?_;rw[hlt b (hp.mem_iff.mp hb) a (hp.mem_iff.mp ha)];exact congrArg aA (decide_eq_false z)
noncomputable abbrev T4:=Str×Str×List NK
noncomputable abbrev Y4(t:T4):D:=.tup [.str t.1,.str t.2.1,.lst (t.2.2.map Zj)]
structure HP where
 ns:List NK
 ms:List NK
 fs:List T4
noncomputable abbrev Yc(h:HP):D:=.tup [.lst (h.ns.map Zj),.lst (h.ms.map Zj),.lst (h.fs.map Y4)]
noncomputable def isN(k:NK):Prop:=∃(x:Str) (l:List Str),k= .inl (x::l)
noncomputable def Sh(k:NK):Prop:=∃(n:Nat) (l:List Str),k= .inr ((n:Int),l)
structure HPok(h:HP):Prop where
 ne:h.ns≠[]
 nm:∀k∈h.ns,isN k
 mr:∀k∈h.ms,Sh k
 fl:∀t∈h.fs,∀k∈t.2.2,isN k
theorem V5(n:Nat):∀as bs:List NK,Cp (as++bs)->as.length=bs.length->Bi (Wo (n+3)) (as.map Zj) (bs.map Zj)=aA (decide (as=bs))
 | [],[],_,_=>rfl
 | [],_::_,_,h=>by simp at h
 |_::_,[],_,h=>by simp at h
 |a::as,b::bs,ho,hl=>by
  have h1:OneK a b:=ho.one (by simp) (by simp);have ih:=V5 n as bs (ho.sub λk hk=>by
   rcases bh.mp hk with z|z
   ·simp[z]
   ·simp[z]) (by simpa using hl)
  show(Wo (n+3) (Zj a) (Zj b)).bind (λb'=>(Bi (Wo (n+3)) (as.map Zj) (bs.map Zj)).bind λc'=>aA (b'&&c'))=_;rw[V4 n h1,ih];show aA _=_;refine congrArg aA ?_;by_cases h:a=b
  ·by_cases h2:as=bs
   ·simp[h,h2]
   ·rw[decide_eq_false h2,decide_eq_false λz=>h2 (List.cons.inj z).2];simp
  ·rw[decide_eq_false h,decide_eq_false λz=>h (List.cons.inj z).1];simp
theorem Zow(n:Nat){as bs:List NK}(ho:Cp (as++bs)):Wo (n+4) (.lst (as.map Zj)) (.lst (bs.map Zj))=aA (decide (as=bs)):=by
 show(if(as.map Zj).length=(bs.map Zj).length then Bi (Wo (n+3)) (as.map Zj) (bs.map Zj)else aA aD)=_;rw[ag,ag];by_cases h:as.length=bs.length
 ·rw[if_pos h,V5 n as bs ho h]
 ·rw[if_neg h];exact congrArg aA (decide_eq_false λz=>h (by rw[z])).symm
theorem Zox(n:Nat)(k:NK)(h:isN k\/Sh k):Wo (n+3) (Zj k) (Zj k)=aA aC:=by
 have:OneK k k:=by
  rcases h with⟨x,l,rfl⟩|⟨x,l,rfl⟩
  ·exact .nm _ _
  ·exact .mk _ _ _ _
 rw[V4 n this];simp
theorem Ov(n:Nat)(ks:List NK)(h:∀k∈ks,isN k\/Sh k):Wo (n+4) (.lst (ks.map Zj)) (.lst (ks.map Zj))=aA aC:=Mp (n+3) _ λx hx=>by obtain⟨k,hk,rfl⟩:=av.mp hx;exact Zox n k (h k hk)
theorem Pw(n:Nat)(t:T4)(h:∀k∈t.2.2,isN k):Wo (n+5) (Y4 t) (Y4 t)=aA aC:=Zbi (n+4) _ λx hx=>by
 simp only[bo,List.not_mem_nil,or_false]at hx;rcases hx with rfl|rfl|rfl
 ·exact Zbj (n+3) _
 ·exact Zbj (n+3) _
 ·exact Ov n _ λk hk=>.inl (h k hk)
theorem Zoy(n:Nat)(h:HP)(ok:HPok h):Wo (n+7) (Yc h) (Yc h)=aA aC:=Zbi (n+6) _ λx hx=>by
 simp only[bo,List.not_mem_nil,or_false]at hx;rcases hx with rfl|rfl|rfl
 ·exact Ov (n+2) _ λk hk=>.inl (ok.nm k hk)
 ·exact Ov (n+2) _ λk hk=>.inr (ok.mr k hk)
 ·exact Mp (n+5) _ λx hx=>by obtain⟨t,ht,rfl⟩:=av.mp hx;exact Pw n t (ok.fl t ht)
theorem Zhh(n:Nat)(hs:List HP)(ok:∀h∈hs,HPok h):Wo (n+8) (.lst (hs.map Yc)) (.lst (hs.map Yc))=aA aC:=Mp (n+7) _ λx hx=>by obtain⟨h,hh,rfl⟩:=av.mp hx;exact Zoy n h (ok h hh)
noncomputable def Qt(t:T4):List Nat:=tE t.1.cps.toList++(tE t.2.1.cps.toList++[])
theorem Zhi{s t:T4}(h:Qt s=Qt t):s.1=t.1/\s.2.1=t.2.1:=by obtain⟨h1,h2⟩:=Zov _ _ _ _ h;exact⟨Ij h1,Ij (Zov _ _ _ _ h2).1⟩
theorem Zoz(s t:T4)(hs:∀k∈s.2.2,isN k)(h:Qt s=Qt t->s=t):TX.U6 16 (Y4 s) (Y4 t)=aA (decide (Qt s<Qt t)):=by
 have el:(Qt s<Qt t)↔(s.1.cps.toList<t.1.cps.toList\/(s.1.cps.toList=t.1.cps.toList/\s.2.1.cps.toList<t.2.1.cps.toList)):=by
  unfold Qt;rw[T3,T3];constructor
  ·rintro(z|⟨z,w|⟨_,w⟩⟩)
   ·exact .inl z
   ·exact .inr ⟨z,w⟩
   ·exact absurd w (f6 _)
  ·rintro(z|⟨z,w⟩)
   ·exact .inl z
   ·exact .inr ⟨z,.inl w⟩
 show(Wo 15 (.str s.1) (.str t.1)).bind (λc=>if c=aC then(Wo 15 (.str s.2.1) (.str t.2.1)).bind (λc=>if c=aC then(Wo 15 (.lst (s.2.2.map Zj)) (.lst (t.2.2.map Zj))).bind (λc=>if c=aC then aA aD else TX.U6 15 (.lst (s.2.2.map Zj)) (.lst (t.2.2.map Zj)))else TX.U6 15 (.str s.2.1) (.str t.2.1))else TX.U6 15 (.str s.1) (.str t.1))=_;rw[Pu,Pu,Dh,Dh];by_cases h1:s.1=t.1
 ·rw[decide_eq_true h1];by_cases h2:s.2.1=t.2.1
  ·rw[decide_eq_true h2];have e:s=t:=h (by unfold Qt;rw[h1,h2]);subst e;rw[Ov 11 _ λk hk=>.inl (hs k hk)];show aA aD=_;exact congrArg aA (decide_eq_false (f6 _)).symm
  ·rw[decide_eq_false h2];show aA (decide (s.2.1.cps.toList<t.2.1.cps.toList))=_;refine congrArg aA (decide_eq_decide.mpr ?_);rw[el,h1];exact⟨λz=>.inr ⟨rfl,z⟩,λz=>z.elim (λz=>absurd z (f6 _)) λz=>z.2⟩
 ·rw[decide_eq_false h1];show aA (decide (s.1.cps.toList<t.1.cps.toList))=_;refine congrArg aA (decide_eq_decide.mpr ?_);rw[el];exact⟨.inl,λz=>z.elim id λz=>absurd (Ij z.1) h1⟩
theorem Dj{α β:Type}{f:α->β}{xs:List α}(h:(xs.map f).Nodup){a b:α}(ha:a∈xs)(hb:b∈xs)(e:f a=f b):a=b:=by obtain⟨i,hi,rfl⟩:=fq ha;obtain⟨j,hj,rfl⟩:=fq hb;have:i=j:=(List.getElem?_inj (by rw[ag];exact hi) h).mp (by simp[hi,hj,e]);subst this;rfl
theorem Zkv{ts out:List T4}(hf:∀t∈ts,∀k∈t.2.2,isN k)(nd:(ts.map Qt).Nodup)(hl:ts.length<64)(hp:out.Perm ts)(hs:out.Pairwise λa b=>¬Qt b<Qt a):TX.G2 (ts.map Y4) (ts.map Y4)=aA (.ol (out.map Y4)):=
 Zbm (enc:=Qt) (kk:=.str) (λa _=>.str _ _) (λa ha b hb=>Zoz a b (hf a ha) λe=>Dj nd ha hb e) nd hl hp hs
noncomputable def Q3(h:HP):List Nat:=O9 (h.ns.headD (.inl []))
theorem Zsp(a b:HP)(oa:HPok a)(ob:HPok b)(h:Q3 a=Q3 b->a=b):TX.U6 16 (Yc a) (Yc b)=aA (decide (Q3 a<Q3 b)):=by
 show(Wo 15 (.lst (a.ns.map Zj)) (.lst (b.ns.map Zj))).bind (λc=>if c=aC then(Wo 15 (.lst (a.ms.map Zj)) (.lst (b.ms.map Zj))).bind (λc=>if c=aC then(Wo 15 (.lst (a.fs.map Y4)) (.lst (b.fs.map Y4))).bind (λc=>if c=aC then aA aD else TX.U6 15 (.lst (a.fs.map Y4)) (.lst (b.fs.map Y4)))else TX.U6 15 (.lst (a.ms.map Zj)) (.lst (b.ms.map Zj)))else TX.U6 15 (.lst (a.ns.map Zj)) (.lst (b.ns.map Zj)))=_;have on:Cp (a.ns++b.ns):=.inl λk hk=>by
  rcases bh.mp hk with z|z
  ·exact oa.nm k z
  ·exact ob.nm k z
 rw[Zow 11 on];by_cases hn:Q3 a=Q3 b
 ·have e:=h hn;subst e;rw[decide_eq_true rfl,Ov 11 _ λk hk=>.inr (oa.mr k hk)];have e3:Wo 15 (.lst (a.fs.map Y4)) (.lst (a.fs.map Y4))=aA aC:=Mp 14 _ λx hx=>by obtain⟨t,ht,rfl⟩:=av.mp hx;exact Pw 9 t (oa.fl t ht)
  rw[e3];show aA aD=_;exact congrArg aA (decide_eq_false (f6 _)).symm
 ·obtain⟨x,as,ea⟩:=g8 oa.ne;obtain⟨y,bs,eb⟩:=g8 ob.ne;have hxy:x≠y:=λz=>hn (by unfold Q3;rw[ea,eb,z];rfl);rw[decide_eq_false λz=>hxy (by rw[ea,eb]at z;exact(List.cons.inj z).1)];show TX.U6 15 (.lst (a.ns.map Zj)) (.lst (b.ns.map Zj))=_;unfold Q3;rw[ea,eb];have ok:OneK x y:=on.one (by rw[ea];simp) (by rw[eb];simp);show(Wo 14 (Zj x) (Zj y)).bind (λc=>if c=aC then _ else TX.U6 14 (Zj x) (Zj y))=_;rw[V4 11 ok,decide_eq_false hxy];show TX.U6 14 (Zj x) (Zj y)=_;exact Zbk 10 ok
theorem Zhj{hs out:List HP}(ok:∀h∈hs,HPok h)(nd:(hs.map Q3).Nodup)(hl:hs.length<64)(hp:out.Perm hs)(hsr:out.Pairwise λa b=>¬Q3 b<Q3 a):TX.G2 (hs.map Yc) (hs.map Yc)=aA (.ol (out.map Yc)):=
 Zbm (enc:=Q3) (kk:=.lst) (λa _=>.lst _ _) (λa ha b hb=>Zsp a b (ok a ha) (ok b hb) λe=>Dj nd ha hb e) nd hl hp hsr
end My
namespace My
open DL PySem TT
noncomputable abbrev On(h:HP):List NK:=h.ns++h.ms
noncomputable abbrev kLt(a b:NK):Prop:=O9 a<O9 b
noncomputable abbrev tLt(a b:T4):Prop:=Qt a<Qt b
theorem Zbn{a b:List Nat}(h:a<b):¬b<a:=λz=>f6 _ (List.lt_trans h z)
theorem Qx{α:Type}{f:α->List Nat}{l:List α}(h:l.Pairwise λa b=>f a<f b):l.Nodup:=h.imp fun{a b} h e=>by subst e;exact f6 _ h
theorem Uc{α:Type}{f:α->List Nat}{l m:List α}(h1:l.Pairwise λa b=>f a<f b)(h2:m.Pairwise λa b=>f a<f b)(hm:∀x,x∈l↔x∈m):l=m:=
 List.Perm.eq_of_pairwise (λx y _ _ z1 z2=>absurd z2 (Zbn z1)) h1 h2 ((List.perm_ext_iff_of_nodup (Qx h1) (Qx h2)).mpr hm)
structure IsMerge(G:HP->Prop)(h:HP):Prop where
 ns_s:h.ns.Pairwise kLt
 ns_m:∀k,k∈h.ns↔∃a,G a/\k∈a.ns
 ms_s:h.ms.Pairwise kLt
 ms_m:∀k,k∈h.ms↔∃a,G a/\k∈a.ms
 fs_s:h.fs.Pairwise tLt
 fs_m:∀f v,(∃l,(f,v,l)∈h.fs)↔∃a,G a/\∃l,(f,v,l)∈a.fs
 fs_l:∀t∈h.fs,t.2.2.Pairwise kLt/\∀k,k∈t.2.2↔∃a,G a/\∃l,(t.1,t.2.1,l)∈a.fs/\k∈l
theorem IsMerge.uniq{G G':HP->Prop}{h h':HP}(m:IsMerge G h)(m':IsMerge G' h')(e:∀a,G a↔G' a):h=h':=by
 have e1:h.ns=h'.ns:=Uc m.ns_s m'.ns_s λk=>by rw[m.ns_m,m'.ns_m];simp only[e]
 have e2:h.ms=h'.ms:=Uc m.ms_s m'.ms_s λk=>by rw[m.ms_m,m'.ms_m];simp only[e]
 have one:∀{G G':HP->Prop} {h h':HP},IsMerge G h->IsMerge G' h'->(∀a,G a↔G' a)->∀t∈h.fs,t∈h'.fs:=fun{G G' h h'} m m' e t ht=>by
  have h1:=(m.fs_m t.1 t.2.1).mp ⟨t.2.2,ht⟩;simp only[e]at h1;obtain⟨l,hl⟩:=(m'.fs_m t.1 t.2.1).mpr h1;have:t.2.2=l:=Uc (m.fs_l t ht).1 (m'.fs_l _ hl).1 λk=>by rw[(m.fs_l t ht).2,(m'.fs_l _ hl).2];simp only[e]
  rw[<-this]at hl;exact hl
 have e3:h.fs=h'.fs:=Uc m.fs_s m'.fs_s λt=>⟨one m m' e t,one m' m (λa=>(e a).symm) t⟩
 cases h;cases h';simp only at e1 e2 e3;rw[e1,e2,e3]
noncomputable def shr(a b:HP):Prop:=∃t,t∈On a/\t∈On b
theorem Zhk{a b:HP}(h:shr a b):shr b a:=let⟨t,h1,h2⟩:=h;⟨t,h2,h1⟩
inductive Conn(S:HP->Prop):HP->HP->Prop where
 |here {a:HP}:S a->Conn S a a
 |step {a b c:HP}:Conn S a b->S c->shr b c->Conn S a c
theorem Conn.right{S:HP->Prop}{a b:HP}(h:Conn S a b):S b:=by
 cases h with
 |here h=>exact h
 |step _ h _=>exact h
theorem Conn.trans{S:HP->Prop}{a b c:HP}(h:Conn S a b)(k:Conn S b c):Conn S a c:=by
 induction k with
 |here _=>exact h
 |step _ hc sh ih=>exact .step ih hc sh
theorem Conn.symm{S:HP->Prop}{a b:HP}(h:Conn S a b):Conn S b a:=by
 induction h with
 |here h=>exact .here h
 | @step b c k hc sh ih=>exact(Conn.step (.here hc) k.right (Zhk sh)).trans ih
theorem Conn.mono{S T:HP->Prop}(hs:∀a,S a->T a){a b:HP}(h:Conn S a b):Conn T a b:=by
 induction h with
 |here h=>exact .here (hs _ h)
 |step _ hc sh ih=>exact .step ih (hs _ hc) sh
theorem Conn.congr{S T:HP->Prop}(hs:∀a,S a↔T a)(a b:HP):Conn S a b↔Conn T a b:=⟨Conn.mono λa h=>(hs a).mp h,Conn.mono λa h=>(hs a).mpr h⟩
structure IsPool(S:HP->Prop)(out:List HP):Prop where
 sorted:out.Pairwise λa b=>Q3 a<Q3 b
 each:∀h∈out,∃a,S a/\IsMerge (Conn S a) h
 all:∀a,S a->∃h∈out,IsMerge (Conn S a) h
theorem IsPool.uniq{S T:HP->Prop}{out out':List HP}(p:IsPool S out)(q:IsPool T out')(e:∀a,S a↔T a):out=out':=by
 have one:∀{S T:HP->Prop} {out out':List HP},IsPool S out->IsPool T out'->(∀a,S a↔T a)->∀h∈out,h∈out':=fun{S T out out'} p q e h hh=>by obtain⟨a,sa,m⟩:=p.each h hh;obtain⟨h',hh',m'⟩:=q.all a ((e a).mp sa);rw[m.uniq m' (Conn.congr e a)];exact hh'
 exact Uc p.sorted q.sorted λh=>⟨one p q e h,one q p (λa=>(e a).symm) h⟩
theorem IsMerge.tie{G:HP->Prop}{h:HP}(m:IsMerge G h)(t:NK):t∈On h↔∃a,G a/\t∈On a:=by
 constructor
 ·intro z;rcases bh.mp z with z|z
  ·obtain⟨a,g,z⟩:=(m.ns_m t).mp z;exact⟨a,g,b7 _ z⟩
  ·obtain⟨a,g,z⟩:=(m.ms_m t).mp z;exact⟨a,g,bq _ z⟩
 ·rintro⟨a,g,z⟩;rcases bh.mp z with z|z
  ·exact b7 _ ((m.ns_m t).mpr ⟨a,g,z⟩)
  ·exact bq _ ((m.ms_m t).mpr ⟨a,g,z⟩)
end My
noncomputable section
namespace Gen
open PySem PySem.Spec PyProof.Rows L2 DL
noncomputable def Lz(i:Nat):Stmt:=PySem.Challenge.pw_citeward_k38_whole_a_books_pool.main.body.getD i (.Pass ⟨0,0,0,0⟩)
noncomputable abbrev Zo0:Nat:=1000
noncomputable abbrev B6:Stmt:=Lz 12
noncomputable abbrev Oc:Stmt:=Lz 13
noncomputable abbrev B7:Stmt:=Lz 15
noncomputable abbrev B8:Stmt:=Lz 14
noncomputable abbrev Ba:Stmt:=Lz 6
noncomputable abbrev Px:Stmt:=Lz 7
noncomputable abbrev Bb:Stmt:=Lz 8
noncomputable abbrev Tm:Stmt:=Lz 5
noncomputable abbrev B9:Stmt:=Lz 3
noncomputable abbrev C3:Stmt:=Lz 4
noncomputable abbrev Ca:Stmt:=Lz 2
noncomputable abbrev Rq:Stmt:=Lz 1
noncomputable abbrev Cb:Stmt:=Lz 11
noncomputable abbrev Od:Stmt:=Lz 10
noncomputable abbrev Cc:Stmt:=Lz 16
noncomputable abbrev C4:Stmt:=Lz 19
noncomputable abbrev C5:Stmt:=Lz 20
noncomputable abbrev C6:Stmt:=Lz 17
noncomputable abbrev Cd:Stmt:=Lz 18
noncomputable abbrev Ce:Stmt:=Lz 21
noncomputable def Wl:FS:=
 Z1 (Yt 9 (Zn Ew (Za 6) (Yd Zfa (Zc (Zn eqX (Za 8) (Za 4)) Zi)))) (Yt 7 (Zn U7 (Za 7) (Zn Ou (Za 2) (Zn Bv (Zn U7 (Zn Kx (Za 0) (Zn U7 (Za 8) (Zg (.int 2)))) (Za 9)) (Zg (.int 22))))))
noncomputable def Jr:FS:=
 Z1 (Yt 7 (Zg (.str ""))) (Z1 (Qr (Fr (Zc (Za 3) Zi)) (Zd 8) Wl) (R3 5 (Za 7)))
noncomputable def C7:FS:=
 Z1 (Yt 2 (Zg (.str "abcdefghjlmpqrstuvwxyz"))) (Z1 (Yt 3 (Zn U7 (Zg (.int 1)) (Zn Bv (Za 0) (Zg (.int 8))))) (Z1 (Yt 4 (Zn Bv (Zn Kx (Za 0) (Zg (.int 8))) (Za 3))) (Z1 (Yt 5 (Ji (Zo))) (Z1 (Qr (Fr (Zc (Za 1) Zi)) (Zd 6) Jr) (Je (Za 5))))))
noncomputable def Y8:List D->Option SV:=W1 C7 10
noncomputable def Qp:FS:=
 Z1 (R3 2 (Zn Bv (Za 3) (Zg (.int 5040)))) (Yt 3 (Zn Kx (Za 3) (Zg (.int 5040))))
noncomputable def Qq:FS:=
 Z1 (Yt 3 (Zn Bv (Zn Ew (Zn U7 (Zn U7 (Za 3) (Za 4)) (Zg (.int 1))) (Zg (.int 48271))) (Zg (.int 2147483647)))) (R3 2 (Zn Bv (Zn Ew (Za 3) (Zg (.int 69621))) (Zg (.int 2147483629))))
noncomputable def Js:FS:=
 Z1 (Yt 2 (Ji (Zo))) (Z1 (Yt 3 (Zn Kx (Za 0) (Zg (.int 2)))) (Z1 (Xk (Yy (Zn eqX (Zn Bv (Za 0) (Zg (.int 2))) (Zg (.int 1)))) (Z1 (Qr (Fr (Zc (Za 1) Zi)) (Zd 4) Qp) (Je (Za 2))) (Uj)) (Z1 (Yt 3 (Zn Bv (Za 3) (Zg (.int 2147483647)))) (Z1 (Qr (Fr (Zc (Za 1) Zi)) (Zd 4) Qq) (Je (Za 2))))))
noncomputable def Yq:List D->Option SV:=W1 Js 5
noncomputable def Jt:FS:=
 R3 5 (Zn Ou (Zn U7 (Za 0) (Ji (Zh (Zg (.str "kind")) (Zo)))) (Zn Bv (Zn Ou (Za 2) (Zn U7 (Zn U7 (Zg (.int 2)) (Zn Ew (Zg (.int 4)) (Za 4))) (Za 6))) (Zg (.int 5))))
noncomputable def Ju:FS:=
 Z1 (Yt 5 (Ji (Zo))) (Z1 (Qr (Fr (Zc (Zn U7 (Zg (.int 1)) (Zn Bv (Zn Ou (Za 2) (Zn U7 (Zg (.int 1)) (Zn Ew (Zg (.int 4)) (Za 4)))) (Zg (.int 3)))) Zi)) (Zd 6) Jt) (R3 3 (Za 5)))
noncomputable def C8:FS:=
 Z1 (Yt 2 (Yu 2 Yq (Zc (Za 1) (Zc (Zg (.int 13)) (Zi))))) (Z1 (Yt 3 (Ji (Zo))) (Z1 (Qr (Fr (Zc (Zn Bv (Zn Ou (Za 2) (Zg (.int 0))) (Zg (.int 4))) Zi)) (Zd 4) Ju) (Je (Za 3))))
noncomputable def Ud:List D->Option SV:=W1 C8 7
noncomputable def Ww:FS:=
 Xk (Yy (Zn gtD (Zn Bv (Zn Ou (Za 7) (Za 9)) (Zg (.int 4))) (Zg (.int 0)))) (Mz 8 (Za 10) (Zn U7 (Zg (.str "It's ")) (Yd Zcq (Zc (Zn Bv (Zn Ou (Za 7) (Zn U7 (Zg (.int 5)) (Za 9))) (Za 3)) Zi)))) (Uj)
noncomputable def Qk:FS:=
 Z1 (Yt 7 (Yu 2 Yq (Zc (Zn Ou (Za 2) (Za 5)) (Zc (Zg (.int 11)) (Zi))))) (Z1 (Yt 8 (K8)) (Z1 (Qr (Rg (Zh (Zn U7 (Za 1) (Ji (Zh (Zg (.str "note")) (Zo)))) Zo)) (We 2 (Zs (Zd 9) (Zs (Zd 10) (Wg)))) Ww) (Mz 4 (Za 6) (tupF (Zh (Zn Ou (Ji (Hq ["book","part"] (Zo))) (Zn Bv (Zn Ou (Za 7) (Zg (.int 10))) (Zg (.int 2)))) (Zh (Za 8) (Zo)))))))
noncomputable def C9:FS:=
 Z1 (Yt 4 (K8)) (Z1 (Qr (Rg (Zh (Za 0) Zo)) (We 2 (Zs (Zd 5) (Zs (Zd 6) (Wg)))) Qk) (Je (Za 4)))
noncomputable def Ue:List D->Option SV:=W1 C9 11
noncomputable def Oe:FS:=
 T0 1 (Za 4) 2 aD
noncomputable def W2:FS:=
 Qr (Ua (Zn U7 (Zn Ou (Za 3) (Zg (.int 0))) (Zn Ou (Za 3) (Zg (.int 1))))) (Zd 4) Oe
noncomputable def Cf:FS:=
 Z1 (Yt 1 (Ls)) (Z1 (Qr (Rg (Zh (Za 0) Zo)) (We 2 (Zs (Zd 2) (Zs (Zd 3) (Wg)))) W2) (Zn2 (Za 1)))
noncomputable def Q8:List D->Option SV:=W1 Cf 5
noncomputable def Of:FS:=
 Xk (Yy (Zn B0 (Za 7) (Za 3))) (Z1 (Mz 3 (Za 7) (Zg (.bl aC))) (R3 4 (Za 7))) (Uj)
noncomputable def Mq:FS:=
 Qr (Ua (Zn Zg4 (Za 1) (Za 6))) (Zd 7) Of
noncomputable def Og:FT:=
 Yy (Zn gtD (Yd Fs (Zc (Za 4) Zi)) (Zg (.int 0)))
noncomputable def Ga:FS:=
 Z1 (Ps 5 0 4) (Qr (Ua (Zn U7 (Zn Ou (Za 5) (Zg (.int 0))) (Zn Ou (Za 5) (Zg (.int 1))))) (Zd 6) Mq)
noncomputable def Dk:FS:=
 Z1 (Yt 3 (Zbe 2 (Zg (.bl aC)))) (Z1 (Yt 4 (Ji (Zh (Za 2) (Zo)))) (Z1 (U3 Og Ga Zo0) (Je (Yd Vm (Zc (Za 3) Zi)))))
noncomputable def Iq:List D->Option SV:=W1 Dk 8
noncomputable def Oh:FS:=
 T0 3 (tupF (Zh (Za 5) (Zh (Za 6) (Zo)))) 7 aC
noncomputable def W3:FS:=
 Z1 (Lu 1 (Zn Ou (Za 4) (Zg (.int 0)))) (Z1 (Lu 2 (Zn Ou (Za 4) (Zg (.int 1)))) (Qr (Ua (Zn Ou (Za 4) (Zg (.int 2)))) (We 3 (Zs (Zd 5) (Zs (Zd 6) (Zs (Zd 7) (Wg))))) Oh))
noncomputable def Q9:FE:=
 tupF (Zh (Zn Ou (Za 0) (Zg (.int 0))) (Zh (Zn Ou (Za 0) (Zg (.int 1))) (Zh (Yd Bj (Zc (Zn Zg4 (Za 1) (Za 0)) Zi)) (Zo))))
noncomputable def Cg:FS:=
 Z1 (Yt 1 (Ji (Zo))) (Z1 (Yt 2 (Ji (Zo))) (Z1 (Yt 3 (Ls)) (Z1 (Qr (Ua (Za 0)) (Zd 4) W3) (Z1 (Yt 8 (Uk [.own,.cap 3,.acc] 2 (Zg3 (Za 3)) (Zd 0) (W0) Q9)) (Je (tupF (Zh (Yd Bj (Zc (Za 1) Zi)) (Zh (Yd Bj (Zc (Za 2) Zi)) (Zh (Yd Oa (Zc (Za 8) Zi)) (Zo))))))))))
noncomputable def Ja:List D->Option SV:=W1 Cg 9
noncomputable def Oi:FS:=
 Mz 3 (Za 6) (Zg (.bl aC))
noncomputable def Ch:FE:=
 Zn Ou (Za 1) (Za 0)
noncomputable def Jm:FS:=
 Xk (Yy (Zn B0 (Za 4) (Za 3))) (Z1 (Yt 5 (Yu 3 Iq (Zc (Za 0) (Zc (Za 1) (Zc (Za 4) (Zi)))))) (Z1 (Qr (Ua (Za 5)) (Zd 6) Oi) (R3 2 (Yu 1 Ja (Zc (Uk [.own,.cap 0,.acc] 2 (Ua (Za 5)) (Zd 0) (W0) Ch) (Zi)))))) (Uj)
noncomputable def Ir:FS:=
 Z1 (Yt 1 (Yu 1 Q8 (Zc (Za 0) (Zi)))) (Z1 (Yt 2 (Ji (Zo))) (Z1 (Yt 3 (K8)) (Z1 (Qr (Fr (Zc (Yd Fs (Zc (Za 0) Zi)) Zi)) (Zd 4) Jm) (Je (Yd Oa (Zc (Za 2) Zi))))))
noncomputable def Gb:List D->Option SV:=W1 Ir 7
noncomputable def Gc:FS:=
 Z1 (Yt 1 (Yd Zal (Zc (Zn Ou (Za 0) (Zg (.int 1))) Zi))) (Z1 (Mz 1 (Zg (.str "kind")) (Zn Ou (Za 0) (Zg (.int 0)))) (Je (Za 1)))
noncomputable def Qy:List D->Option SV:=W1 Gc 2
noncomputable def Ur:FE:=
 Zn inZ (Za 0) (Za 1)
noncomputable def Us:FE:=
 Zn Ou (Za 1) (Za 0)
noncomputable def Jb:FS:=
 Xk (Yy (Yd Zjm (Zc (Uk [.own,.cap 0,.acc] 2 (Ua (Za 4)) (Zd 0) (W0) Ur) Zi))) (R3 2 (tupF (Zh (Za 3) (Zh (Yd Eo (Zc (Uk [.own,.cap 0,.acc] 2 (Ua (Za 4)) (Zd 0) (W0) Us) Zi)) (Zo))))) (Uj)
noncomputable def Rr:FS:=
 Z1 (Yt 2 (Ji (Zo))) (Z1 (Qr (Rg (Zh (Za 1) Zo)) (We 2 (Zs (Zd 3) (Zs (Zd 4) (Wg)))) Jb) (Je (Za 2)))
noncomputable def Oj:List D->Option SV:=W1 Rr 5
noncomputable def Ql:FT:=
 Yy (Zn neX (Za 0) (Zg (.str "note")))
noncomputable def Jv:FE:=
 tupF (Zh (Za 0) (Zh (Zn Ou (Za 1) (Za 0)) (Zh (Ji (Zh (Za 2) (Zo))) (Zo))))
noncomputable def Gd:FS:=
 Z1 (Yt 3 (Yu 1 Qy (Zc (Za 1) (Zi)))) (Z1 (Yt 4 (Uk [.own,.cap 3,.cap 0,.acc] 3 (Zf7 (Za 3)) (Zd 0) (Ql) Jv)) (Je (tupF (Zh (Ji (Zh (Za 0) (Zo))) (Zh (Yu 2 Oj (Zc (Za 3) (Zc (Za 2) (Zi)))) (Zh (Za 4) (Zo)))))))
noncomputable def Qz:List D->Option SV:=W1 Gd 5
noncomputable def Ox:FE:=
 Yu 3 Qz (Zc (tupF (Zh (Za 2) (Zh (Za 0) (Zo)))) (Zc (Zn Ou (Za 3) (Za 0)) (Zc (Za 1) (Zi))))
noncomputable def Tn:FS:=
 Je (Yu 1 Gb (Zc (Uk [.own,.cap 2,.cap 0,.cap 1,.acc] 4 (Zf7 (Za 1)) (Zd 0) (W0) Ox) (Zi)))
noncomputable def Q0:List D->Option SV:=W1 Tn 3
noncomputable def Ge:FS:=
 Je (Zn Bv (Zn Ew (Zn Bv (Za 0) (Zg (.int 2147483647))) (Za 1)) (Zg (.int 2147483647)))
noncomputable def W4:List D->Option SV:=W1 Ge 2
noncomputable def Jw:FS:=
 Z1 (Xk (Yy (Zn U6 (Za 1) (Yd Fs (Zc (Za 0) Zi)))) (Je (Zn Ou (Za 0) (Za 1))) (Uj)) (Je (Zg (.int 0)))
noncomputable def Z2:List D->Option SV:=W1 Jw 2
noncomputable def Jx:FE:=
 orV (Zn eqX (Za 0) (Zg (.str "kind"))) (Zn inZ (Za 0) (Za 1))
noncomputable def Jy:FS:=
 R3 7 (Zn Ou (Ji (Zh (Zfw "dict" M7 (Za 3) (Zh (Za 8) (Zo))) (Zh (Za 2) (Zo)))) (Yd Zfa (Zc (Zn eqX (Za 8) (Zg (.str "kind"))) Zi)))
noncomputable def Qm:FS:=
 Xk (K9 (Yy (Zn B0 (Zg (.bl aD)) (Uk [.own,.cap 3,.acc] 2 (Ua (Za 6)) (Zd 0) (W0) Jx)))) (Z1 (Yt 7 (Ji (Zo))) (Z1 (Qr (Ua (Za 6)) (Zd 8) Jy) (R3 4 (tupF (Zh (Za 5) (Zh (Yd Eo (Zc (Za 7) Zi)) (Zo))))))) (Uj)
noncomputable def Gf:FS:=
 Z1 (R1 (We 2 (Zs (Zd 2) (Zs (Zd 3) (Wg)))) (Za 0)) (Z1 (Yt 4 (Ji (Zo))) (Z1 (Qr (Rg (Zh (Za 1) Zo)) (We 2 (Zs (Zd 5) (Zs (Zd 6) (Wg)))) Qm) (Je (Za 4))))
noncomputable def Uf:List D->Option SV:=W1 Gf 9
noncomputable def Ut:FS:=
 Lu 1 (Za 2)
noncomputable def Rs:FS:=
 Z1 (Yt 1 (Ji (Zo))) (Z1 (Qr (Ua (Za 0)) (Zd 2) Ut) (Je (Za 1)))
noncomputable def Wd:List D->Option SV:=W1 Rs 3
noncomputable def W9:FS:=
 Xk (Yy (Zn neX (Za 7) (Zg (.str "note")))) (Mz 3 (tupF (Zh (Za 7) (Zh (Zn Ou (Za 6) (Za 7)) (Zo)))) (Zn U7 (Zfw "dict" M7 (Za 3) (Zh (tupF (Zh (Za 7) (Zh (Zn Ou (Za 6) (Za 7)) (Zo)))) (Zh (Ji (Zo)) (Zo)))) (Ji (Zh (Za 4) (Zo))))) (Uj)
noncomputable def Uu:FS:=
 Z1 (R1 (We 2 (Zs (Zd 5) (Zs (Zd 6) (Wg)))) (Zn Ou (Za 1) (Zn Ou (Za 4) (Zg (.int 1))))) (Z1 (Qr (Zf7 (Za 6)) (Zd 7) W9) (Mz 3 (tupF (Zh (Zg (.str "kind")) (Zh (Za 5) (Zo)))) (Zn U7 (Zfw "dict" M7 (Za 3) (Zh (tupF (Zh (Zg (.str "kind")) (Zh (Za 5) (Zo)))) (Zh (Ji (Zo)) (Zo)))) (Ji (Zh (Za 4) (Zo))))))
noncomputable def Uv:FE:=
 tupF (Zh (Zn Ou (Za 0) (Zg (.int 0))) (Zh (Zn Ou (Za 0) (Zg (.int 1))) (Zh (Yd Oa (Zc (Zn Ou (Za 1) (Za 0)) Zi)) (Zo))))
noncomputable def Rt:FS:=
 Z1 (Yt 3 (Zai)) (Z1 (Qr (Ua (Za 2)) (Zd 4) Uu) (Je (Uk [.own,.cap 3,.acc] 2 (Ua (Yd E7 (Zc (Za 3) Zi))) (Zd 0) (W0) Uv)))
noncomputable def Ol:List D->Option SV:=W1 Rt 8
noncomputable def Qa:FS:=
 Xk (Yy (Zn inN (Za 4) (Zn Ou (Za 2) (Za 3)))) (Je (Zg (.bl aC))) (Uj)
noncomputable def Qb:FS:=
 Qr (Ua (Zn Ou (Za 2) (Za 0))) (Zd 4) Qa
noncomputable def Ci:FS:=
 Z1 (Qr (Ua (Za 1)) (Zd 3) Qb) (Je (Zg (.bl aD)))
noncomputable def Jn:List D->Option SV:=W1 Ci 5
noncomputable def Wx:FS:=
 Xk (Znk (Yy (Zn Ro (Za 4) (Za 2))) (K9 (Yy (Yu 3 Jn (Zc (Za 4) (Zc (Za 2) (Zc (Za 1) (Zi)))))))) (R3 2 (Za 4)) (Uj)
noncomputable def Jz:FS:=
 Qr (Ua (Za 0)) (Zd 4) Wx
noncomputable def Gg:FS:=
 Z1 (Yt 2 (Ji (Zh (Zn Ou (Za 0) (Zg (.int 0))) (Zo)))) (Z1 (Qr (Fr (Zc (Yd Fs (Zc (Za 0) Zi)) Zi)) (Zd 3) Jz) (Je (Zn eqX (Yd Fs (Zc (Za 2) Zi)) (Yd Fs (Zc (Za 0) Zi)))))
noncomputable def Ug:List D->Option SV:=W1 Gg 5
noncomputable def Ao:FS:=
 Mz 7 (tupF (Zh (Za 4) (Zh (Za 8) (Zo)))) (Yu 2 Uf (Zc (Zn Ou (Za 6) (Za 8)) (Zc (Za 5) (Zi))))
noncomputable def Ap:FE:=
 Zn Ou (Za 0) (Zg (.int 0))
noncomputable def Gw:FE:=
 Zn Ou (Za 1) (Za 0)
noncomputable def Aq:FT:=
 Yy (Zn inN (Za 0) (Za 1))
noncomputable def Zbo:FE:=
 Za 0
noncomputable def Ar:FS:=
 Z1 (R1 (We 3 (Zs (Zd 12) (Zs (Zd 13) (Zs (Zd 14) (Wg))))) (Za 11)) (Z1 (Yt 15 (Yd Bj (Zc (Yu 1 Wd (Zc (Uk [.own,.cap 7,.acc] 2 (Ua (Za 12)) (Zd 0) (W0) Gw) (Zi))) Zi))) (Z1 (Xk (orF (Yy (Zn neX (Za 12) (Yd Oa (Zc (Za 12) Zi)))) (orF (Yy (Zn neX (Za 13) (Za 15))) (Yy (Zn neX (Za 14) (Yu 3 Ol (Zc (Za 4) (Zc (Za 6) (Zc (Za 12) (Zi))))))))) (Je (Zg (.bl aD))) (Uj)) (Z1 (Xk (orF (Zi4 (Yy (Yu 2 Ug (Zc (Za 12) (Zc (Za 7) (Zi)))))) (K9 (Yy (Zn neX (Uk [.own,.cap 10,.acc] 2 (Ua (Za 13)) (Zd 0) (Aq) Zbo) (Ji (Zo)))))) (Je (Zg (.bl aD))) (Uj)) (Yt 10 (Zn U7 (Za 10) (Za 13))))))
noncomputable def As:FS:=
 Mz 16 (Za 8) (Zn Ou (Za 6) (Za 8))
noncomputable def Au:FS:=
 Z1 (Xk (orF (Zi4 (Yy (unF (Zjf "list") (Za 9)))) (Yy (Zn neX (Za 9) (Yd Oa (Zc (Za 9) Zi))))) (Je (Zg (.bl aD))) (Uj)) (Z1 (Xk (K9 (Yy (Zn neX (Yd Oa (Zc (Yu 1 Wd (Zc (Uk [.own,.acc] 1 (Ua (Za 9)) (Zd 0) (W0) Ap) (Zi))) Zi)) (Yd E7 (Zc (Za 7) Zi))))) (Je (Zg (.bl aD))) (Uj)) (Z1 (Yt 10 (Ji (Zo))) (Z1 (Qr (Ua (Za 9)) (Zd 11) Ar) (Z1 (Yt 16 (K8)) (Z1 (Qr (Zos (Zh (Za 2) Zo)) (Zd 8) As) (Je (Zn eqX (Yu 3 Q0 (Zc (Za 4) (Zc (Za 16) (Zc (Za 5) (Zi))))) (Za 9))))))))
noncomputable def Zhl:FS:=
 Z1 (Yt 1 (slF slD (Za 0) (Zaa (Zg (.int 5))) (Zaa (Zg (.int 17))))) (Z1 (Yt 2 (Yu 2 Y8 (Zc (Yu 2 W4 (Zc (Yu 2 Z2 (Zc (Za 0) (Zc (Zg (.int 0)) (Zi)))) (Zc (Zg (.int 16807)) (Zi)))) (Zc (Yd Fs (Zc (Za 1) Zi)) (Zi))))) (Z1 (Yt 3 (Yu 2 Y8 (Zc (Yu 2 W4 (Zc (Yu 2 Z2 (Zc (Za 0) (Zc (Zg (.int 1)) (Zi)))) (Zc (Zg (.int 16807)) (Zi)))) (Zc (Zg (.int 4)) (Zi))))) (Z1 (Yt 4 (Zn Ou (Yu 2 Y8 (Zc (Yu 2 W4 (Zc (Yu 2 Z2 (Zc (Za 0) (Zc (Zg (.int 2)) (Zi)))) (Zc (Zg (.int 39373)) (Zi)))) (Zc (Zg (.int 1)) (Zi)))) (Zg (.int 0)))) (Z1 (Yt 5 (Yu 2 Ud (Zc (Za 3) (Zc (Yu 2 Z2 (Zc (Za 0) (Zc (Zg (.int 3)) (Zi)))) (Zi))))) (Z1 (Yt 6 (Yu 4 Ue (Zc (Za 2) (Zc (Za 3) (Zc (Za 1) (Zc (Zn U7 (Zg (.int 2)) (Zn Bv (Yu 2 Z2 (Zc (Za 0) (Zc (Zg (.int 4)) (Zi)))) (Zg (.int 9)))) (Zi))))))) (Z1 (Yt 7 (Zai)) (Z1 (Qr (Ua (Za 2)) (Zd 8) Ao) (Z1 (Yt 9 (Yu 3 Q0 (Zc (Za 4) (Zc (Za 6) (Zc (Za 5) (Zi)))))) Au))))))))
noncomputable def Mr:List D->Option SV:=W1 Zhl 17
end Gen
namespace Gen
open PySem PySem.Spec PyProof.Rows L2 DL
structure Txt(K:ah)(mg:Str->Option aj)(fx0 fx1 fx2 fx3 fx4 fx5 fx6 fx7 fx8 fx9 fx10 fx11 fx12 fx13 fx14 fx15 fx16 fx17 fx18 fx19:au):Prop where
 z_all:mg "all"=aB
 z_dict:mg "dict"=aB
 z_enumerate:mg "enumerate"=aB
 z_int:mg "int"=aB
 z_isinstance:mg "isinstance"=aB
 z_len:mg "len"=aB
 z_list:mg "list"=aB
 z_range:mg "range"=aB
 z_reversed:mg "reversed"=aB
 z_set:mg "set"=aB
 z_sorted:mg "sorted"=aB
 z_str:mg "str"=aB
 z_tuple:mg "tuple"=aB
 m_0:mg "_law_names"=aA (.ref fx0)
 k_0:bn K (.ref fx0)=aC
 m_1:mg "_law_numbers"=aA (.ref fx1)
 k_1:bn K (.ref fx1)=aC
 m_2:mg "_law_rules"=aA (.ref fx2)
 k_2:bn K (.ref fx2)=aC
 m_3:mg "_law_shelf"=aA (.ref fx3)
 k_3:bn K (.ref fx3)=aC
 m_4:mg "holders_of"=aA (.ref fx4)
 k_4:bn K (.ref fx4)=aC
 m_5:mg "tied"=aA (.ref fx5)
 k_5:bn K (.ref fx5)=aC
 m_6:mg "join_heaps"=aA (.ref fx6)
 k_6:bn K (.ref fx6)=aC
 m_7:mg "joined"=aA (.ref fx7)
 k_7:bn K (.ref fx7)=aC
 m_8:mg "own_texts"=aA (.ref fx8)
 k_8:bn K (.ref fx8)=aC
 m_9:mg "marks_of"=aA (.ref fx9)
 k_9:bn K (.ref fx9)=aC
 m_10:mg "lone_heap"=aA (.ref fx10)
 k_10:bn K (.ref fx10)=aC
 m_11:mg "pool_of"=aA (.ref fx11)
 k_11:bn K (.ref fx11)=aC
 m_12:mg "_law_mixed"=aA (.ref fx12)
 k_12:bn K (.ref fx12)=aC
 m_13:mg "_law_cell_at"=aA (.ref fx13)
 k_13:bn K (.ref fx13)=aC
 m_14:mg "_law_marks"=aA (.ref fx14)
 k_14:bn K (.ref fx14)=aC
 m_15:mg "_law_flat"=aA (.ref fx15)
 k_15:bn K (.ref fx15)=aC
 m_16:mg "_law_told"=aA (.ref fx16)
 k_16:bn K (.ref fx16)=aC
 m_17:mg "_law_near"=aA (.ref fx17)
 k_17:bn K (.ref fx17)=aC
 m_18:mg "_law_hangs"=aA (.ref fx18)
 k_18:bn K (.ref fx18)=aC
 m_19:mg "law"=aA (.ref fx19)
 k_19:bn K (.ref fx19)=aC
section
variable{P:bv}{w:c6}{K:ah}{mg:Str->Option aj}{base:f8}{fx0 fx1 fx2 fx3 fx4 fx5 fx6 fx7 fx8 fx9 fx10 fx11 fx12 fx13 fx14 fx15 fx16 fx17 fx18 fx19:au}
theorem Yv:FnScope ["_law_number","_law_many","_law_letters","_law_size","_law_at","_law_names_here","_law_turn","_law_name","_law_k","_law_step"] ["_law_number","_law_many"] (Zw B6):=⟨rfl,rfl,rfl,by decide+kernel,rfl,by decide+kernel,by decide+kernel⟩
theorem Yz:FnScope ["_law_cell","_law_many","_law_found","_law_number","_law_k"] ["_law_cell","_law_many"] (Zw Oc):=⟨rfl,rfl,rfl,by decide+kernel,rfl,by decide+kernel,by decide+kernel⟩
theorem Qc:FnScope ["_law_fields","_law_cell","_law_some","_law_rules_here","_law_k","_law_rule","_law_j"] ["_law_fields","_law_cell"] (Zw B7):=⟨rfl,rfl,rfl,by decide+kernel,rfl,by decide+kernel,by decide+kernel⟩
theorem Wi:FnScope ["_law_keys","_law_fields","_law_cells","_law_wide","_law_shelf_here","_law_k","_law_key","_law_some","_law_own","_law_j","_law_field"] ["_law_keys","_law_fields","_law_cells","_law_wide"] (Zw B8):=⟨rfl,rfl,rfl,by decide+kernel,rfl,by decide+kernel,by decide+kernel⟩
theorem Qn:FnScope ["heaps","holders","place","heap","tie"] ["heaps"] (Zw Ba):=⟨rfl,rfl,rfl,by decide+kernel,rfl,by decide+kernel,by decide+kernel⟩
theorem Gx:FnScope ["heaps","holders","place","found","left","heap","tie","other"] ["heaps","holders","place"] (Zw Px):=⟨rfl,rfl,rfl,by decide+kernel,rfl,by decide+kernel,by decide+kernel⟩
theorem Yw:FnScope ["heaps","names","marks","tellers","heap","field","value","told_by","fields"] ["heaps"] (Zw Bb):=⟨rfl,rfl,rfl,by decide+kernel,rfl,by decide+kernel,by decide+kernel⟩
theorem Jo:FnScope ["heaps","holders","pool","seen","place","group","other"] ["heaps"] (Zw Tm):=⟨rfl,rfl,rfl,by decide+kernel,rfl,by decide+kernel,by decide+kernel⟩
theorem Ms:FnScope ["work","texts"] ["work"] (Zw B9):=⟨rfl,rfl,rfl,by decide+kernel,rfl,by decide+kernel,by decide+kernel⟩
theorem Oy:FnScope ["texts","rules","marks","number","rule"] ["texts","rules"] (Zw C3):=⟨rfl,rfl,rfl,by decide+kernel,rfl,by decide+kernel,by decide+kernel⟩
theorem Cj:FnScope ["name","work","rules","texts","fields"] ["name","work","rules"] (Zw Ca):=⟨rfl,rfl,rfl,by decide+kernel,rfl,by decide+kernel,by decide+kernel⟩
theorem Dl:FnScope ["book","shelf","rules"] ["book","shelf","rules"] (Zw Rq):=⟨rfl,rfl,rfl,by decide+kernel,rfl,by decide+kernel,by decide+kernel⟩
theorem Py:FnScope ["_law_cell","_law_by"] ["_law_cell","_law_by"] (Zw Cb):=⟨rfl,rfl,rfl,by decide+kernel,rfl,by decide+kernel,by decide+kernel⟩
theorem Iu:FnScope ["_law_script","_law_k"] ["_law_script","_law_k"] (Zw Od):=⟨rfl,rfl,rfl,by decide+kernel,rfl,by decide+kernel,by decide+kernel⟩
theorem Wj:FnScope ["_law_work","_law_rules_here","_law_kind","_law_own","_law_marks_here","_law_n","_law_rule","_law_values","_law_field"] ["_law_work","_law_rules_here"] (Zw Cc):=⟨rfl,rfl,rfl,by decide+kernel,rfl,by decide+kernel,by decide+kernel⟩
theorem Gh:FnScope ["_law_lists","_law_found","_law_some"] ["_law_lists"] (Zw C4):=⟨rfl,rfl,rfl,by decide+kernel,rfl,by decide+kernel,by decide+kernel⟩
theorem Q1:FnScope ["_law_book","_law_shelf_here","_law_names_here","_law_told_here","_law_name","_law_kind","_law_own","_law_field"] ["_law_book","_law_shelf_here","_law_names_here"] (Zw C5):=⟨rfl,rfl,rfl,by decide+kernel,rfl,by decide+kernel,by decide+kernel⟩
theorem Gi:FnScope ["_law_name","_law_met","_law_marks_here","_law_other","_law_mark"] ["_law_name","_law_met","_law_marks_here"] (Zw C6):=⟨rfl,rfl,rfl,by decide+kernel,rfl,by decide+kernel,by decide+kernel⟩
theorem Uw:FnScope ["_law_names_here","_law_marks_here","_law_met","_law_turn","_law_name"] ["_law_names_here","_law_marks_here"] (Zw Cd):=⟨rfl,rfl,rfl,by decide+kernel,rfl,by decide+kernel,by decide+kernel⟩
theorem Ws:FnScope ["_law_script","_law_cells","_law_keys","_law_fields","_law_book","_law_rules_here","_law_shelf_here","_law_marks_here","_law_key","_law_found","_law_seen","_law_heap","_law_names_here","_law_held","_law_told_here","_law_due","_law_other"] ["_law_script"] (Zw Ce):=⟨rfl,rfl,rfl,by decide+kernel,rfl,by decide+kernel,by decide+kernel⟩
theorem L0{x qual:Str}{st:Stmt}{f:au}{fd:cr}{N ps:List Str}{k n:Nat}(F:Fun K x qual st f fd)(S:FnScope N ps (Zw st))(hn:n=ps.length)(f0:FS)(hb:∀(cdv:aj) (A:di) (outer:List Env) (s:aq) (H F0:Hp) (E:XK),Room k (A.deeper (envOfC qual (Zw st) s.heap.objs.size f cdv))->(A.deeper (envOfC qual (Zw st) s.heap.objs.size f cdv)).units+1<fg->(A.deeper (envOfC qual (Zw st) s.heap.objs.size f cdv)).units+64<fg->Tt (Xv Uo P w K mg base N qual (Zw st) f cdv A outer s H E).nox (Oq st) (Z9 (ent H F0:Ent K) f0)):FnOk P w K mg base Uo (k+1) f fd ps (Y5 K n (W1 f0 N.length)):=
 F.ok S (λ_ _ _ _ h=>(Ze2 h).trans hn) λcdv A outer s H vs Q E hr h=>by obtain⟨F0,h⟩:=Zff (N:=N) (f:=f0) h;exact⟨_,hb cdv A outer s H F0 E hr (Zqj hr) hr.units,h⟩
variable(T:Txt K mg fx0 fx1 fx2 fx3 fx4 fx5 fx6 fx7 fx8 fx9 fx10 fx11 fx12 fx13 fx14 fx15 fx16 fx17 fx18 fx19)
include T
theorem Pz{fd:cr}(F:Fun K "_law_names" "_law_names" B6 fx0 fd):
  FnOk P w K mg base Uo 1 fx0 fd ["_law_number","_law_many"] (Y5 K 2 Y8):=by
 refine L0 F Yv rfl C7 λ_ _ _ _ _ _ _ hr hu hv=>?_;exact(Zf (Z8 2 Yv.nd Co) (Zf (Z8 3 Yv.nd (Qv Zx (J3 (Zb 0) Zx))) (Zf (Z8 4 Yv.nd (J3 (N8 (Zb 0) Zx) (Zb 3))) (Zf (Z8 5 Yv.nd (Wu Z7)) (Zf (Wh b8 rfl (Tw T.z_range (Zb 1)) (Zu 6 Yv.nd) (Zf (Z8 7 Yv.nd Co) (Zf (Wh b8 rfl (Tw T.z_range (Zb 3)) (Zu 8 Yv.nd) (Zf (Z8 9 Yv.nd (M9 (Zb 6) (Zfd T.z_int (Va hv (Zb 8) (Zb 4))))) (Zq (Z8 7 Yv.nd (Qv (Zb 7) (Yi hu (Zb 2) (J3 (Qv (N8 (Zb 0) (Qv (Zb 8) Zx)) (Zb 9)) Zx))))))) (Zq (Cw 5 (Zb 7)))))) (Zq (Wq (Zb 5))))))))
theorem Iv{fd:cr}(F:Fun K "_law_numbers" "_law_numbers" Oc fx1 fd):
  FnOk P w K mg base Uo 1 fx1 fd ["_law_cell","_law_many"] (Y5 K 2 Yq):=by
 refine L0 F Yz rfl Js λ_ _ _ _ _ _ _ hr hu hv=>?_;exact(Zf (Z8 2 Yz.nd (Wu Z7)) (Zf (Z8 3 Yz.nd (N8 (Zb 0) Zx)) (Zf (R7 (Zrj hv (J3 (Zb 0) Zx) Zx) (Zf (Wh b8 rfl (Tw T.z_range (Zb 1)) (Zu 4 Yz.nd) (Zf (Cw 2 (J3 (Zb 3) Zx)) (Zq (Z8 3 Yz.nd (N8 (Zb 3) Zx))))) (Zq (Wq (Zb 2)))) Q6) (Zf (Z8 3 Yz.nd (J3 (Zb 3) Zx)) (Zf (Wh b8 rfl (Tw T.z_range (Zb 1)) (Zu 4 Yz.nd) (Zf (Z8 3 Yz.nd (J3 (M9 (Qv (Qv (Zb 3) (Zb 4)) Zx) Zx) Zx)) (Zq (Cw 2 (J3 (M9 (Zb 3) Zx) Zx))))) (Zq (Wq (Zb 2))))))))
theorem P0{fd:cr}(F:Fun K "_law_rules" "_law_rules" B7 fx2 fd){dx1:cr}(Vx1:FnOk P w K mg base Uo 1 fx1 dx1 ["_law_cell","_law_many"] (Y5 K 2 Yq))(Wx1:Wp K dx1 ["_law_cell","_law_many"] []):
  FnOk P w K mg base Uo 2 fx2 fd ["_law_fields","_law_cell"] (Y5 K 2 Ud):=by
 refine L0 F Qc rfl C8 λ_ _ _ _ _ _ _ hr hu hv=>?_;exact(Zf (Z8 2 Qc.nd (Yo Vx1 (hr.mono (by decide)) T.m_1 T.k_1 Wx1 (Zm (Zb 1) (Zm Zx Yn)))) (Zf (Z8 3 Qc.nd (Wu Z7)) (Zf (Wh b8 rfl (Tw T.z_range (J3 (Yi hu (Zb 2) Zx) Zx)) (Zu 4 Qc.nd) (Zf (Z8 5 Qc.nd (Wu Z7)) (Zf (Wh b8 rfl (Tw T.z_range (Qv Zx (J3 (Yi hu (Zb 2) (Qv Zx (M9 Zx (Zb 4)))) Zx))) (Zu 6 Qc.nd) (Zq (Cw 5 (Yi hu (Qv (Zb 0) (Wu (Zt Co Z7))) (J3 (Yi hu (Zb 2) (Qv (Qv Zx (M9 Zx (Zb 4))) (Zb 6))) Zx))))) (Zq (Cw 3 (Zb 5)))))) (Zq (Wq (Zb 3))))))
theorem P3{fd:cr}(F:Fun K "_law_shelf" "_law_shelf" B8 fx3 fd){dx1:cr}(Vx1:FnOk P w K mg base Uo 1 fx1 dx1 ["_law_cell","_law_many"] (Y5 K 2 Yq))(Wx1:Wp K dx1 ["_law_cell","_law_many"] []):
  FnOk P w K mg base Uo 2 fx3 fd ["_law_keys","_law_fields","_law_cells","_law_wide"] (Y5 K 4 Ue):=by
 refine L0 F Wi rfl C9 λ_ _ _ _ _ _ _ hr hu hv=>?_;exact(Zf (Z8 4 Wi.nd Aj) (Zf (Wh b8 rfl (R8 T.z_enumerate (Zt (Zb 0) Z7)) (R6 rfl (Y1 (Zu 5 Wi.nd) (Y1 (Zu 6 Wi.nd) Bw))) (Zf (Z8 7 Wi.nd (Yo Vx1 (hr.mono (by decide)) T.m_1 T.k_1 Wx1 (Zm (Yi hu (Zb 2) (Zb 5)) (Zm Zx Yn)))) (Zf (Z8 8 Wi.nd Aj) (Zf (Wh b8 rfl (R8 T.z_enumerate (Zt (Qv (Zb 1) (Wu (Zt Co Z7))) Z7)) (R6 rfl (Y1 (Zu 9 Wi.nd) (Y1 (Zu 10 Wi.nd) Bw))) (Zq (R7 (Zre (J3 (Yi hu (Zb 7) (Zb 9)) Zx) Zx) (Zq (Mb 8 hu (Zb 10) (Qv Co (Zn7 T.z_str (J3 (Yi hu (Zb 7) (Qv Zx (Zb 9))) (Zb 3)))))) Q6))) (Zq (Mb 4 hu (Zb 6) (U8 (Zt (Yi hu (Wu (Zj0 [("book",_,_),("part",_,_)] Z7)) (J3 (Yi hu (Zb 7) Zx) Zx)) (Zt (Zb 8) Z7))))))))) (Zq (Wq (Zb 4)))))
theorem Kc{fd:cr}(F:Fun K "holders_of" "holders_of" Ba fx4 fd):
  FnOk P w K mg base Uo 1 fx4 fd ["heaps"] (Y5 K 1 Q8):=by
 refine L0 F Qn rfl Cf λ_ _ _ _ _ _ _ hr hu hv=>?_;exact(Zf (Z8 1 Qn.nd Zbd) (Zf (Wh b8 rfl (R8 T.z_enumerate (Zt (Zb 0) Z7)) (R6 rfl (Y1 (Zu 2 Qn.nd) (Y1 (Zu 3 Qn.nd) Bw))) (Zq (Wh b8 rfl (Qe (Qv (Yi hu (Zb 3) Zx) (Yi hu (Zb 3) Zx))) (Zu 4 Qn.nd) (Zq (Zkg 1 2 hv (Zb 4)))))) (Zq (Zn4 (Zb 1)))))
theorem Zkw{fd:cr}(F:Fun K "tied" "tied" Px fx5 fd):
  FnOk P w K mg base Uo 1 fx5 fd ["heaps","holders","place"] (Y5 K 3 Iq):=by
 refine L0 F Gx rfl Dk λ_ _ _ _ _ _ _ hr hu hv=>?_;exact(Zf (Z8 3 Gx.nd (Zko 2 Ft)) (Zf (Z8 4 Gx.nd (Wu (Zt (Zb 2) Z7))) (Zf (Zjj Zo0 b8 (Zre (Er T.z_len (Zb 4)) Zx) (Zf (Zkn 5 0 4 Gx.nd (Zl0 0) (Zl0 4)) (Zq (Wh b8 rfl (Qe (Qv (Yi hu (Zb 5) Zx) (Yi hu (Zb 5) Zx))) (Zu 6 Gx.nd) (Zq (Wh b8 rfl (Qe (Zmc hv (Zb 1) (Zb 6))) (Zu 7 Gx.nd) (Zq (R7 (Ex hu (Zb 7) (Zb 3)) (Zf (Mb 3 hu (Zb 7) Ft) (Zq (Cw 4 (Zb 7)))) Q6)))))))) (Zq (Wq (Zob rfl T.z_list (Zb 3)))))))
theorem Kd{fd:cr}(F:Fun K "join_heaps" "join_heaps" Bb fx6 fd):
  FnOk P w K mg base Uo 1 fx6 fd ["heaps"] (Y5 K 1 Ja):=by
 refine L0 F Yw rfl Cg λ_ _ _ _ _ _ _ hr hu hv=>?_;exact(Zf (Z8 1 Yw.nd (Wu Z7)) (Zf (Z8 2 Yw.nd (Wu Z7)) (Zf (Z8 3 Yw.nd Zbd) (Zf (Wh b8 rfl (Qe (Zb 0)) (Zu 4 Yw.nd) (Zf (Dc 1 (Yi hu (Zb 4) Zx)) (Zf (Dc 2 (Yi hu (Zb 4) Zx)) (Zq (Wh b8 rfl (Qe (Yi hu (Zb 4) Zx)) (R6 rfl (Y1 (Zu 5 Yw.nd) (Y1 (Zu 6 Yw.nd) (Y1 (Zu 7 Yw.nd) Bw)))) (Zq (Zkh 3 7 hv (U8 (Zt (Zb 5) (Zt (Zb 6) Z7)))))))))) (Zf (K6 8 rfl (Wn (N':=["pair","tellers",".acc"]) (src:=[.own,.cap 3,.acc]) (by rfl) (by rfl) (by rfl) (by rfl) (by rfl) (by rfl)) (Cv 2 (by rfl) (by rfl)) (by decide) (Zoo (Zb 3)) (λ_ _ _ _=>xg λ_=>(Zu 0 (show(["pair","tellers",".acc"]:List Str).Nodup by decide+kernel))) (λ_ _ _ _=>xt0) (λ_ _ _ _=>xe λ_=>(U8 (Zt (Yi hu (Zb 0) Zx) (Zt (Yi hu (Zb 0) Zx) (Zt (Pr rfl hv T.z_sorted T.z_set (Zmc hv (Zb 1) (Zb 0))) Z7))))) Yw.nd) (Zq (Wq (U8 (Zt (Pr rfl hv T.z_sorted T.z_set (Zb 1)) (Zt (Pr rfl hv T.z_sorted T.z_set (Zb 2)) (Zt (Th hv T.z_sorted (Zb 8)) Z7)))))))))))
theorem Zc8{fd:cr}(F:Fun K "joined" "joined" Tm fx7 fd){dx4:cr}(Vx4:FnOk P w K mg base Uo 1 fx4 dx4 ["heaps"] (Y5 K 1 Q8))(Wx4:Wp K dx4 ["heaps"] []){dx5:cr}(Vx5:FnOk P w K mg base Uo 1 fx5 dx5 ["heaps","holders","place"] (Y5 K 3 Iq))(Wx5:Wp K dx5 ["heaps","holders","place"] []){dx6:cr}(Vx6:FnOk P w K mg base Uo 1 fx6 dx6 ["heaps"] (Y5 K 1 Ja))(Wx6:Wp K dx6 ["heaps"] []):
  FnOk P w K mg base Uo 2 fx7 fd ["heaps"] (Y5 K 1 Gb):=by
 refine L0 F Jo rfl Ir λ_ _ _ _ _ _ _ hr hu hv=>?_;exact(Zf (Z8 1 Jo.nd (Yo Vx4 (hr.mono (by decide)) T.m_4 T.k_4 Wx4 (Zm (Zb 0) Yn))) (Zf (Z8 2 Jo.nd (Wu Z7)) (Zf (Z8 3 Jo.nd Aj) (Zf (Wh b8 rfl (Tw T.z_range (Er T.z_len (Zb 0))) (Zu 4 Jo.nd) (Zq (R7 (Ex hu (Zb 4) (Zb 3)) (Zf (Z8 5 Jo.nd (Yo Vx5 (hr.mono (by decide)) T.m_5 T.k_5 Wx5 (Zm (Zb 0) (Zm (Zb 1) (Zm (Zb 4) Yn))))) (Zf (Wh b8 rfl (Qe (Zb 5)) (Zu 6 Jo.nd) (Zq (Mb 3 hu (Zb 6) Ft))) (Zq (Cw 2 (Yo Vx6 (hr.mono (by decide)) T.m_6 T.k_6 Wx6 (Zm (Bx rfl (Wn (N':=["other","heaps",".acc"]) (src:=[.own,.cap 0,.acc]) (by rfl) (by rfl) (by rfl) (by rfl) (by rfl) (by rfl)) (Cv 2 (by rfl) (by rfl)) (by decide) (Qe (Zb 5)) (λ_ _ _ _=>xg λ_=>(Zu 0 (show(["other","heaps",".acc"]:List Str).Nodup by decide+kernel))) (λ_ _ _ _=>xt0) (λ_ _ _ _=>xe λ_=>(Yi hu (Zb 1) (Zb 0)))) Yn)))))) Q6))) (Zq (Wq (Th hv T.z_sorted (Zb 2))))))))
theorem P4{fd:cr}(F:Fun K "own_texts" "own_texts" B9 fx8 fd):
  FnOk P w K mg base Uo 1 fx8 fd ["work"] (Y5 K 1 Qy):=by
 refine L0 F Ms rfl Gc λ_ _ _ _ _ _ _ hr hu hv=>?_;exact(Zf (Z8 1 Ms.nd (Zfy T.z_dict (Yi hu (Zb 0) Zx))) (Zf (Mb 1 hu Co (Yi hu (Zb 0) Zx)) (Zq (Wq (Zb 1)))))
theorem V6{fd:cr}(F:Fun K "marks_of" "marks_of" C3 fx9 fd):
  FnOk P w K mg base Uo 1 fx9 fd ["texts","rules"] (Y5 K 2 Oj):=by
 refine L0 F Oy rfl Rr λ_ _ _ _ _ _ _ hr hu hv=>?_;exact(Zf (Z8 2 Oy.nd (Wu Z7)) (Zf (Wh b8 rfl (R8 T.z_enumerate (Zt (Zb 1) Z7)) (R6 rfl (Y1 (Zu 3 Oy.nd) (Y1 (Zu 4 Oy.nd) Bw))) (Zq (R7 (Zac (Zrn T.z_all (Bx rfl (Wn (N':=["field","texts",".acc"]) (src:=[.own,.cap 0,.acc]) (by rfl) (by rfl) (by rfl) (by rfl) (by rfl) (by rfl)) (Cv 2 (by rfl) (by rfl)) (by decide) (Qe (Zb 4)) (λ_ _ _ _=>xg λ_=>(Zu 0 (show(["field","texts",".acc"]:List Str).Nodup by decide+kernel))) (λ_ _ _ _=>xt0) (λ_ _ _ _=>xe λ_=>(Zlz hu (Zb 0) (Zb 1)))))) (Zq (Cw 2 (U8 (Zt (Zb 3) (Zt (Zad T.z_tuple (Bx rfl (Wn (N':=["field","texts",".acc"]) (src:=[.own,.cap 0,.acc]) (by rfl) (by rfl) (by rfl) (by rfl) (by rfl) (by rfl)) (Cv 2 (by rfl) (by rfl)) (by decide) (Qe (Zb 4)) (λ_ _ _ _=>xg λ_=>(Zu 0 (show(["field","texts",".acc"]:List Str).Nodup by decide+kernel))) (λ_ _ _ _=>xt0) (λ_ _ _ _=>xe λ_=>(Yi hu (Zb 1) (Zb 0))))) Z7))))) Q6))) (Zq (Wq (Zb 2)))))
theorem P5{fd:cr}(F:Fun K "lone_heap" "lone_heap" Ca fx10 fd){dx8:cr}(Vx8:FnOk P w K mg base Uo 1 fx8 dx8 ["work"] (Y5 K 1 Qy))(Wx8:Wp K dx8 ["work"] []){dx9:cr}(Vx9:FnOk P w K mg base Uo 1 fx9 dx9 ["texts","rules"] (Y5 K 2 Oj))(Wx9:Wp K dx9 ["texts","rules"] []):
  FnOk P w K mg base Uo 2 fx10 fd ["name","work","rules"] (Y5 K 3 Qz):=by
 refine L0 F Cj rfl Gd λ_ _ _ _ _ _ _ hr hu hv=>?_;exact(Zf (Z8 3 Cj.nd (Yo Vx8 (hr.mono (by decide)) T.m_8 T.k_8 Wx8 (Zm (Zb 1) Yn))) (Zf (K6 4 rfl (Wn (N':=["field","texts","name",".acc"]) (src:=[.own,.cap 3,.cap 0,.acc]) (by rfl) (by rfl) (by rfl) (by rfl) (by rfl) (by rfl)) (Cv 3 (by rfl) (by rfl)) (by decide) (Zf8 (Zb 3)) (λ_ _ _ _=>xg λ_=>(Zu 0 (show(["field","texts","name",".acc"]:List Str).Nodup by decide+kernel))) (λ_ _ _ _=>xt λ_=>(Tx hv (Zb 0) Co)) (λ_ _ _ _=>xe λ_=>(U8 (Zt (Zb 0) (Zt (Yi hu (Zb 1) (Zb 0)) (Zt (Wu (Zt (Zb 2) Z7)) Z7))))) Cj.nd) (Zq (Wq (U8 (Zt (Wu (Zt (Zb 0) Z7)) (Zt (Yo Vx9 (hr.mono (by decide)) T.m_9 T.k_9 Wx9 (Zm (Zb 3) (Zm (Zb 2) Yn))) (Zt (Zb 4) Z7))))))))
theorem Dm{fd:cr}(F:Fun K "pool_of" "pool_of" Rq fx11 fd){dx7:cr}(Vx7:FnOk P w K mg base Uo 2 fx7 dx7 ["heaps"] (Y5 K 1 Gb))(Wx7:Wp K dx7 ["heaps"] []){dx10:cr}(Vx10:FnOk P w K mg base Uo 2 fx10 dx10 ["name","work","rules"] (Y5 K 3 Qz))(Wx10:Wp K dx10 ["name","work","rules"] []):
  FnOk P w K mg base Uo 3 fx11 fd ["book","shelf","rules"] (Y5 K 3 Q0):=by
 refine L0 F Dl rfl Tn λ_ _ _ _ _ _ _ hr hu hv=>?_;exact(Zq (Wq (Yo Vx7 (hr.mono (by decide)) T.m_7 T.k_7 Wx7 (Zm (Bx rfl (Wn (N':=["key","rules","book","shelf",".acc"]) (src:=[.own,.cap 2,.cap 0,.cap 1,.acc]) (by rfl) (by rfl) (by rfl) (by rfl) (by rfl) (by rfl)) (Cv 4 (by rfl) (by rfl)) (by decide) (Zf8 (Zb 1)) (λ_ _ _ _=>xg λ_=>(Zu 0 (show(["key","rules","book","shelf",".acc"]:List Str).Nodup by decide+kernel))) (λ_ _ _ _=>xt0) (λ_ _ _ _=>xe λ_=>(Yo Vx10 (hr.mono (by decide)) T.m_10 T.k_10 Wx10 (Zm (U8 (Zt (Zb 2) (Zt (Zb 0) Z7))) (Zm (Yi hu (Zb 3) (Zb 0)) (Zm (Zb 1) Yn)))))) Yn))))
theorem P6{fd:cr}(F:Fun K "_law_mixed" "_law_mixed" Cb fx12 fd):
  FnOk P w K mg base Uo 1 fx12 fd ["_law_cell","_law_by"] (Y5 K 2 W4):=by
 refine L0 F Py rfl Ge λ_ _ _ _ _ _ _ hr hu hv=>?_;exact(Zq (Wq (J3 (M9 (J3 (Zb 0) Zx) (Zb 1)) Zx)))
theorem Iw{fd:cr}(F:Fun K "_law_cell_at" "_law_cell_at" Od fx13 fd):
  FnOk P w K mg base Uo 1 fx13 fd ["_law_script","_law_k"] (Y5 K 2 Z2):=by
 refine L0 F Iu rfl Jw λ_ _ _ _ _ _ _ hr hu hv=>?_;exact(Zf (R7 (Zuc (Zb 1) (Er T.z_len (Zb 0))) (Zq (Wq (Yi hu (Zb 0) (Zb 1)))) Q6) (Zq (Wq Zx)))
theorem P7{fd:cr}(F:Fun K "_law_marks" "_law_marks" Cc fx14 fd):
  FnOk P w K mg base Uo 1 fx14 fd ["_law_work","_law_rules_here"] (Y5 K 2 Uf):=by
 refine L0 F Wj rfl Gf λ_ _ _ _ _ _ _ hr hu hv=>?_;exact(Zf (Es (Zb 0) (R6 rfl (Y1 (Zu 2 Wj.nd) (Y1 (Zu 3 Wj.nd) Bw)))) (Zf (Z8 4 Wj.nd (Wu Z7)) (Zf (Wh b8 rfl (R8 T.z_enumerate (Zt (Zb 1) Z7)) (R6 rfl (Y1 (Zu 5 Wj.nd) (Y1 (Zu 6 Wj.nd) Bw))) (Zq (R7 (Pg (Ex hu Ft (Bx rfl (Wn (N':=["_law_field","_law_own",".acc"]) (src:=[.own,.cap 3,.acc]) (by rfl) (by rfl) (by rfl) (by rfl) (by rfl) (by rfl)) (Cv 2 (by rfl) (by rfl)) (by decide) (Qe (Zb 6)) (λ_ _ _ _=>xg λ_=>(Zu 0 (show(["_law_field","_law_own",".acc"]:List Str).Nodup by decide+kernel))) (λ_ _ _ _=>xt0) (λ_ _ _ _=>xe λ_=>(Zud (Va hv (Zb 0) Co) (Zrg (Zlz hu (Zb 0) (Zb 1)))))))) (Zf (Z8 7 Wj.nd (Wu Z7)) (Zf (Wh b8 rfl (Qe (Zb 6)) (Zu 8 Wj.nd) (Zq (Cw 7 (Yi hu (Wu (Zt (Hh hu (Zb 3) (Zt (Zb 8) Z7)) (Zt (Zb 2) Z7))) (Zfd T.z_int (Va hv (Zb 8) Co)))))) (Zq (Cw 4 (U8 (Zt (Zb 5) (Zt (Zad T.z_tuple (Zb 7)) Z7))))))) Q6))) (Zq (Wq (Zb 4))))))
theorem V7{fd:cr}(F:Fun K "_law_flat" "_law_flat" C4 fx15 fd):
  FnOk P w K mg base Uo 1 fx15 fd ["_law_lists"] (Y5 K 1 Wd):=by
 refine L0 F Gh rfl Rs λ_ _ _ _ _ _ _ hr hu hv=>?_;exact(Zf (Z8 1 Gh.nd (Wu Z7)) (Zf (Wh b8 rfl (Qe (Zb 0)) (Zu 2 Gh.nd) (Zq (Dc 1 (Zb 2)))) (Zq (Wq (Zb 1)))))
theorem V8{fd:cr}(F:Fun K "_law_told" "_law_told" C5 fx16 fd):
  FnOk P w K mg base Uo 1 fx16 fd ["_law_book","_law_shelf_here","_law_names_here"] (Y5 K 3 Ol):=by
 refine L0 F Q1 rfl Rt λ_ _ _ _ _ _ _ hr hu hv=>?_;exact(Zf (Z8 3 Q1.nd Zaj) (Zf (Wh b8 rfl (Qe (Zb 2)) (Zu 4 Q1.nd) (Zf (Es (Yi hu (Zb 1) (Yi hu (Zb 4) Zx)) (R6 rfl (Y1 (Zu 5 Q1.nd) (Y1 (Zu 6 Q1.nd) Bw)))) (Zf (Wh b8 rfl (Zf8 (Zb 6)) (Zu 7 Q1.nd) (Zq (R7 (Tx hv (Zb 7) Co) (Zq (Mb 3 hu (U8 (Zt (Zb 7) (Zt (Yi hu (Zb 6) (Zb 7)) Z7))) (Qv (Hh hu (Zb 3) (Zt (U8 (Zt (Zb 7) (Zt (Yi hu (Zb 6) (Zb 7)) Z7))) (Zt (Wu Z7) Z7))) (Wu (Zt (Zb 4) Z7))))) Q6))) (Zq (Mb 3 hu (U8 (Zt Co (Zt (Zb 5) Z7))) (Qv (Hh hu (Zb 3) (Zt (U8 (Zt Co (Zt (Zb 5) Z7))) (Zt (Wu Z7) Z7))) (Wu (Zt (Zb 4) Z7)))))))) (Zq (Wq (Bx rfl (Wn (N':=["_law_pair","_law_told_here",".acc"]) (src:=[.own,.cap 3,.acc]) (by rfl) (by rfl) (by rfl) (by rfl) (by rfl) (by rfl)) (Cv 2 (by rfl) (by rfl)) (by decide) (Qe (Zgj rfl hv T.z_sorted (Zb 3))) (λ_ _ _ _=>xg λ_=>(Zu 0 (show(["_law_pair","_law_told_here",".acc"]:List Str).Nodup by decide+kernel))) (λ_ _ _ _=>xt0) (λ_ _ _ _=>xe λ_=>(U8 (Zt (Yi hu (Zb 0) Zx) (Zt (Yi hu (Zb 0) Zx) (Zt (Th hv T.z_sorted (Yi hu (Zb 1) (Zb 0))) Z7))))))))))
theorem V9{fd:cr}(F:Fun K "_law_near" "_law_near" C6 fx17 fd):
  FnOk P w K mg base Uo 1 fx17 fd ["_law_name","_law_met","_law_marks_here"] (Y5 K 3 Jn):=by
 refine L0 F Gi rfl Ci λ_ _ _ _ _ _ _ hr hu hv=>?_;exact(Zf (Wh b8 rfl (Qe (Zb 1)) (Zu 3 Gi.nd) (Zq (Wh b8 rfl (Qe (Yi hu (Zb 2) (Zb 0))) (Zu 4 Gi.nd) (Zq (R7 (Zmd hv (Zb 4) (Yi hu (Zb 2) (Zb 3))) (Zq (Wq Ft)) Q6))))) (Zq (Wq Ft)))
theorem P8{fd:cr}(F:Fun K "_law_hangs" "_law_hangs" Cd fx18 fd){dx17:cr}(Vx17:FnOk P w K mg base Uo 1 fx17 dx17 ["_law_name","_law_met","_law_marks_here"] (Y5 K 3 Jn))(Wx17:Wp K dx17 ["_law_name","_law_met","_law_marks_here"] []):
  FnOk P w K mg base Uo 2 fx18 fd ["_law_names_here","_law_marks_here"] (Y5 K 2 Ug):=by
 refine L0 F Uw rfl Gg λ_ _ _ _ _ _ _ hr hu hv=>?_;exact(Zf (Z8 2 Uw.nd (Wu (Zt (Yi hu (Zb 0) Zx) Z7))) (Zf (Wh b8 rfl (Tw T.z_range (Er T.z_len (Zb 0))) (Zu 3 Uw.nd) (Zq (Wh b8 rfl (Qe (Zb 0)) (Zu 4 Uw.nd) (Zq (R7 (PW.pt (Zrf (Zhb hv (Zb 4) (Zb 2)) (Znu (Pg (Zac (Yo Vx17 (hr.mono (by decide)) T.m_17 T.k_17 Wx17 (Zm (Zb 4) (Zm (Zb 2) (Zm (Zb 1) Yn))))))))) (Zq (Cw 2 (Zb 4))) Q6))))) (Zq (Wq (Va hv (Er T.z_len (Zb 2)) (Er T.z_len (Zb 0)))))))
theorem Zo1{fd:cr}(F:Fun K "law" "law" Ce fx19 fd){dx0:cr}(Vx0:FnOk P w K mg base Uo 1 fx0 dx0 ["_law_number","_law_many"] (Y5 K 2 Y8))(Wx0:Wp K dx0 ["_law_number","_law_many"] []){dx2:cr}(Vx2:FnOk P w K mg base Uo 2 fx2 dx2 ["_law_fields","_law_cell"] (Y5 K 2 Ud))(Wx2:Wp K dx2 ["_law_fields","_law_cell"] []){dx3:cr}(Vx3:FnOk P w K mg base Uo 2 fx3 dx3 ["_law_keys","_law_fields","_law_cells","_law_wide"] (Y5 K 4 Ue))(Wx3:Wp K dx3 ["_law_keys","_law_fields","_law_cells","_law_wide"] []){dx11:cr}(Vx11:FnOk P w K mg base Uo 3 fx11 dx11 ["book","shelf","rules"] (Y5 K 3 Q0))(Wx11:Wp K dx11 ["book","shelf","rules"] []){dx12:cr}(Vx12:FnOk P w K mg base Uo 1 fx12 dx12 ["_law_cell","_law_by"] (Y5 K 2 W4))(Wx12:Wp K dx12 ["_law_cell","_law_by"] []){dx13:cr}(Vx13:FnOk P w K mg base Uo 1 fx13 dx13 ["_law_script","_law_k"] (Y5 K 2 Z2))(Wx13:Wp K dx13 ["_law_script","_law_k"] []){dx14:cr}(Vx14:FnOk P w K mg base Uo 1 fx14 dx14 ["_law_work","_law_rules_here"] (Y5 K 2 Uf))(Wx14:Wp K dx14 ["_law_work","_law_rules_here"] []){dx15:cr}(Vx15:FnOk P w K mg base Uo 1 fx15 dx15 ["_law_lists"] (Y5 K 1 Wd))(Wx15:Wp K dx15 ["_law_lists"] []){dx16:cr}(Vx16:FnOk P w K mg base Uo 1 fx16 dx16 ["_law_book","_law_shelf_here","_law_names_here"] (Y5 K 3 Ol))(Wx16:Wp K dx16 ["_law_book","_law_shelf_here","_law_names_here"] []){dx18:cr}(Vx18:FnOk P w K mg base Uo 2 fx18 dx18 ["_law_names_here","_law_marks_here"] (Y5 K 2 Ug))(Wx18:Wp K dx18 ["_law_names_here","_law_marks_here"] []):
  FnOk P w K mg base Uo 4 fx19 fd ["_law_script"] (Y5 K 1 Mr):=by
 refine L0 F Ws rfl Zhl λ_ _ _ _ _ _ _ hr hu hv=>?_;exact(Zf (Z8 1 Ws.nd (Zue (Zb 0) (Zfc Zx) (Zfc Zx))) (Zf (Z8 2 Ws.nd (Yo Vx0 (hr.mono (by decide)) T.m_0 T.k_0 Wx0 (Zm (Yo Vx12 (hr.mono (by decide)) T.m_12 T.k_12 Wx12 (Zm (Yo Vx13 (hr.mono (by decide)) T.m_13 T.k_13 Wx13 (Zm (Zb 0) (Zm Zx Yn))) (Zm Zx Yn))) (Zm (Er T.z_len (Zb 1)) Yn)))) (Zf (Z8 3 Ws.nd (Yo Vx0 (hr.mono (by decide)) T.m_0 T.k_0 Wx0 (Zm (Yo Vx12 (hr.mono (by decide)) T.m_12 T.k_12 Wx12 (Zm (Yo Vx13 (hr.mono (by decide)) T.m_13 T.k_13 Wx13 (Zm (Zb 0) (Zm Zx Yn))) (Zm Zx Yn))) (Zm Zx Yn)))) (Zf (Z8 4 Ws.nd (Yi hu (Yo Vx0 (hr.mono (by decide)) T.m_0 T.k_0 Wx0 (Zm (Yo Vx12 (hr.mono (by decide)) T.m_12 T.k_12 Wx12 (Zm (Yo Vx13 (hr.mono (by decide)) T.m_13 T.k_13 Wx13 (Zm (Zb 0) (Zm Zx Yn))) (Zm Zx Yn))) (Zm Zx Yn))) Zx)) (Zf (Z8 5 Ws.nd (Yo Vx2 (hr.mono (by decide)) T.m_2 T.k_2 Wx2 (Zm (Zb 3) (Zm (Yo Vx13 (hr.mono (by decide)) T.m_13 T.k_13 Wx13 (Zm (Zb 0) (Zm Zx Yn))) Yn)))) (Zf (Z8 6 Ws.nd (Yo Vx3 (hr.mono (by decide)) T.m_3 T.k_3 Wx3 (Zm (Zb 2) (Zm (Zb 3) (Zm (Zb 1) (Zm (Qv Zx (J3 (Yo Vx13 (hr.mono (by decide)) T.m_13 T.k_13 Wx13 (Zm (Zb 0) (Zm Zx Yn))) Zx)) Yn)))))) (Zf (Z8 7 Ws.nd Zaj) (Zf (Wh b8 rfl (Qe (Zb 2)) (Zu 8 Ws.nd) (Zq (Mb 7 hu (U8 (Zt (Zb 4) (Zt (Zb 8) Z7))) (Yo Vx14 (hr.mono (by decide)) T.m_14 T.k_14 Wx14 (Zm (Yi hu (Zb 6) (Zb 8)) (Zm (Zb 5) Yn)))))) (Zf (Z8 9 Ws.nd (Yo Vx11 (hr.mono (by decide)) T.m_11 T.k_11 Wx11 (Zm (Zb 4) (Zm (Zb 6) (Zm (Zb 5) Yn))))) (Zf (R7 (PW.pt (Zjh (Zlv (Zac (Zrh T.z_isinstance T.z_list boot_list (Zfe _) (Zb 9)))) (Zfb (Tx hv (Zb 9) (Th hv T.z_sorted (Zb 9)))))) (Zq (Wq Ft)) Q6) (Zf (R7 (Pg (Tx hv (Th hv T.z_sorted (Yo Vx15 (hr.mono (by decide)) T.m_15 T.k_15 Wx15 (Zm (Bx rfl (Wn (N':=["_law_heap",".acc"]) (src:=[.own,.acc]) (by rfl) (by rfl) (by rfl) (by rfl) (by rfl) (by rfl)) (Cv 1 (by rfl) (by rfl)) (by decide) (Qe (Zb 9)) (λ_ _ _ _=>xg λ_=>(Zu 0 (show(["_law_heap",".acc"]:List Str).Nodup by decide+kernel))) (λ_ _ _ _=>xt0) (λ_ _ _ _=>xe λ_=>(Yi hu (Zb 0) Zx))) Yn))) (Zgj rfl hv T.z_sorted (Zb 7)))) (Zq (Wq Ft)) Q6) (Zf (Z8 10 Ws.nd (Wu Z7)) (Zf (Wh b8 rfl (Qe (Zb 9)) (Zu 11 Ws.nd) (Zf (Es (Zb 11) (R6 rfl (Y1 (Zu 12 Ws.nd) (Y1 (Zu 13 Ws.nd) (Y1 (Zu 14 Ws.nd) Bw))))) (Zf (Z8 15 Ws.nd (Pr rfl hv T.z_sorted T.z_set (Yo Vx15 (hr.mono (by decide)) T.m_15 T.k_15 Wx15 (Zm (Bx rfl (Wn (N':=["_law_name","_law_marks_here",".acc"]) (src:=[.own,.cap 7,.acc]) (by rfl) (by rfl) (by rfl) (by rfl) (by rfl) (by rfl)) (Cv 2 (by rfl) (by rfl)) (by decide) (Qe (Zb 12)) (λ_ _ _ _=>xg λ_=>(Zu 0 (show(["_law_name","_law_marks_here",".acc"]:List Str).Nodup by decide+kernel))) (λ_ _ _ _=>xt0) (λ_ _ _ _=>xe λ_=>(Yi hu (Zb 1) (Zb 0)))) Yn)))) (Zf (R7 (PW.pt (Zjh (Tx hv (Zb 12) (Th hv T.z_sorted (Zb 12))) (Zjh (Tx hv (Zb 13) (Zb 15)) (Zfb (Tx hv (Zb 14) (Yo Vx16 (hr.mono (by decide)) T.m_16 T.k_16 Wx16 (Zm (Zb 4) (Zm (Zb 6) (Zm (Zb 12) Yn))))))))) (Zq (Wq Ft)) Q6) (Zf (R7 (PW.pt (Zjh (Zlv (Zac (Yo Vx18 (hr.mono (by decide)) T.m_18 T.k_18 Wx18 (Zm (Zb 12) (Zm (Zb 7) Yn))))) (Zfb (Pg (Tx hv (Bx rfl (Wn (N':=["_law_mark","_law_seen",".acc"]) (src:=[.own,.cap 10,.acc]) (by rfl) (by rfl) (by rfl) (by rfl) (by rfl) (by rfl)) (Cv 2 (by rfl) (by rfl)) (by decide) (Qe (Zb 13)) (λ_ _ _ _=>xg λ_=>(Zu 0 (show(["_law_mark","_law_seen",".acc"]:List Str).Nodup by decide+kernel))) (λ_ _ _ _=>xt λ_=>(Zmd hv (Zb 0) (Zb 1))) (λ_ _ _ _=>xe λ_=>(Zb 0))) (Wu Z7)))))) (Zq (Wq Ft)) Q6) (Zq (Z8 10 Ws.nd (Qv (Zb 10) (Zb 13))))))))) (Zf (Z8 16 Ws.nd Aj) (Zf (Wh b8 rfl (Zsl T.z_reversed (Zt (Zb 2) Z7)) (Zu 8 Ws.nd) (Zq (Mb 16 hu (Zb 8) (Yi hu (Zb 6) (Zb 8))))) (Zq (Wq (Va hv (Yo Vx11 (hr.mono (by decide)) T.m_11 T.k_11 Wx11 (Zm (Zb 4) (Zm (Zb 16) (Zm (Zb 5) Yn)))) (Zb 9)))))))))))))))))))
end
theorem Zo2{l:PySem.W.OpenLaw}{w:c6}{K:ah}{h:f8}{mg:Str->Option aj}{fa fx0 fx1 fx2 fx3 fx4 fx5 fx6 fx7 fx8 fx9 fx10 fx11 fx12 fx13 fx14 fx15 fx16 fx17 fx18 fx19:au}(X:K.In h)(G:h.Ns b5 mg)(hfa:mg "law"=aA (.ref fa))
  {odx19 anx19:Option au} {slx19:Array (Option aj)} {ocx19 kVx19 dcx19 pmx19 cdx19 ctx19:aj}
  (ax0:cj K b5 "_law_names"=aA (aA (.ref fx0))) (Fx0:∃fd,Fun K "_law_names" "_law_names" B6 fx0 fd) (kx0:bn K (.ref fx0)=aC)
  (ax1:cj K b5 "_law_numbers"=aA (aA (.ref fx1))) (Fx1:∃fd,Fun K "_law_numbers" "_law_numbers" Oc fx1 fd) (kx1:bn K (.ref fx1)=aC)
  (ax2:cj K b5 "_law_rules"=aA (aA (.ref fx2))) (Fx2:∃fd,Fun K "_law_rules" "_law_rules" B7 fx2 fd) (kx2:bn K (.ref fx2)=aC)
  (ax3:cj K b5 "_law_shelf"=aA (aA (.ref fx3))) (Fx3:∃fd,Fun K "_law_shelf" "_law_shelf" B8 fx3 fd) (kx3:bn K (.ref fx3)=aC)
  (ax4:cj K b5 "holders_of"=aA (aA (.ref fx4))) (Fx4:∃fd,Fun K "holders_of" "holders_of" Ba fx4 fd) (kx4:bn K (.ref fx4)=aC)
  (ax5:cj K b5 "tied"=aA (aA (.ref fx5))) (Fx5:∃fd,Fun K "tied" "tied" Px fx5 fd) (kx5:bn K (.ref fx5)=aC)
  (ax6:cj K b5 "join_heaps"=aA (aA (.ref fx6))) (Fx6:∃fd,Fun K "join_heaps" "join_heaps" Bb fx6 fd) (kx6:bn K (.ref fx6)=aC)
  (ax7:cj K b5 "joined"=aA (aA (.ref fx7))) (Fx7:∃fd,Fun K "joined" "joined" Tm fx7 fd) (kx7:bn K (.ref fx7)=aC)
  (ax8:cj K b5 "own_texts"=aA (aA (.ref fx8))) (Fx8:∃fd,Fun K "own_texts" "own_texts" B9 fx8 fd) (kx8:bn K (.ref fx8)=aC)
  (ax9:cj K b5 "marks_of"=aA (aA (.ref fx9))) (Fx9:∃fd,Fun K "marks_of" "marks_of" C3 fx9 fd) (kx9:bn K (.ref fx9)=aC)
  (ax10:cj K b5 "lone_heap"=aA (aA (.ref fx10))) (Fx10:∃fd,Fun K "lone_heap" "lone_heap" Ca fx10 fd) (kx10:bn K (.ref fx10)=aC)
  (ax11:cj K b5 "pool_of"=aA (aA (.ref fx11))) (Fx11:∃fd,Fun K "pool_of" "pool_of" Rq fx11 fd) (kx11:bn K (.ref fx11)=aC)
  (ax12:cj K b5 "_law_mixed"=aA (aA (.ref fx12))) (Fx12:∃fd,Fun K "_law_mixed" "_law_mixed" Cb fx12 fd) (kx12:bn K (.ref fx12)=aC)
  (ax13:cj K b5 "_law_cell_at"=aA (aA (.ref fx13))) (Fx13:∃fd,Fun K "_law_cell_at" "_law_cell_at" Od fx13 fd) (kx13:bn K (.ref fx13)=aC)
  (ax14:cj K b5 "_law_marks"=aA (aA (.ref fx14))) (Fx14:∃fd,Fun K "_law_marks" "_law_marks" Cc fx14 fd) (kx14:bn K (.ref fx14)=aC)
  (ax15:cj K b5 "_law_flat"=aA (aA (.ref fx15))) (Fx15:∃fd,Fun K "_law_flat" "_law_flat" C4 fx15 fd) (kx15:bn K (.ref fx15)=aC)
  (ax16:cj K b5 "_law_told"=aA (aA (.ref fx16))) (Fx16:∃fd,Fun K "_law_told" "_law_told" C5 fx16 fd) (kx16:bn K (.ref fx16)=aC)
  (ax17:cj K b5 "_law_near"=aA (aA (.ref fx17))) (Fx17:∃fd,Fun K "_law_near" "_law_near" C6 fx17 fd) (kx17:bn K (.ref fx17)=aC)
  (ax18:cj K b5 "_law_hangs"=aA (aA (.ref fx18))) (Fx18:∃fd,Fun K "_law_hangs" "_law_hangs" Cd fx18 fd) (kx18:bn K (.ref fx18)=aC)
  (ax19:cj K b5 "law"=aA (aA (.ref fx19))) (lx19:K.lookup fx19=aA ⟨ocx19,odx19,.func (PySem.W.fnOf "law" "law" (Gq Ce) (Oq Ce) (Zw Ce) .none kVx19 dcx19 pmx19 anx19 cdx19 ctx19),slx19⟩) (cx19:PySem.W.codeIn K cdx19 "law"=aC) (kx19:bn K (.ref fx19)=aC)
  (zall:cj K b5 "all"=aA aB)
  (zdict:cj K b5 "dict"=aA aB)
  (zenumerate:cj K b5 "enumerate"=aA aB)
  (zint:cj K b5 "int"=aA aB)
  (zisinstance:cj K b5 "isinstance"=aA aB)
  (zlen:cj K b5 "len"=aA aB)
  (zlist:cj K b5 "list"=aA aB)
  (zrange:cj K b5 "range"=aA aB)
  (zreversed:cj K b5 "reversed"=aA aB)
  (zset:cj K b5 "set"=aA aB)
  (zsorted:cj K b5 "sorted"=aA aB)
  (zstr:cj K b5 "str"=aA aB)
  (ztuple:cj K b5 "tuple"=aA aB)
  :∃fd:cr,(∀(s:aq) (v:aj),BindsTo s fd ⟨[v],[]⟩ [("_law_script",v)])/\∀base:f8,K.In base->base.Ns b5 mg->FnOk l.prog w K mg base Uo 4 fa fd ["_law_script"] (Y5 K 1 Mr):=by
 have e:=hfa.symm.trans (dr X G ax19);cases e;have T:Txt K mg fx0 fx1 fx2 fx3 fx4 fx5 fx6 fx7 fx8 fx9 fx10 fx11 fx12 fx13 fx14 fx15 fx16 fx17 fx18 _:=⟨d6 X G zall,d6 X G zdict,d6 X G zenumerate,d6 X G zint,d6 X G zisinstance,d6 X G zlen,d6 X G zlist,d6 X G zrange,d6 X G zreversed,d6 X G zset,d6 X G zsorted,d6 X G zstr,d6 X G ztuple,dr X G ax0,kx0,dr X G ax1,kx1,dr X G ax2,kx2,dr X G ax3,kx3,dr X G ax4,kx4,dr X G ax5,kx5,dr X G ax6,kx6,dr X G ax7,kx7,dr X G ax8,kx8,dr X G ax9,kx9,dr X G ax10,kx10,dr X G ax11,kx11,dr X G ax12,kx12,dr X G ax13,kx13,dr X G ax14,kx14,dr X G ax15,kx15,dr X G ax16,kx16,dr X G ax17,kx17,dr X G ax18,kx18,dr X G ax19,kx19⟩
 obtain⟨_,Fx0⟩:=Fx0;obtain⟨_,Fx1⟩:=Fx1;obtain⟨_,Fx2⟩:=Fx2;obtain⟨_,Fx3⟩:=Fx3;obtain⟨_,Fx4⟩:=Fx4;obtain⟨_,Fx5⟩:=Fx5;obtain⟨_,Fx6⟩:=Fx6;obtain⟨_,Fx7⟩:=Fx7;obtain⟨_,Fx8⟩:=Fx8;obtain⟨_,Fx9⟩:=Fx9;obtain⟨_,Fx10⟩:=Fx10;obtain⟨_,Fx11⟩:=Fx11;obtain⟨_,Fx12⟩:=Fx12;obtain⟨_,Fx13⟩:=Fx13;obtain⟨_,Fx14⟩:=Fx14;obtain⟨_,Fx15⟩:=Fx15;obtain⟨_,Fx16⟩:=Fx16;obtain⟨_,Fx17⟩:=Fx17;obtain⟨_,Fx18⟩:=Fx18;have Fx19:=Wm (st:=Ce) lx19 cx19 kx19;have bx0:=Fx0.binds (ps:=["_law_number","_law_many"]) λ_ _ _ _ _ _ us hl=>of2 (λ_ _=>rfl) us hl;have bx1:=Fx1.binds (ps:=["_law_cell","_law_many"]) λ_ _ _ _ _ _ us hl=>of2 (λ_ _=>rfl) us hl;have bx2:=Fx2.binds (ps:=["_law_fields","_law_cell"]) λ_ _ _ _ _ _ us hl=>of2 (λ_ _=>rfl) us hl;have bx3:=Fx3.binds (ps:=["_law_keys","_law_fields","_law_cells","_law_wide"]) λ_ _ _ _ _ _ us hl=>of4 (λ_ _ _ _=>rfl) us hl;have bx4:=Fx4.binds (ps:=["heaps"]) λ_ _ _ _ _ _ us hl=>of1 (λ_=>rfl) us hl;have bx5:=Fx5.binds (ps:=["heaps","holders","place"]) λ_ _ _ _ _ _ us hl=>of3 (λ_ _ _=>rfl) us hl;have bx6:=Fx6.binds (ps:=["heaps"]) λ_ _ _ _ _ _ us hl=>of1 (λ_=>rfl) us hl;have bx7:=Fx7.binds (ps:=["heaps"]) λ_ _ _ _ _ _ us hl=>of1 (λ_=>rfl) us hl;have bx8:=Fx8.binds (ps:=["work"]) λ_ _ _ _ _ _ us hl=>of1 (λ_=>rfl) us hl;have bx9:=Fx9.binds (ps:=["texts","rules"]) λ_ _ _ _ _ _ us hl=>of2 (λ_ _=>rfl) us hl;have bx10:=Fx10.binds (ps:=["name","work","rules"]) λ_ _ _ _ _ _ us hl=>of3 (λ_ _ _=>rfl) us hl;have bx11:=Fx11.binds (ps:=["book","shelf","rules"]) λ_ _ _ _ _ _ us hl=>of3 (λ_ _ _=>rfl) us hl;have bx12:=Fx12.binds (ps:=["_law_cell","_law_by"]) λ_ _ _ _ _ _ us hl=>of2 (λ_ _=>rfl) us hl;have bx13:=Fx13.binds (ps:=["_law_script","_law_k"]) λ_ _ _ _ _ _ us hl=>of2 (λ_ _=>rfl) us hl;have bx14:=Fx14.binds (ps:=["_law_work","_law_rules_here"]) λ_ _ _ _ _ _ us hl=>of2 (λ_ _=>rfl) us hl;have bx15:=Fx15.binds (ps:=["_law_lists"]) λ_ _ _ _ _ _ us hl=>of1 (λ_=>rfl) us hl;have bx16:=Fx16.binds (ps:=["_law_book","_law_shelf_here","_law_names_here"]) λ_ _ _ _ _ _ us hl=>of3 (λ_ _ _=>rfl) us hl;have bx17:=Fx17.binds (ps:=["_law_name","_law_met","_law_marks_here"]) λ_ _ _ _ _ _ us hl=>of3 (λ_ _ _=>rfl) us hl;have bx18:=Fx18.binds (ps:=["_law_names_here","_law_marks_here"]) λ_ _ _ _ _ _ us hl=>of2 (λ_ _=>rfl) us hl;refine⟨PySem.W.fnOf "law" "law" (Gq Ce) (Oq Ce) (Zw Ce) .none kVx19 dcx19 pmx19 anx19 cdx19 ctx19,λs v=>.of_eq rfl,λbase kb nb=>?_⟩;have Gx0:=Pz (P:=l.prog) (w:=w) (base:=base) T Fx0;have Gx1:=Iv (P:=l.prog) (w:=w) (base:=base) T Fx1;have Gx2:=P0 (P:=l.prog) (w:=w) (base:=base) T Fx2 Gx1 bx1;have Gx3:=P3 (P:=l.prog) (w:=w) (base:=base) T Fx3 Gx1 bx1;have Gx4:=Kc (P:=l.prog) (w:=w) (base:=base) T Fx4;have Gx5:=Zkw (P:=l.prog) (w:=w) (base:=base) T Fx5;have Gx6:=Kd (P:=l.prog) (w:=w) (base:=base) T Fx6;have Gx7:=Zc8 (P:=l.prog) (w:=w) (base:=base) T Fx7 Gx4 bx4 Gx5 bx5 Gx6 bx6;have Gx8:=P4 (P:=l.prog) (w:=w) (base:=base) T Fx8;have Gx9:=V6 (P:=l.prog) (w:=w) (base:=base) T Fx9;have Gx10:=P5 (P:=l.prog) (w:=w) (base:=base) T Fx10 Gx8 bx8 Gx9 bx9;have Gx11:=Dm (P:=l.prog) (w:=w) (base:=base) T Fx11 Gx7 bx7 Gx10 bx10;have Gx12:=P6 (P:=l.prog) (w:=w) (base:=base) T Fx12;have Gx13:=Iw (P:=l.prog) (w:=w) (base:=base) T Fx13;have Gx14:=P7 (P:=l.prog) (w:=w) (base:=base) T Fx14;have Gx15:=V7 (P:=l.prog) (w:=w) (base:=base) T Fx15;have Gx16:=V8 (P:=l.prog) (w:=w) (base:=base) T Fx16;have Gx17:=V9 (P:=l.prog) (w:=w) (base:=base) T Fx17;have Gx18:=P8 (P:=l.prog) (w:=w) (base:=base) T Fx18 Gx17 bx17;exact Zo1 T Fx19 Gx0 bx0 Gx2 bx2 Gx3 bx3 Gx11 bx11 Gx12 bx12 Gx13 bx13 Gx14 bx14 Gx15 bx15 Gx16 bx16 Gx18 bx18
theorem Zo3{K:ah}{H:Hp}{a:au}{ns:List Int}(hn:Mr [.lst (ns.map D.int)]=aA (.fz (.bl aC)))(hO:Zes H)(hS:U0 K H a (ns.map V.int)):Y5 K 1 Mr [.ref a] H (λv _=>v= .bl aC) λ_ _ _=>False:=by refine⟨H,[.lst (ns.map D.int)],.fz (.bl aC),Zl.refl H,.cons (.lst hS (.inr λd hd=>let⟨i,_,e⟩:=av.mp hd;⟨i,e.symm⟩) (S5 ns)) .nil,rfl,hn,λv H' F' ms _ _ _ _ sh _ _=>?_⟩;cases J2 sh;rfl
theorem Zuw{l:PySem.W.OpenLaw}{q:bv}{loose:List Str}{XP:(Str->Option aj)->f8->Prop}{YP:c6->f8->Prop}{d:DefRec}{K:Params->ah}(hn:l.most=aA 63)(hdf:d.params.defaults=[])
  (hY:∀(w:c6) (h:f8),YP w h->(K w.params).In h)
  (F:∀(w:c6) (mg:Str->Option aj) (fa:au) (h:f8),(K w.params).In h->h.Ns b5 mg->mg d.name=aA (.ref fa)->
   ∃fd:cr,(∀(s:aq) (u:aj),BindsTo s fd ⟨[u],[]⟩ [("_law_script",u)])/\∀base:f8,(K w.params).In base->base.Ns b5 mg->FnOk l.prog w (K w.params) mg base Uo 4 fa fd ["_law_script"] (Y5 (K w.params) 1 Mr))
  (hlaw:∀ns:List Int,ns.length<=63->Mr [.lst (ns.map D.int)]=aA (.fz (.bl aC))):
  PySem.W.WalkO q loose XP YP l.row.toRowW d [] (λf vs=>PySem.call f vs):=
 L2.Zeu (n:=63) (k:=4) (x:="_law_script") (CX:=Uo) (sp:=λK=>Y5 K 1 Mr) hn (by decide) hdf ⟨rfl,by decide,by decide⟩ hY F (λ_ _ _ ns hl hO hS=>Zo3 (hlaw ns hl) hO hS) λ_ _ _ _ z=>z
end Gen
namespace My
open DL PySem
noncomputable abbrev Bk:Str:="abcdefghjlmpqrstuvwxyz"
theorem Zhm:Bk.cps.toList.length=22:=by decide+kernel
theorem L1:Bk.length<=PySem.sizeLine:=by decide+kernel
noncomputable def LC(j:Nat):Nat:=Bk.cps.toList.getD j 0
theorem Zo4:∀i<22,∀j<22,LC i=LC j->i=j:=by decide+kernel
theorem Zo5:∀i<22,LC i≠105/\LC i≠110/\LC i≠111:=by decide+kernel
theorem Zsq(i:Int):L2.atI Bk.cps.toList (i % 22)=aA (LC (i % 22).toNat):=by
 have h0:0<=i % 22:=gb _ (by decide);have h1:i % 22<22:=d7 _ (by decide);obtain⟨j,hj⟩:=Int.eq_ofNat_of_zero_le h0;rw[hj];have hjl:j<Bk.cps.toList.length:=by rw[Zhm];omega
 refine Ii _ _ _ ?_;unfold LC;rw[bg,show((j:Int)).toNat=j by omega,aw hjl];rfl
noncomputable def sgn(x:Int)(at':Int)(t:Nat)(k:Nat):Nat:=LC ((x / ((k:Int)+2)+(t:Int)*(if(k:Int)=at' then 1 else 0)) % 22).toNat
noncomputable def Si(x at':Int)(size t:Nat):List Nat:=(cz size).map (sgn x at' t)
theorem Zc9(a1 a3 a5:Option SV)(x at':Int)(t k:Nat)(hk:k<=100)(w:List Nat)(hw:w.length<=1000)(x9:Option SV):
  ∃y9,Gen.Wl [aA (.fz (.int x)),a1,aA (.fz (.str Bk)),a3,aA (.fz (.int at')),a5,aA (.fz (.int (t:Int))),aA (.fz (.str (S w))),aA (.fz (.int (k:Int))),x9]=aA (.nx [aA (.fz (.int x)),a1,aA (.fz (.str Bk)),a3,aA (.fz (.int at')),a5,aA (.fz (.int (t:Int))),aA (.fz (.str (S (w++[sgn x at' t k])))),aA (.fz (.int (k:Int))),y9]):=by
 have go:∀ki ti:Int,0<=ki->ki<=100->∀b:Int,(b=0\/b=1)->(if ki=at' then(1:Int)else 0)=b->∀ch,L2.atI Bk.cps.toList ((x / (ki+2)+ti*b) % 22)=aA ch->
   Gen.Wl [aA (.fz (.int x)),a1,aA (.fz (.str Bk)),a3,aA (.fz (.int at')),a5,aA (.fz (.int ti)),aA (.fz (.str (S w))),aA (.fz (.int ki)),x9]=aA (.nx [aA (.fz (.int x)),a1,aA (.fz (.str Bk)),a3,aA (.fz (.int at')),a5,aA (.fz (.int ti)),aA (.fz (.str (S (w++[ch])))),aA (.fz (.int ki)),aA (.fz (.int (ti*b)))]):=by
  intro ki ti h0 h1 b hb hif ch hch;have hm:=Hm (i:=ti) (j:=b) (by omega);have d1:0<ki+2:=by omega
  have d2:ki+2<1073741824:=by omega
  have z:(S w).length+(⟨#[ch]⟩:Str).length<=PySem.sizeLine:=Qo (by rw[Zme w];show w.length+1<=_;omega);have ea:S w++(⟨#[ch]⟩:Str)=S (w++[ch]):=Zsm w [ch];by_cases hk:ki=at'
  ·rw[if_pos hk]at hif;subst hif;unfold Gen.Wl;simp[hk]at hm hch d1 d2⊢;simp[hm,hch,d1,d2,L1,z,ea]
  ·rw[if_neg hk]at hif;subst hif;unfold Gen.Wl;simp[hk]at hm hch⊢;simp[hm,hch,d1,d2,L1,z,ea]
 refine⟨_,go (k:Int) (t:Int) (by omega) (by omega) (if(k:Int)=at' then 1 else 0) (by split<;> simp) rfl (sgn x at' t k) (Zsq _)⟩
theorem Zda(a1 a3 a5:Option SV)(x at':Int)(t size:Nat)(hs:size<=100)(x8 x9:Option SV):
  ∃y8 y9,Z0 (Zd 8) Gen.Wl (G3 0 size) [aA (.fz (.int x)),a1,aA (.fz (.str Bk)),a3,aA (.fz (.int at')),a5,aA (.fz (.int (t:Int))),aA (.fz (.str (S []))),x8,x9]=aA (.nx [aA (.fz (.int x)),a1,aA (.fz (.str Bk)),a3,aA (.fz (.int at')),a5,aA (.fz (.int (t:Int))),aA (.fz (.str (S (Si x at' size t)))),y8,y9]):=by
 obtain⟨δ',e,y8,y9,hy⟩:=Gv (tg:=Zd 8) (body:=Gen.Wl) (P:=λi δ=>∃y8 y9,δ=[aA (.fz (.int x)),a1,aA (.fz (.str Bk)),a3,aA (.fz (.int at')),a5,aA (.fz (.int (t:Int))),aA (.fz (.str (S (Si x at' i t)))),y8,y9]) size 0 [aA (.fz (.int x)),a1,aA (.fz (.str Bk)),a3,aA (.fz (.int at')),a5,aA (.fz (.int (t:Int))),aA (.fz (.str (S []))),x8,x9] ⟨x8,x9,rfl⟩ (λi _ hi δ ⟨y8,y9,hy⟩=>by
  subst hy;obtain⟨z9,e⟩:=Zc9 a1 a3 a5 x at' t i (by omega) (Si x at' i t) (by unfold Si;simp;omega) y9;refine⟨[aA (.fz (.int x)),a1,aA (.fz (.str Bk)),a3,aA (.fz (.int at')),a5,aA (.fz (.int (t:Int))),aA (.fz (.str (S (Si x at' i t)))),aA (.fz (.int (i:Int))),y9],_,by simp,e,aA (.fz (.int (i:Int))),z9,?_⟩;have:Si x at' (i+1) t=Si x at' i t++[sgn x at' t i]:=by unfold Si;rw[List.range_succ,b4];rfl
  rw[this])
 subst hy;rw[Nat.zero_add]at e;exact⟨y8,y9,e⟩
noncomputable def Qf(x at':Int)(size m:Nat):List Str:=(cz m).map λt=>S (Si x at' size t)
theorem Dn(a1:Option SV)(x at':Int)(size:Nat)(hs:size<=8)(m:Nat)(hm:m<=100):
  ∃δ,Z0 (Zd 6) Gen.Jr (G3 0 m) [aA (.fz (.int x)),a1,aA (.fz (.str Bk)),aA (.fz (.int (size:Int))),aA (.fz (.int at')),aA (.ol []),aB,aB,aB,aB]=aA (.nx δ)/\δ[5]? =aA (aA (.ol ((Qf x at' size m).map D.str))):=by
 obtain⟨δ',e,y6,y7,y8,y9,hy⟩:=Gv (tg:=Zd 6) (body:=Gen.Jr) (P:=λi δ=>∃y6 y7 y8 y9,δ=[aA (.fz (.int x)),a1,aA (.fz (.str Bk)),aA (.fz (.int (size:Int))),aA (.fz (.int at')),aA (.ol ((Qf x at' size i).map D.str)),y6,y7,y8,y9]) m 0 [aA (.fz (.int x)),a1,aA (.fz (.str Bk)),aA (.fz (.int (size:Int))),aA (.fz (.int at')),aA (.ol []),aB,aB,aB,aB] ⟨aB,aB,aB,aB,rfl⟩ (λi _ hi δ ⟨y6,y7,y8,y9,hy⟩=>by
  subst hy;obtain⟨z8,z9,e⟩:=Zda a1 (aA (.fz (.int (size:Int)))) (aA (.ol ((Qf x at' size i).map D.str))) x at' i size (by omega) y8 y9;have g1:En (size:Int):=U4 (by omega);have et:((size:Int)).toNat=size:=by omega
  have z:(Qf x at' size i).length<PySem.sizeLine:=Z4 (by unfold Qf;simp;omega);have he:gh ""=S []:=rfl;have hr:Qf x at' size (i+1)=Qf x at' size i++[S (Si x at' size i)]:=by unfold Qf;rw[List.range_succ,b4];rfl
  refine⟨[aA (.fz (.int x)),a1,aA (.fz (.str Bk)),aA (.fz (.int (size:Int))),aA (.fz (.int at')),aA (.ol ((Qf x at' size i).map D.str)),aA (.fz (.int (i:Int))),y7,y8,y9],[aA (.fz (.int x)),a1,aA (.fz (.str Bk)),aA (.fz (.int (size:Int))),aA (.fz (.int at')),aA (.ol ((Qf x at' size (i+1)).map D.str)),aA (.fz (.int (i:Int))),aA (.fz (.str (S (Si x at' size i)))),z8,z9],by simp,?_,_,_,_,_,rfl⟩;rw[hr];generalize Qf x at' size i=NL at*;unfold Gen.Jr;simp[-Z0,he,g1,et,Qw,e,z])
 subst hy;rw[Nat.zero_add]at e;exact⟨_,e,rfl⟩
structure Nam(w:Str):Prop where
 one:1<=w.length
 most:w.length<=8
 no:∀c∈w.cps.toList,c≠105/\c≠110/\c≠111
theorem Ix(x:Int)(h0:0<=x)(m:Nat)(hm:m<=20):∃ws:List Str,Gen.Y8 [.int x,.int (m:Int)]=aA (.ol (ws.map D.str))/\ws.length=m/\ws.Nodup/\∀w∈ws,Nam w:=by
 have s0:0<=x % 8:=gb _ (by decide);have s1:x % 8<8:=d7 _ (by decide);obtain⟨size,hs⟩:∃n:Nat,(n:Int)=1+x % 8:=⟨(1+x % 8).toNat,by omega⟩
 have hs1:1<=size:=by omega
 have hs8:size<=8:=by omega
 have p0:(0:Int)<(size:Int):=by omega
 have a0:0<=x / 8 % (size:Int):=gb _ (by omega);have a1:x / 8 % (size:Int)<(size:Int):=d7 _ p0;generalize hat:x / 8 % (size:Int)=at' at a0 a1;obtain⟨δ,e,hδ⟩:=Dn (aA (.fz (.int (m:Int)))) x at' size hs8 m (by omega);have g1:En (m:Int):=U4 (by omega);have et:((m:Int)).toNat=m:=by omega
 refine⟨Qf x at' size m,?_,by unfold Qf;simp,?_,λw hw=>?_⟩
 ·generalize Qf x at' size m=NL at hδ;unfold Gen.Y8 Gen.C7;have hs0:0<size:=by omega
  simp[-Z0,<-hs,p0,hs0,hat,g1,et,Qw,e,hδ]
 ·unfold Qf;refine List.Pairwise.map _ (R:=λa b=>a≠b/\a<m/\b<m) (λa b h=>?_) ?_
  ·intro z;obtain⟨hne,ha,hb⟩:=h;have hl:=Zsn z;obtain⟨k,hk⟩:=Int.eq_ofNat_of_zero_le a0;have hks:k<size:=by omega
   have e1:(Si x at' size a)[k]? =aA (sgn x at' a k):=by unfold Si;rw[a8,List.getElem?_range hks];rfl
   have e2:(Si x at' size b)[k]? =aA (sgn x at' b k):=by unfold Si;rw[a8,List.getElem?_range hks];rfl
   rw[hl,e2]at e1;have e3:=df.inj e1;unfold sgn at e3;rw[if_pos hk.symm]at e3;have q:=λy:Int=>(gb y (show(22:Int)≠0 by decide))
   have q':=λy:Int=>(d7 y (show(0:Int)<22 by decide))
   have r1:=q (x / ((k:Int)+2)+(a:Int)*1);have r2:=q' (x / ((k:Int)+2)+(a:Int)*1);have r3:=q (x / ((k:Int)+2)+(b:Int)*1);have r4:=q' (x / ((k:Int)+2)+(b:Int)*1);have e4:=Zo4 _ (by omega) _ (by omega) e3;generalize x / ((k:Int)+2)=y at*;omega
  ·have nd:(cz m).Pairwise (λa b=>a<b):=List.pairwise_lt_range;refine(gu.mp nd).imp fun{a b} h=>?_;exact⟨b9 h.2.2,cn.mp h.1,cn.mp h.2.1⟩
 ·unfold Qf at hw;obtain⟨t,_,rfl⟩:=av.mp hw;have hl:(S (Si x at' size t)).length=size:=by rw[Zme];unfold Si;simp
  refine⟨by rw[hl];exact hs1,by rw[hl];exact hs8,λc hc=>?_⟩;rw[Zou]at hc;unfold Si at hc;obtain⟨k,_,rfl⟩:=av.mp hc;have r1:=gb (x / ((k:Int)+2)+(t:Int)*(if(k:Int)=at' then 1 else 0)) (show(22:Int)≠0 by decide);have r2:=d7 (x / ((k:Int)+2)+(t:Int)*(if(k:Int)=at' then 1 else 0)) (show(0:Int)<22 by decide);exact Zo5 _ (by omega)
theorem Zhn(c b:Int):Gen.W4 [.int c,.int b]=aA (.fz (.int (c % 2147483647*b % 2147483647))):=by have h1:0<=c % 2147483647:=gb _ (by decide);have h2:c % 2147483647<2147483647:=d7 _ (by decide);have hm:=Hn (i:=c % 2147483647) (j:=b) (by omega);unfold Gen.W4 Gen.Ge;simp[hm]
theorem Mt(ns:List Int)(k:Nat):∃c:Int,Gen.Z2 [.lst (ns.map D.int),.int (k:Int)]=aA (.fz (.int c)):=by
 by_cases h:k<ns.length
 ·have a:L2.atI (ns.map D.int) (k:Int)=aA (.int ns[k]):=Ii _ _ _ (by rw[a8,aw h];rfl);refine⟨ns[k],?_⟩;have h':(k:Int)<(ns.length:Int):=by omega
  unfold Gen.Z2 Gen.Jw;simp[h',h,a]
 ·refine⟨0,?_⟩;have h':¬(k:Int)<(ns.length:Int):=by omega
  unfold Gen.Z2 Gen.Jw;simp[h',h]
theorem P9(c b:Int):0<=c % 2147483647*b % 2147483647:=gb _ (by decide)
end My
namespace My
open DL PySem TT
theorem jz1:1<=PySem.sizeLine:=by decide
theorem jz2:2<=PySem.sizeLine:=by decide
theorem jz3:3<=PySem.sizeLine:=by decide
noncomputable abbrev Xm:=List (List Nat)
noncomputable abbrev W7(l:List Nat):List D:=l.map λp:Nat=>.int (p:Int)
noncomputable def Ke(ks:List NK)(pl:Xm)(t:NK)(p:Nat):List NK×Xm:=match Wf ks t with
 |some q=>(ks,pl.set q (pl.getD q []++[p]))
 |none=>(ks++[t],pl++[[p]])
theorem Oz:∀{ks:List NK} {k:NK} {q:Nat},Wf ks k=aA q->ks[q]? =aA k
 |a::ks,k,q,h=>by
  have h:(if a=k then aA 0 else(Wf ks k).map (· +1))=aA q:=h;by_cases e:a=k
  ·rw[if_pos e]at h;cases h;rw[e];rfl
  ·rw[if_neg e]at h;obtain⟨r,hr,e2⟩:=cq.mp h;subst e2;show ks[r]? =aA k;exact Oz hr
theorem O0:∀{ks:List NK} {k:NK},Wf ks k=aB->k∉ks
 | [],k,_=>λz=>nomatch z
 |a::ks,k,h=>by
  have h:(if a=k then aA 0 else(Wf ks k).map (· +1))=aB:=h;by_cases e:a=k
  ·rw[if_pos e]at h;cases h
  ·rw[if_neg e]at h;have:=O0 (Option.map_eq_none_iff.mp h);intro z;rcases bo.mp z with z|z
   ·exact e z.symm
   ·exact this z
structure Hold(R:NK->Nat->Prop)(B:Nat)(ks:List NK)(pl:Xm):Prop where
 nd:ks.Nodup
 len:ks.length=pl.length
 has:∀(t:NK) (p:Nat),(∃(q:Nat) (l:List Nat),ks[q]? =aA t/\pl[q]? =aA l/\p∈l)↔R t p
 few:ks.length<=B
 each:∀l∈pl,l.length<=B
theorem Hold.add{R:NK->Nat->Prop}{B:Nat}{ks:List NK}{pl:Xm}(h:Hold R B ks pl)(t:NK)(p:Nat):Hold (λu q=>R u q\/(u=t/\q=p)) (B+1) (Ke ks pl t p).1 (Ke ks pl t p).2:=by
 unfold Ke;cases e:Wf ks t with
 |some q=>
  have hq:=Oz e;have hql:q<ks.length:=by rcases dv q ks.length with z|z;exact z;rw[dy z]at hq;cases hq
  have hqp:q<pl.length:=by rw[<-h.len];exact hql
  have eg:pl.getD q []=pl[q]:=by rw[bg,aw hqp];rfl
  refine⟨h.nd,by rw[List.length_set];exact h.len,λu r=>?_,Nat.le_succ_of_le h.few,λl hl=>?_⟩
  ·rw[<-h.has u r];constructor
   ·rintro⟨i,l,h1,h2,h3⟩;by_cases hi:i=q
    ·subst hi;have eu:u=t:=by rw[hq]at h1;exact(df.inj h1).symm
     rw[d4 hqp]at h2;have el:=df.inj h2;rw[<-el]at h3;rcases bh.mp h3 with z|z
     ·rw[eg]at z;exact .inl ⟨i,pl[i],h1,aw hqp,z⟩
     ·exact .inr ⟨eu,ao.mp z⟩
    ·rw[f7 (λz=>hi z.symm)]at h2;exact .inl ⟨i,l,h1,h2,h3⟩
   ·rintro(⟨i,l,h1,h2,h3⟩|⟨rfl,rfl⟩)
    ·by_cases hi:i=q
     ·subst hi;refine⟨i,pl.getD i []++[p],h1,d4 hqp,b7 _ ?_⟩;rw[eg];rw[aw hqp]at h2;rw[df.inj h2];exact h3
     ·exact⟨i,l,h1,by rw[f7 (λz=>hi z.symm)];exact h2,h3⟩
    ·exact⟨q,_,hq,d4 hqp,bq _ ad⟩
  ·rcases List.mem_or_eq_of_mem_set hl with z|z
   ·exact Nat.le_succ_of_le (h.each l z)
   ·rw[z,ay,eg];have:=h.each _ (List.getElem_mem hqp);simpa using this
 |none=>
  have hn:=O0 e;refine⟨cu.mpr ⟨h.nd,by simp,λa ha b hb e=>hn (by rw[<-ao.mp hb,<-e];exact ha)⟩,by simp[h.len],λu r=>?_,by have:=h.few;simp;omega,λl hl=>?_⟩
  ·rw[<-h.has u r];constructor
   ·rintro⟨i,l,h1,h2,h3⟩;rcases dv i ks.length with z|z
    ·rw[dh z]at h1;rw[dh (by rw[<-h.len];exact z)]at h2;exact .inl ⟨i,l,h1,h2,h3⟩
    ·rw[gc z]at h1;rw[gc (by rw[<-h.len];exact z),<-h.len]at h2;cases ei:i- ks.length with
     |zero=>rw[ei]at h1 h2;cases h1;cases h2;exact .inr ⟨rfl,ao.mp h3⟩
     |succ j=>rw[ei]at h1;cases h1
   ·rintro(⟨i,l,h1,h2,h3⟩|⟨rfl,rfl⟩)
    ·have z:i<ks.length:=by rcases dv i ks.length with z|z;exact z;rw[dy z]at h1;cases h1
     exact⟨i,l,by rw[dh z];exact h1,by rw[dh (by rw[<-h.len];exact z)];exact h2,h3⟩
    ·exact⟨ks.length,[r],by simp,by rw[h.len];simp,ad⟩
  ·rcases bh.mp hl with z|z
   ·exact Nat.le_succ_of_le (h.each l z)
   ·rw[ao.mp z];simp
theorem Zdb(ks:List NK)(pl:Xm)(t:NK)(p:Nat):Ac ks (pl.map W7) t [.int (p:Int)]=((Ke ks pl t p).1,(Ke ks pl t p).2.map W7):=by
 unfold Ac Ke;cases Wf ks t with
 |some q=>
  dsimp only;rw[List.map_set];have:(pl.map W7).getD q []=W7 (pl.getD q []):=by rw[bg,bg,a8];cases pl[q]? <;> rfl
  rw[this];simp[W7]
 |none=>simp[W7]
theorem Zbp{δ:Wc}{i j:Nat}{fk:FE}{ext:Bool}{ks:List NK}{xss:List (List D)}{k:NK}{p:RV×Wc}{q:D×Wc}{d:D}{ys:List D}(h1:δ[i]? =aA (aA (.oX ks xss)))(h2:fk δ=aA p)(h3:frz p.1 p.2=aA q)(h4:nk? q.1=aA k)(h5:q.2[i]? =aA (aA (.oX ks xss)))(h6:q.2[j]? =aA (aA (.fz d)))
  (h7:(ext=aD/\ys=[d])\/(ext=aC/\d= .lst ys)) (h8:okX xss ys.length):T0 i fk j ext δ=aA (.nx (q.2.set i (aA (.oX (Ac ks xss k ys).1 (Ac ks xss k ys).2)))):=by
 unfold T0;rw[h1];dsimp only;rw[h2];dsimp only[cf];rw[h3];dsimp only[cf];rw[h4];dsimp only[cf];rw[h5,h6];dsimp only;rcases h7 with⟨rfl,rfl⟩|⟨rfl,rfl⟩
 ·rw[if_neg (by decide)];dsimp only[cf];rw[if_pos h8]
 ·rw[if_pos rfl];dsimp only[cf];rw[if_pos h8]
theorem Zho{xss:List (List D)}{n:Nat}(h1:xss.length<=100000)(h2:n<=100000)(h3:∀xs∈xss,xs.length<=100000):okX xss n:=
 ⟨Z4 (by omega),Z4 (by omega),λxs hx=>Z4 (by have:=h3 xs hx;omega)⟩
theorem Hold.ok{R:NK->Nat->Prop}{B:Nat}{ks:List NK}{pl:Xm}(h:Hold R B ks pl)(hB:B<=10000)(n:Nat)(hn:n<=10000):okX (pl.map W7) n:=
 Zho (by rw[ag,<-h.len];have:=h.few;omega) (by omega) λxs hx=>by obtain⟨l,hl,rfl⟩:=av.mp hx;have:=h.each l hl;simp[W7];omega
theorem Hold.imp{R R':NK->Nat->Prop}{B B':Nat}{ks:List NK}{pl:Xm}(h:Hold R B ks pl)(e:∀t p,R t p↔R' t p)(hB:B<=B'):Hold R' B' ks pl:=
 ⟨h.nd,h.len,λt p=>(h.has t p).trans (e t p),dk h.few hB,λl hl=>dk (h.each l hl) hB⟩
theorem Xa(A hd:Option SV)(n:Nat):∀(ts:List NK) (R:NK->Nat->Prop) (B:Nat) (ks:List NK) (pl:Xm) (x4:Option SV),Hold R B ks pl->B+ts.length<=10000->∃ks' pl' y4,Hold (λu q=>R u q\/(u∈ts/\q=n)) (B+ts.length) ks' pl'/\
  Z0 (Zd 4) Gen.Oe (ts.map Zj) [A,aA (.oX ks (pl.map W7)),aA (.fz (.int (n:Int))),hd,x4]=aA (.nx [A,aA (.oX ks' (pl'.map W7)),aA (.fz (.int (n:Int))),hd,y4])
 | [],R,B,ks,pl,x4,h,_=>⟨ks,pl,x4,h.imp (λt p=>by simp) (az _),by simp⟩
 |t::ts,R,B,ks,pl,x4,h,hz=>by
  rw[bc]at hz;obtain⟨ks',pl',y4,h',ih⟩:=Xa A hd n ts _ (B+1) (Ke ks pl t n).1 (Ke ks pl t n).2 (aA (.fz (Zj t))) (h.add t n) (by omega);refine⟨ks',pl',y4,h'.imp (λu q=>?_) (by rw[bc];omega),?_⟩
  ·rw[bo];constructor
   ·rintro((z|⟨z1,z2⟩)|⟨z1,z2⟩)
    ·exact .inl z
    ·exact .inr ⟨.inl z1,z2⟩
    ·exact .inr ⟨.inr z1,z2⟩
   ·rintro(z|⟨z1|z1,z2⟩)
    ·exact .inl (.inl z)
    ·exact .inl (.inr ⟨z1,z2⟩)
    ·exact .inr ⟨z1,z2⟩
  ·have a:Gen.Oe [A,aA (.oX ks (pl.map W7)),aA (.fz (.int (n:Int))),hd,aA (.fz (Zj t))]=aA (.nx [A,aA (.oX (Ke ks pl t n).1 ((Ke ks pl t n).2.map W7)),aA (.fz (.int (n:Int))),hd,aA (.fz (Zj t))]):=by have:=Zbp (δ:=[A,aA (.oX ks (pl.map W7)),aA (.fz (.int (n:Int))),hd,aA (.fz (Zj t))]) (i:=1) (j:=2) (fk:=Za 4) (p:=(.tmp (.fz (Zj t)),[A,aA (.oX ks (pl.map W7)),aA (.fz (.int (n:Int))),hd,aA (.fz (Zj t))])) (q:=(Zj t,[A,aA (.oX ks (pl.map W7)),aA (.fz (.int (n:Int))),hd,aA (.fz (Zj t))])) (d:=.int (n:Int)) (ext:=aD) (ys:=[.int (n:Int)]) rfl rfl rfl (B5 t) rfl rfl (.inl ⟨rfl,rfl⟩) (h.ok (by omega) _ (by simp));rw[Zdb]at this;exact this
   rw[a7];unfold Z0;rw[show(Zd 4).run (Zj t) [A,aA (.oX ks (pl.map W7)),aA (.fz (.int (n:Int))),hd,x4]=aA [A,aA (.oX ks (pl.map W7)),aA (.fz (.int (n:Int))),hd,aA (.fz (Zj t))]from by simp];dsimp only[cf];rw[a];exact ih
end My
namespace My
open DL PySem TT
noncomputable def Kf(hs:List HP):Nat:=(hs.map λh=>(On h).length).sum
theorem To(h:HP)(hs:List HP):Kf (h::hs)=(On h).length+Kf hs:=by unfold Kf;simp
theorem Zdc(A:Option SV)(n:Nat)(h:HP)(R:NK->Nat->Prop)(B:Nat)(ks:List NK)(pl:Xm)(x4:Option SV)(ho:Hold R B ks pl)(hz:B+(On h).length<=10000):∃ks' pl' y4,Hold (λu q=>R u q\/(u∈On h/\q=n)) (B+(On h).length) ks' pl'/\
  Gen.W2 [A,aA (.oX ks (pl.map W7)),aA (.fz (.int (n:Int))),aA (.fz (Yc h)),x4]=aA (.nx [A,aA (.oX ks' (pl'.map W7)),aA (.fz (.int (n:Int))),aA (.fz (Yc h)),y4]):=by
 obtain⟨ks',pl',y4,h',e⟩:=Xa A (aA (.fz (Yc h))) n (On h) R B ks pl x4 ho hz;refine⟨ks',pl',y4,h',?_⟩;have zl:(h.ns.map Zj).length+(h.ms.map Zj).length<=PySem.sizeLine:=Qo (by rw[ag,ag];rw[ay]at hz;omega);have at1:∀a b c:D,L2.atI [a,b,c] 1=aA b:=λ_ _ _=>rfl;have at0:∀a b c:D,L2.atI [a,b,c] 0=aA a:=λ_ _ _=>rfl;rw[show(On h).map Zj=h.ns.map Zj++h.ms.map Zj from b4]at e;unfold Gen.W2;unfold Yc at e⊢;generalize h.ns.map Zj=NS at*;generalize h.ms.map Zj=MS at*;generalize h.fs.map Y4=TS at*;generalize pl.map W7=PL at*;generalize pl'.map W7=PL' at*;simp[at0,at1,zl,e,-Z0]
noncomputable abbrev Ru(hs:List HP)(t:NK)(p:Nat):Prop:=∃h,hs[p]? =aA h/\t∈On h
theorem L3(A:Option SV):∀(hs pre:List HP) (B:Nat) (ks:List NK) (pl:Xm) (x2 x3 x4:Option SV),Hold (Ru pre) B ks pl->B+Kf hs<=10000->∃ks' pl' y2 y3 y4,Hold (Ru (pre++hs)) (B+Kf hs) ks' pl'/\
  Z0 (We 2 (Zs (Zd 2) (Zs (Zd 3) Wg))) Gen.W2 (((hs.map Yc).zipIdx pre.length).map λp=>D.tup [.int (p.2:Nat),p.1]) [A,aA (.oX ks (pl.map W7)),x2,x3,x4]=aA (.nx [A,aA (.oX ks' (pl'.map W7)),y2,y3,y4])
 | [],pre,B,ks,pl,x2,x3,x4,ho,_=>⟨ks,pl,x2,x3,x4,by rw[List.append_nil];exact ho,by simp⟩
 |h::hs,pre,B,ks,pl,x2,x3,x4,ho,hz=>by
  rw[To]at hz;obtain⟨ks1,pl1,z4,h1,t⟩:=Zdc A pre.length h _ B ks pl x4 ho (by omega);have h2:Hold (Ru (pre++[h])) (B+(On h).length) ks1 pl1:=h1.imp (λu p=>by
   constructor
   ·rintro(⟨g,e,z⟩|⟨z,rfl⟩)
    ·have hp:p<pre.length:=by rcases dv p pre.length with q|q;exact q;rw[dy q]at e;cases e
     exact⟨g,by rw[dh hp];exact e,z⟩
    ·exact⟨h,by simp,z⟩
   ·rintro⟨g,e,z⟩;rcases dv p pre.length with q|q
    ·rw[dh q]at e;exact .inl ⟨g,e,z⟩
    ·rw[gc q]at e;cases ei:p- pre.length with
     |zero=>rw[ei]at e;cases e;exact .inr ⟨z,by omega⟩
     |succ j=>rw[ei]at e;cases e) (az _)
  obtain⟨ks',pl',y2,y3,y4,h',ih⟩:=L3 A hs (pre++[h]) _ ks1 pl1 (aA (.fz (.int (pre.length:Int)))) (aA (.fz (Yc h))) z4 h2 (by omega);refine⟨ks',pl',y2,y3,y4,?_,?_⟩
  ·rw[c7]at h';rw[To];exact h'.imp (λ_ _=>Iff.rfl) (by omega)
  ·rw[a7,List.zipIdx_cons,a7];rw[ay]at ih;unfold Z0;rw[show(We 2 (Zs (Zd 2) (Zs (Zd 3) Wg))).run (.tup [.int (pre.length:Nat),Yc h]) [A,aA (.oX ks (pl.map W7)),x2,x3,x4]=aA [A,aA (.oX ks (pl.map W7)),aA (.fz (.int (pre.length:Int))),aA (.fz (Yc h)),x4]from by simp];dsimp only[cf];rw[t];exact ih
noncomputable abbrev Y9(ks:List NK)(pl:Xm):D:=.dX ks ((pl.map W7).map D.lst)
theorem holders_of(hs:List HP)(hz:Kf hs<=10000):∃ks pl,Hold (Ru hs) (Kf hs) ks pl/\Gen.Q8 [.lst (hs.map Yc)]=aA (.fz (Y9 ks pl)):=by
 have h0:Hold (Ru []) 0 [] []:=⟨cm,rfl,λt p=>⟨λ⟨q,l,h,_⟩=>by simp at h,λ⟨h,e,_⟩=>by simp at e⟩,az _,λl hl=>nomatch hl⟩
 obtain⟨ks,pl,y2,y3,y4,ho,e⟩:=L3 (aA (.fz (.lst (hs.map Yc)))) hs [] 0 [] [] aB aB aB h0 (by omega);refine⟨ks,pl,by simpa using ho,?_⟩;rw[show(((hs.map Yc).zipIdx ([]:List HP).length).map λp=>D.tup [.int (p.2:Nat),p.1])=Q5 (hs.map Yc)from rfl]at e;have e:Z0 (We 2 (Zs (Zd 2) (Zs (Zd 3) Wg))) Gen.W2 (Q5 (hs.map Yc)) [aA (.fz (.lst (hs.map Yc))),aA (.oX [] []),aB,aB,aB]=_:=e;unfold Gen.Q8 Gen.Cf Y9;generalize hs.map Yc=HS at*;generalize pl.map W7=HX at*;simp[e,Ls,-Z0]
theorem Sa:∀{ks:List NK} {vs:List D} {q:Nat} {t:NK} {v:D},ks.Nodup->ks[q]? =aA t->vs[q]? =aA v->look ks vs t=aA v
 | [],vs,q,t,v,_,h,_=>by simp at h
 |k::ks,[],q,t,v,_,_,h=>by simp at h
 |k::ks,u::vs,q,t,v,nd,h1,h2=>by
  obtain⟨n1,n2⟩:=d3.mp nd;show(if k=t then aA u else look ks vs t)=aA v;cases q with
  |zero=>cases h1;cases h2;rw[if_pos rfl]
  |succ q=>have h1:ks[q]? =aA t:=h1;rw[if_neg λe=>n1 (by rw[e];exact b6 h1)];exact Sa n2 h1 h2
theorem Hold.look{R:NK->Nat->Prop}{B:Nat}{ks:List NK}{pl:Xm}(h:Hold R B ks pl){t:NK}{p:Nat}(hr:R t p):∃l:List Nat,DL.look ks ((pl.map W7).map D.lst) t=aA (.lst (W7 l))/\(∀p,p∈l↔R t p)/\l.length<=B:=by
 obtain⟨q,l,h1,h2,h3⟩:=(h.has t p).mpr hr;refine⟨l,Sa h.nd h1 (by rw[a8,a8,h2];rfl),λp'=>?_,h.each l (b6 h2)⟩;rw[<-h.has t p'];constructor
 ·exact λz=>⟨q,l,h1,h2,z⟩
 ·rintro⟨q',l',g1,g2,g3⟩;have hq:q<ks.length:=by rcases dv q ks.length with z|z;exact z;rw[dy z]at h1;cases h1
  have:q=q':=(List.getElem?_inj hq h.nd).mp (h1.trans g1.symm);subst this;rw[h2]at g2;rw[df.inj g2];exact g3
end My
namespace My
open DL PySem TT
noncomputable abbrev Jf(f:List Nat):List L2.Key:=f.map λp:Nat=>.inl (p:Int)
noncomputable abbrev Jg(f:List Nat):List D:=f.map λ_=>.bl aC
theorem Bl{f:List Nat}{p:Nat}:(gg (p:Int):L2.Key)∈Jf f↔p∈f:=by
 constructor
 ·intro z;obtain⟨q,hq,e⟩:=av.mp z;have e:=gg.inj e;have:q=p:=by omega
  rw[<-this];exact hq
 ·exact λz=>c8 (f:=λp:Nat=>(gg (p:Int):L2.Key)) z
theorem Iy:∀{ks:List L2.Key} {vs:List D} {k:L2.Key},k∉ks->look ks vs k=aB
 | [],vs,k,_=>by cases vs<;> rfl
 |a::ks,[],k,_=>rfl
 |a::ks,v::vs,k,h=>by show(if a=k then aA v else look ks vs k)=aB;rw[if_neg λz=>h (by rw[z];exact ad),Iy λz=>h (am _ z)]
theorem Tp:∀{ks:List L2.Key} {vs:List D} {k:L2.Key},ks.length=vs.length->k∈ks->∃v,look ks vs k=aA v
 |a::ks,[],k,h,_=>by simp at h
 |a::ks,v::vs,k,h,hk=>by
  by_cases e:a=k
  ·exact⟨v,by show(if a=k then aA v else _)=_;rw[if_pos e]⟩
  ·obtain⟨w,hw⟩:=Tp (ks:=ks) (vs:=vs) (k:=k) (by simpa using h) (by
    rcases bo.mp hk with z|z
    ·exact absurd z.symm e
    ·exact z)
   exact⟨w,by show(if a=k then aA v else look ks vs k)=_;rw[if_neg e,hw]⟩
structure TI(n:Nat)(f l:List Nat):Prop where
 nd:f.Nodup
 lt:∀x∈f,x<n
 ld:l.Nodup
 sub:∀x∈l,x∈f
theorem Sb{n:Nat}{f:List Nat}(nd:f.Nodup)(lt:∀x∈f,x<n):f.length<=n:=by have:=bx nd (l₂:=cz n) λx hx=>cn.mpr (lt x hx);simpa using this
theorem TI.len{n:Nat}{f l:List Nat}(h:TI n f l):f.length<=n/\l.length<=n:=⟨Sb h.nd h.lt,Sb h.ld λx hx=>h.lt x (h.sub x hx)⟩
noncomputable abbrev Rx(HS:List D)(HD:D)(i:Nat)(f l:List Nat)(x5 x6 x7:Option SV):Wc:=[aA (.fz (.lst HS)),aA (.fz HD),aA (.fz (.int (i:Int))),aA (.oK (Jf f) (Jg f)),aA (.ol (W7 l)),x5,x6,x7]
theorem Dp(HS:List D)(HD:D)(i n:Nat)(hn:n<=1000)(f l:List Nat)(h:TI n f l)(o:Nat)(x5 x6:Option SV):
  Gen.Of (Rx HS HD i f l x5 x6 (aA (.fz (.int (o:Int)))))=aA (.nx (if o∈f then Rx HS HD i f l x5 x6 (aA (.fz (.int (o:Int))))else Rx HS HD i (f++[o]) (l++[o]) x5 x6 (aA (.fz (.int (o:Int)))))):=by
 have z1:(Jg f).length<PySem.sizeLine:=Z4 (by have:=h.len;simp;omega);have z2:(W7 l).length<PySem.sizeLine:=Z4 (by have:=h.len;simp[W7];omega);by_cases ho:o∈f
 ·rw[if_pos ho];obtain⟨v,lk⟩:=Tp (ks:=Jf f) (vs:=Jg f) (k:=.inl (o:Int)) (by simp) (Bl.mpr ho);unfold Gen.Of Rx;generalize Jf f=KF at*;generalize Jg f=VF at*;generalize W7 l=PL at*;simp[lk,-look]
 ·rw[if_neg ho];have lk:look (Jf f) (Jg f) (.inl (o:Int))=aB:=Iy λz=>ho (Bl.mp z);have p:Y3 (Jf f) (Jg f) (gg (o:Int)) (.bl aC)=(Jf (f++[o]),Jg (f++[o])):=by unfold Y3;rw[if_neg λz=>ho (Bl.mp z)];simp[Jf,Jg]
  have e:W7 (l++[o])=W7 l++[.int (o:Int)]:=by simp[W7]
  unfold Gen.Of Rx;rw[e];generalize Jf (f++[o])=KF' at*;generalize Jg (f++[o])=VF' at*;generalize Jf f=KF at*;generalize Jg f=VF at*;generalize W7 l=PL at*;simp[lk,p,z1,z2,-look,-Y3]
theorem TI.snoc{n:Nat}{f l:List Nat}(h:TI n f l){o:Nat}(ho:o∉f)(hn:o<n):TI n (f++[o]) (l++[o]):=by
 refine⟨cu.mpr ⟨h.nd,by simp,λa ha b hb e=>ho (by rw[<-ao.mp hb,<-e];exact ha)⟩,λx hx=>?_,cu.mpr ⟨h.ld,by simp,λa ha b hb e=>ho (by rw[<-ao.mp hb,<-e];exact h.sub a ha)⟩,λx hx=>?_⟩
 ·rcases bh.mp hx with z|z
  ·exact h.lt x z
  ·rw[ao.mp z];exact hn
 ·rcases bh.mp hx with z|z
  ·exact b7 _ (h.sub x z)
  ·exact bq _ z
structure Grew(X:Nat->Prop)(f l f' l':List Nat):Prop where
 gf:∀x,x∈f'↔x∈f\/X x
 gl:∀x,x∈l'↔x∈l\/(X x/\x∉f)
 len:f'.length+l.length=f.length+l'.length
theorem Grew.imp{X Y:Nat->Prop}{f l f' l':List Nat}(g:Grew X f l f' l')(e:∀x,X x↔Y x):Grew Y f l f' l':=⟨λx=>by rw[g.gf,e],λx=>by rw[g.gl,e],g.len⟩
theorem Grew.trans{X Y:Nat->Prop}{f l f1 l1 f2 l2:List Nat}(g:Grew X f l f1 l1)(h:Grew Y f1 l1 f2 l2):Grew (λx=>X x\/Y x) f l f2 l2:=by
 refine⟨λx=>?_,λx=>?_,by have:=g.len;have:=h.len;omega⟩
 ·rw[h.gf,g.gf,or_assoc]
 ·rw[h.gl,g.gl,g.gf];constructor
  ·rintro((z|⟨z1,z2⟩)|⟨z1,z2⟩)
   ·exact .inl z
   ·exact .inr ⟨.inl z1,z2⟩
   ·exact .inr ⟨.inr z1,λw=>z2 (.inl w)⟩
  ·rintro(z|⟨z1|z1,z2⟩)
   ·exact .inl (.inl z)
   ·exact .inl (.inr ⟨z1,z2⟩)
   ·by_cases hx:X x
    ·exact .inl (.inr ⟨hx,z2⟩)
    ·exact .inr ⟨z1,λw=>w.elim z2 hx⟩
theorem Gj(HS:List D)(HD:D)(i n:Nat)(hn:n<=1000)(x5 x6:Option SV):∀(os f l:List Nat) (x7:Option SV),TI n f l->(∀o∈os,o<n)->∃f' l' y7,TI n f' l'/\Grew (· ∈os) f l f' l'/\
  Z0 (Zd 7) Gen.Of (W7 os) (Rx HS HD i f l x5 x6 x7)=aA (.nx (Rx HS HD i f' l' x5 x6 y7))
 | [],f,l,x7,h,_=>⟨f,l,x7,h,⟨λx=>by simp,λx=>by simp,rfl⟩,by simp[W7]⟩
 |o::os,f,l,x7,h,ho=>by
  have t:=Dp HS HD i n hn f l h o x5 x6;have r:(Zd 7).run (.int (o:Int)) (Rx HS HD i f l x5 x6 x7)=aA (Rx HS HD i f l x5 x6 (aA (.fz (.int (o:Int))))):=by simp[Rx]
  by_cases hf:o∈f
  ·rw[if_pos hf]at t;obtain⟨f',l',y7,h',g,ih⟩:=Gj HS HD i n hn x5 x6 os f l (aA (.fz (.int (o:Int)))) h λx hx=>ho x (am _ hx);refine⟨f',l',y7,h',⟨λx=>?_,λx=>?_,g.len⟩,?_⟩
   ·rw[g.gf,bo];exact⟨λz=>z.elim .inl λz=>.inr (.inr z),λz=>z.elim .inl λz=>z.elim (λz=>.inl (by rw[z];exact hf)) .inr⟩
   ·rw[g.gl,bo];exact⟨λz=>z.elim .inl λz=>.inr ⟨.inr z.1,z.2⟩,λz=>z.elim .inl λz=>z.1.elim (λw=>absurd (by rw[w];exact hf) z.2) λw=>.inr ⟨w,z.2⟩⟩
   ·show Z0 (Zd 7) Gen.Of (.int (o:Int)::W7 os) _=_;unfold Z0;rw[r];dsimp only[cf];rw[t];exact ih
  ·rw[if_neg hf]at t;obtain⟨f',l',y7,h',g,ih⟩:=Gj HS HD i n hn x5 x6 os (f++[o]) (l++[o]) (aA (.fz (.int (o:Int)))) (h.snoc hf (ho o ad)) λx hx=>ho x (am _ hx);have g0:Grew (· =o) f l (f++[o]) (l++[o]):=⟨λx=>by simp,λx=>by
    rw[bh,ao];exact⟨λz=>z.elim .inl λz=>.inr ⟨z,by rw[z];exact hf⟩,λz=>z.elim .inl λz=>.inr z.1⟩,by simp;omega⟩
   refine⟨f',l',y7,h',(g0.trans g).imp λx=>by rw[bo],?_⟩;show Z0 (Zd 7) Gen.Of (.int (o:Int)::W7 os) _=_;unfold Z0;rw[r];dsimp only[cf];rw[t];exact ih
theorem Zhp(hs:List HP)(ks:List NK)(pl:Xm)(B:Nat)(ho:Hold (Ru hs) B ks pl)(i n:Nat)(hn:n<=1000)(hl:hs.length=n)(f l:List Nat)(h:TI n f l)(t:NK)(j:Nat)(ht:Ru hs t j)(x5 x7:Option SV):∃f' l' y7,TI n f' l'/\Grew (Ru hs t) f l f' l'/\
  Gen.Mq (Rx (hs.map Yc) (Y9 ks pl) i f l x5 (aA (.fz (Zj t))) x7)=aA (.nx (Rx (hs.map Yc) (Y9 ks pl) i f' l' x5 (aA (.fz (Zj t))) y7)):=by
 obtain⟨os,lk,hm,_⟩:=ho.look ht;obtain⟨f',l',y7,h',g,e⟩:=Gj (hs.map Yc) (Y9 ks pl) i n hn x5 (aA (.fz (Zj t))) os f l x7 h λo hoo=>by
  obtain⟨g,eg,_⟩:=(hm o).mp hoo;rw[<-hl];rcases dv o hs.length with z|z
  ·exact z
  ·rw[dy z]at eg;cases eg
 refine⟨f',l',y7,h',g.imp hm,?_⟩;have nk:=B5 t;unfold Gen.Mq;unfold Rx Y9 at e⊢;generalize hs.map Yc=HS at*;generalize (pl.map W7).map D.lst=HX at*;generalize Zj t=T at*;generalize W7 os=OS at*;generalize Jf f'=A1 at*;generalize Jg f'=A2 at*;generalize W7 l'=A3 at*;generalize Jf f=A4 at*;generalize Jg f=A5 at*;generalize W7 l=A6 at*;simp[nk,lk,e,-look,-Z0]
theorem L4(hs:List HP)(ks:List NK)(pl:Xm)(B:Nat)(ho:Hold (Ru hs) B ks pl)(i n:Nat)(hn:n<=1000)(hl:hs.length=n)(j:Nat)(x5:Option SV):∀(ts:List NK) (f l:List Nat) (x6 x7:Option SV),TI n f l->(∀t∈ts,Ru hs t j)->∃f' l' y6 y7,TI n f' l'/\Grew (λx=>∃t∈ts,Ru hs t x) f l f' l'/\
  Z0 (Zd 6) Gen.Mq (ts.map Zj) (Rx (hs.map Yc) (Y9 ks pl) i f l x5 x6 x7)=aA (.nx (Rx (hs.map Yc) (Y9 ks pl) i f' l' x5 y6 y7))
 | [],f,l,x6,x7,h,_=>⟨f,l,x6,x7,h,⟨λx=>by simp,λx=>by simp,rfl⟩,by simp⟩
 |t::ts,f,l,x6,x7,h,ht=>by
  obtain⟨f1,l1,z7,h1,g1,e1⟩:=Zhp hs ks pl B ho i n hn hl f l h t j (ht t ad) x5 x7;obtain⟨f',l',y6,y7,h',g',ih⟩:=L4 hs ks pl B ho i n hn hl j x5 ts f1 l1 (aA (.fz (Zj t))) z7 h1 λu hu=>ht u (am _ hu);refine⟨f',l',y6,y7,h',(g1.trans g').imp λx=>?_,?_⟩
  ·simp only[bo,exists_eq_or_imp]
  ·rw[a7];unfold Z0;rw[show(Zd 6).run (Zj t) (Rx (hs.map Yc) (Y9 ks pl) i f l x5 x6 x7)=aA (Rx (hs.map Yc) (Y9 ks pl) i f l x5 (aA (.fz (Zj t))) x7)from by simp[Rx]];dsimp only[cf];rw[e1];exact ih
end My
namespace My
open DL PySem TT
noncomputable def shI(hs:List HP)(a b:Nat):Prop:=∃t,Ru hs t a/\Ru hs t b
inductive RI(hs:List HP)(i:Nat):Nat->Prop where
 |here:RI hs i i
 |step {a b:Nat}:RI hs i a->shI hs a b->RI hs i b
theorem Zmg{hs:List HP}{i:Nat}{h:HP}(e:hs[i]? =aA h):L2.atI (hs.map Yc) (i:Int)=aA (Yc h):=by
 have hl:i<hs.length:=by rcases dv i hs.length with z|z;exact z;rw[dy z]at e;cases e
 have:L2.ixN hs.length (i:Int)=aA i:=by unfold L2.ixN;simp;omega
 unfold L2.atI;rw[ag,this];show(hs.map Yc)[i]? =_;rw[a8,e];rfl
section
variable(hs:List HP)(ks:List NK)(pl:Xm)(B:Nat)(ho:Hold (Ru hs) B ks pl)(i n:Nat)(hn:n<=1000)(hl:hs.length=n)(hB:∀h∈hs,(On h).length<=10000)
include ho hn hl hB
theorem Zdd(f l:List Nat)(j:Nat)(h:HP)(hj:hs[j]? =aA h)(ti:TI n f (l++[j]))(x5 x6 x7:Option SV):∃f' l' y5 y6 y7,TI n f' l'/\Grew (shI hs j) f l f' l'/\
  Gen.Ga (Rx (hs.map Yc) (Y9 ks pl) i f (l++[j]) x5 x6 x7)=aA (.nx (Rx (hs.map Yc) (Y9 ks pl) i f' l' y5 y6 y7)):=by
 have ti0:TI n f l:=⟨ti.nd,ti.lt,(cu.mp ti.ld).1,λx hx=>ti.sub x (b7 _ hx)⟩
 obtain⟨f',l',y6,y7,h',g,e⟩:=L4 hs ks pl B ho i n hn hl j (aA (.fz (Yc h))) (On h) f l x6 x7 ti0 λt ht=>⟨h,hj,ht⟩
 refine⟨f',l',aA (.fz (Yc h)),y6,y7,h',g.imp λx=>?_,?_⟩
 ·constructor
  ·rintro⟨t,ht,hx⟩;exact⟨t,⟨h,hj,ht⟩,hx⟩
  ·rintro⟨t,⟨h2,e2,ht⟩,hx⟩;rw[hj]at e2;cases e2;exact⟨t,ht,hx⟩
 ·have hz2:(On h).length<=10000:=hB h (b6 hj);have zl:(h.ns.map Zj).length+(h.ms.map Zj).length<=PySem.sizeLine:=Qo (by rw[ag,ag];rw[ay]at hz2;omega);have at1:∀a b c:D,L2.atI [a,b,c] 1=aA b:=λ_ _ _=>rfl;have at0:∀a b c:D,L2.atI [a,b,c] 0=aA a:=λ_ _ _=>rfl;have ai:=Zmg hj;rw[show(On h).map Zj=h.ns.map Zj++h.ms.map Zj from b4]at e;have el:W7 (l++[j])=W7 l++[.int (j:Int)]:=by simp[W7]
  have e1:(W7 l++[D.int (j:Int)])[(W7 l++[D.int (j:Int)]).length- 1]? =aA (.int (j:Int)):=by simp
  have e2:(W7 l++[D.int (j:Int)]).dropLast=W7 l:=List.dropLast_concat;unfold Gen.Ga;unfold Rx at e⊢;rw[el];rw[show Yc h= .tup [.lst (h.ns.map Zj),.lst (h.ms.map Zj),.lst (h.fs.map Y4)]from rfl]at e ai⊢;generalize hs.map Yc=HS at*;generalize Y9 ks pl=HD at*;generalize h.ns.map Zj=NS at*;generalize h.ms.map Zj=MS at*;generalize h.fs.map Y4=TS at*;generalize Jf f'=A1 at*;generalize Jg f'=A2 at*;generalize W7 l'=A3 at*;generalize Jf f=A4 at*;generalize Jg f=A5 at*;generalize W7 l=A6 at*;generalize hQ:A6++[D.int (j:Int)]=A7 at*;simp[e1,e2,ai,at0,at1,zl,e,-Z0]
theorem Iz:∀(m:Nat) (f l:List Nat) (x5 x6 x7:Option SV),TI n f l->2*(n- f.length)+l.length<m->i∈f->(∀a∈f,RI hs i a)->(∀a∈f,a∉l->∀b,shI hs a b->b∈f)->(∀a∈f,a<n)->∃f' y5 y6 y7,TI n f' []/\i∈f'/\(∀a∈f',RI hs i a)/\(∀a∈f',∀b,shI hs a b->b∈f')/\
  U3 Gen.Og Gen.Ga m (Rx (hs.map Yc) (Y9 ks pl) i f l x5 x6 x7)=aA (.nx (Rx (hs.map Yc) (Y9 ks pl) i f' [] y5 y6 y7))
 |0,f,l,x5,x6,x7,_,hm,_,_,_,_=>absurd hm (dz _)
 |m+1,f,l,x5,x6,x7,ti,hm,hi,hr,hc,hlt=>by
  rcases List.eq_nil_or_concat l with rfl|⟨l0,j,rfl⟩
  ·refine⟨f,x5,x6,x7,ti,hi,hr,λa ha=>hc a ha (by simp),?_⟩;have t2:Gen.Og (Rx (hs.map Yc) (Y9 ks pl) i f [] x5 x6 x7)=aA (aD,Rx (hs.map Yc) (Y9 ks pl) i f [] x5 x6 x7):=by unfold Gen.Og Rx;simp[W7]
   unfold U3;rw[t2];rfl
  ·rw[List.concat_eq_append]at*;have hjf:j∈f:=ti.sub j (by simp);have hjl:j<hs.length:=by rw[hl];exact hlt j hjf
   have hj:hs[j]? =aA hs[j]:=aw hjl;obtain⟨f',l',y5,y6,y7,ti',g,e⟩:=Zdd hs ks pl B ho i n hn hl hB f l0 j hs[j] hj ti x5 x6 x7;have t1:Gen.Og (Rx (hs.map Yc) (Y9 ks pl) i f (l0++[j]) x5 x6 x7)=aA (aC,Rx (hs.map Yc) (Y9 ks pl) i f (l0++[j]) x5 x6 x7):=by unfold Gen.Og Rx;simp[W7]
   have hlen:=g.len;have hf':=ti'.len.1;have hff:f.length<=f'.length:=bx ti.nd λx hx=>(g.gf x).mpr (.inl hx);have hfn:=ti.len.1;rw[ay]at hm;obtain⟨f2,z5,z6,z7,ti2,a1,a2,a3,a4⟩:=Iz m f' l' y5 y6 y7 ti' (by simp at hm;omega) ((g.gf i).mpr (.inl hi)) (λa ha=>by
     rcases(g.gf a).mp ha with z|z
     ·exact hr a z
     ·exact .step (hr j hjf) z) (λa ha hal b hab=>by
     by_cases haf:a∈f
     ·by_cases haj:a=j
      ·rw[haj]at hab;exact(g.gf b).mpr (.inr hab)
      ·have:a∉l0++[j]:=λz=>by
        rcases bh.mp z with z|z
        ·exact hal ((g.gl a).mpr (.inl z))
        ·exact haj (ao.mp z)
       exact(g.gf b).mpr (.inl (hc a haf this b hab))
     ·rcases(g.gf a).mp ha with z|z
      ·exact absurd z haf
      ·exact absurd ((g.gl a).mpr (.inr ⟨z,haf⟩)) hal) (λa ha=>ti'.lt a ha)
   refine⟨f2,z5,z6,z7,ti2,a1,a2,a3,?_⟩;unfold U3;rw[t1];dsimp only[cf];rw[if_pos rfl,e];exact a4
theorem tied(hi:i<n)(hn2:n<=300):∃f,TI n f []/\i∈f/\(∀a∈f,RI hs i a)/\(∀a∈f,∀b,shI hs a b->b∈f)/\Gen.Iq [.lst (hs.map Yc),Y9 ks pl,.int (i:Int)]=aA (.ol (W7 f)):=by
 have ti:TI n [i] [i]:=⟨by simp,λx hx=>by rw[ao.mp hx];exact hi,by simp,λx hx=>hx⟩
 obtain⟨f,y5,y6,y7,ti',a1,a2,a3,w⟩:=Iz hs ks pl B ho i n hn hl hB 1000 [i] [i] aB aB aB ti (by simp;omega) (by simp) (λa ha=>by rw[ao.mp ha];exact .here) (λa ha hal=>absurd ha hal) (λa ha=>ti.lt a ha);refine⟨f,ti',a1,a2,a3,?_⟩;have ek:(Jf f).map Tc=W7 f:=by rw[bi];rfl
 unfold Gen.Iq Gen.Dk;have w:U3 Gen.Og Gen.Ga Gen.Zo0 [aA (.fz (.lst (hs.map Yc))),aA (.fz (Y9 ks pl)),aA (.fz (.int (i:Int))),aA (.oK [.inl (i:Int)] [.bl aC]),aA (.ol [.int (i:Int)]),aB,aB,aB]=_:=w;unfold Rx at w;generalize hs.map Yc=HS at*;generalize Y9 ks pl=HD at*;generalize Jf f=A1 at*;generalize Jg f=A2 at*;generalize W7 f=A3 at*;simp[w,ek,jz1]
end
end My
namespace My
open DL PySem TT TX
noncomputable abbrev Yg(t:T4):NK:=.inl [t.1,t.2.1]
noncomputable def OkK(l:List NK):Prop:=(∀k∈l,isN k)\/(∀k∈l,Sh k)
theorem OkK.one{l:List NK}(h:OkK l):Cp l:=h.imp (λh k hk=>h k hk) λh k hk=>h k hk
theorem Sc{l:List NK}(h:OkK l):∃out:List NK,out.Pairwise kLt/\∀x,x∈out↔x∈l:=by
 let le:NK->NK->Bool:=λa b=>!decide (O9 b<O9 a);have pm:((Ln l).mergeSort le).Perm (Ln l):=List.mergeSort_perm _ _;have pw:((Ln l).mergeSort le).Pairwise λa b=>le a b=aC:=List.pairwise_mergeSort (le:=le) (λa b c h1 h2=>by
   simp only[le,Bool.not_eq_true',decide_eq_false_iff_not]at*;exact dg.mpr (List.le_trans (dg.mp h1) (dg.mp h2))) (λa b=>by
   simp only[le,Bool.or_eq_true,Bool.not_eq_true',decide_eq_false_iff_not];rcases List.le_total (O9 a) (O9 b)with z|z
   ·exact .inl (dg.mpr z)
   ·exact .inr (dg.mpr z)) _
 have nd:((Ln l).mergeSort le).Nodup:=pm.nodup_iff.mpr (Pv l);have mem:∀x,x∈(Ln l).mergeSort le↔x∈l:=λx=>by rw[pm.mem_iff,An]
 refine⟨_,?_,mem⟩;refine(gu.mp (pw.and nd)).imp fun{a b} ⟨ha,hb,h1,h2⟩=>?_;simp only[le,Bool.not_eq_true',decide_eq_false_iff_not]at h1;by_cases z:O9 a<O9 b
 ·exact z
 ·exact absurd (Io (h.one.one ((mem a).mp ha) ((mem b).mp hb)) (List.le_antisymm (dg.mp h1) (dg.mp z))) h2
open Classical in
noncomputable def rise(l:List NK):List NK:=if h:∃out:List NK,out.Pairwise kLt/\∀x,x∈out↔x∈l then Classical.choose h else[]
theorem Ux{l:List NK}(h:OkK l):(rise l).Pairwise kLt/\∀x,x∈rise l↔x∈l:=by unfold rise;rw[dif_pos (Sc h)];exact Classical.choose_spec (Sc h)
theorem I8{l:List NK}(h:OkK l)(hl:l.length<64):Bj [.lst (l.map Zj)]=aA (.ol ((rise l).map Zj)):=(Lp l).trans (Zhg h.one hl (λx=>(Ux h).2 x) (Ux h).1)
noncomputable def Gk(ts:List T4):List T4:=ts.mergeSort λa b=>!decide (Qt b<Qt a)
theorem Uh(ts:List T4):(Gk ts).Perm ts:=List.mergeSort_perm _ _
theorem L5(ts:List T4):(Gk ts).Pairwise λa b=>¬Qt b<Qt a:=by
 have:=List.pairwise_mergeSort (le:=λa b:T4=>!decide (Qt b<Qt a)) (λa b c h1 h2=>by
   simp only[Bool.not_eq_true',decide_eq_false_iff_not]at*;exact dg.mpr (List.le_trans (dg.mp h1) (dg.mp h2))) (λa b=>by
   simp only[Bool.or_eq_true,Bool.not_eq_true',decide_eq_false_iff_not];rcases List.le_total (Qt a) (Qt b)with z|z
   ·exact .inl (dg.mpr z)
   ·exact .inr (dg.mpr z)) ts
 exact this.imp fun{a b} h=>by simpa using h
noncomputable abbrev Xn:=List (List NK)
noncomputable abbrev Op(l:List NK):List D:=l.map Zj
noncomputable def Kg(ks:List NK)(pl:Xn)(t:NK)(ys:List NK):List NK×Xn:=match Wf ks t with
 |some q=>(ks,pl.set q (pl.getD q []++ys))
 |none=>(ks++[t],pl++[ys])
structure Tell(S:NK->Prop)(R:NK->NK->Prop)(L:NK->Nat)(B:Nat)(ks:List NK)(pl:Xn):Prop where
 nd:ks.Nodup
 len:ks.length=pl.length
 key:∀t,t∈ks↔S t
 has:∀(q:Nat) (t:NK) (l:List NK),ks[q]? =aA t->pl[q]? =aA l->(∀k,k∈l↔R t k)/\l.length<=L t
 few:ks.length<=B
theorem Tell.imp{S S':NK->Prop}{R R':NK->NK->Prop}{L L':NK->Nat}{B B':Nat}{ks:List NK}{pl:Xn}(h:Tell S R L B ks pl)(e1:∀t,S t↔S' t)(e2:∀t k,R t k↔R' t k)(e3:∀t,L t<=L' t)(hB:B<=B'):Tell S' R' L' B' ks pl:=
 ⟨h.nd,h.len,λt=>(h.key t).trans (e1 t),λq t l h1 h2=>⟨λk=>((h.has q t l h1 h2).1 k).trans (e2 t k),dk (h.has q t l h1 h2).2 (e3 t)⟩,dk h.few hB⟩
theorem Tell.add{S:NK->Prop}{R:NK->NK->Prop}{L:NK->Nat}{B:Nat}{ks:List NK}{pl:Xn}(h:Tell S R L B ks pl)(hs:∀t k,R t k->S t)(t:NK)(ys:List NK):Tell (λu=>S u\/u=t) (λu k=>R u k\/(u=t/\k∈ys)) (λu=>L u+if u=t then ys.length else 0) (B+1) (Kg ks pl t ys).1 (Kg ks pl t ys).2:=by
 unfold Kg;cases e:Wf ks t with
 |some q=>
  have hq:=Oz e;have hql:q<ks.length:=by rcases dv q ks.length with z|z;exact z;rw[dy z]at hq;cases hq
  have hqp:q<pl.length:=by rw[<-h.len];exact hql
  have eg:pl.getD q []=pl[q]:=by rw[bg,aw hqp];rfl
  have ht:S t:=(h.key t).mp (b6 hq);refine⟨h.nd,by rw[List.length_set];exact h.len,λu=>?_,λi u l h1 h2=>?_,by have:=h.few;show ks.length<=_;omega⟩
  ·rw[h.key];exact⟨.inl,λz=>z.elim id λz=>by rw[z];exact ht⟩
  ·by_cases hi:i=q
   ·subst hi;have eu:u=t:=by rw[hq]at h1;exact(df.inj h1).symm
    rw[d4 hqp]at h2;have el:=df.inj h2;obtain⟨g1,g2⟩:=h.has i u pl[i] h1 (aw hqp);refine⟨λk=>?_,?_⟩
    ·rw[<-el,bh,eg,g1 k];exact⟨λz=>z.elim .inl λz=>.inr ⟨eu,z⟩,λz=>z.elim .inl λz=>.inr z.2⟩
    ·rw[<-el,ay,eg,if_pos eu];omega
   ·rw[f7 (λz=>hi z.symm)]at h2;obtain⟨g1,g2⟩:=h.has i u l h1 h2;refine⟨λk=>?_,by omega⟩;rw[g1 k];refine⟨.inl,λz=>z.elim id λz=>?_⟩;rw[z.1]at h1;exact absurd ((List.getElem?_inj hql h.nd).mp (hq.trans h1.symm)) λw=>hi w.symm
 |none=>
  have hn:=O0 e;refine⟨cu.mpr ⟨h.nd,by simp,λa ha b hb e=>hn (by rw[<-ao.mp hb,<-e];exact ha)⟩,by simp[h.len],λu=>?_,λi u l h1 h2=>?_,by have:=h.few;simp;omega⟩
  ·rw[bh,h.key,ao]
  ·rcases dv i ks.length with z|z
   ·rw[dh z]at h1;rw[dh (by rw[<-h.len];exact z)]at h2;obtain⟨g1,g2⟩:=h.has i u l h1 h2;refine⟨λk=>?_,by omega⟩;rw[g1 k];exact⟨.inl,λw=>w.elim id λw=>absurd (by rw[<-w.1];exact b6 h1) hn⟩
   ·rw[gc z]at h1;rw[gc (by rw[<-h.len];exact z),<-h.len]at h2;cases ei:i- ks.length with
    |zero=>rw[ei]at h1 h2;cases h1;cases h2;refine⟨λk=>⟨λw=>.inr ⟨rfl,w⟩,λw=>w.elim (λw=>absurd ((h.key t).mpr (hs t k w)) hn) λw=>w.2⟩,by rw[if_pos rfl];omega⟩
    |succ j=>rw[ei]at h1;cases h1
theorem Zde(ks:List NK)(pl:Xn)(t:NK)(ys:List NK):Ac ks (pl.map Op) t (Op ys)=((Kg ks pl t ys).1,(Kg ks pl t ys).2.map Op):=by
 unfold Ac Kg;cases Wf ks t with
 |some q=>
  dsimp only;rw[List.map_set];have:(pl.map Op).getD q []=Op (pl.getD q []):=by rw[bg,bg,a8];cases pl[q]? <;> rfl
  rw[this];simp[Op]
 |none=>simp[Op]
theorem Tell.ok{S:NK->Prop}{R:NK->NK->Prop}{L:NK->Nat}{B:Nat}{ks:List NK}{pl:Xn}(h:Tell S R L B ks pl)(hB:B<=10000)(hL:∀t,L t<=10000)(n:Nat)(hn:n<=10000):okX (pl.map Op) n:=
 Zho (by rw[ag,<-h.len];have:=h.few;omega) (by omega) λxs hx=>by
  obtain⟨l,hl,rfl⟩:=av.mp hx;obtain⟨q,hq,rfl⟩:=fq hl;have hq2:q<ks.length:=by rw[h.len];exact hq
  have:=(h.has q ks[q] pl[q] (aw hq2) (aw hq)).2;have:=hL ks[q];simp[Op];omega
end My
namespace My
open DL PySem TT TX
noncomputable def Xo(t:NK)(fs:List T4):Nat:=(fs.map λx=>if Yg x=t then x.2.2.length else 0).sum
noncomputable def tlG(t:NK)(gs:List HP):Nat:=(gs.map λh=>Xo t h.fs).sum
theorem Mu(t:NK)(x:T4)(fs:List T4):Xo t (x::fs)=(if Yg x=t then x.2.2.length else 0)+Xo t fs:=by unfold Xo;simp
theorem I9(t:NK)(h:HP)(gs:List HP):tlG t (h::gs)=Xo t h.fs+tlG t gs:=by unfold tlG;simp
noncomputable abbrev Xb(A:Option SV)(ns ms:List NK)(ks:List NK)(pl:Xn)(h x5 x6 x7 x8:Option SV):Wc:=[A,aA (.ol (Op ns)),aA (.ol (Op ms)),aA (.oX ks (pl.map Op)),h,x5,x6,x7,x8]
theorem L6(A h x8:Option SV)(ns ms:List NK):∀(fs:List T4) (S:NK->Prop) (R:NK->NK->Prop) (L:NK->Nat) (B:Nat) (ks:List NK) (pl:Xn) (x5 x6 x7:Option SV),Tell S R L B ks pl->(∀t k,R t k->S t)->B+fs.length<=10000->(∀t,L t+Xo t fs<=10000)->(∀x∈fs,x.2.2.length<=10000)->∃ks' pl' y5 y6 y7,Tell (λt=>S t\/∃x∈fs,t=Yg x) (λt k=>R t k\/∃x∈fs,t=Yg x/\k∈x.2.2) (λt=>L t+Xo t fs) (B+fs.length) ks' pl'/\
  Z0 (We 3 (Zs (Zd 5) (Zs (Zd 6) (Zs (Zd 7) Wg)))) Gen.Oh (fs.map Y4) (Xb A ns ms ks pl h x5 x6 x7 x8)=aA (.nx (Xb A ns ms ks' pl' h y5 y6 y7 x8))
 | [],S,R,L,B,ks,pl,x5,x6,x7,te,_,_,_,_=>⟨ks,pl,x5,x6,x7,te.imp (λt=>by simp) (λt k=>by simp) (λt=>by simp[Xo]) (az _),by simp⟩
 |x::fs,S,R,L,B,ks,pl,x5,x6,x7,te,hRS,hz,hL,hx=>by
  rw[bc]at hz;have te1:=te.add hRS (Yg x) x.2.2;obtain⟨ks',pl',y5,y6,y7,te',ih⟩:=L6 A h x8 ns ms fs _ _ _ (B+1) (Kg ks pl (Yg x) x.2.2).1 (Kg ks pl (Yg x) x.2.2).2 (aA (.fz (.str x.1))) (aA (.fz (.str x.2.1))) (aA (.fz (.lst (Op x.2.2)))) te1 (λt k z=>z.elim (λz=>.inl (hRS t k z)) λz=>.inr z.1) (by omega) (λt=>by
   have:=hL t;rw[Mu]at this;by_cases e:t=Yg x
   ·rw[if_pos e];rw[if_pos e.symm]at this;omega
   ·rw[if_neg e];omega) λy hy=>hx y (am _ hy)
  refine⟨ks',pl',y5,y6,y7,te'.imp (λt=>?_) (λt k=>?_) (λt=>?_) (by rw[bc];omega),?_⟩
  ·simp only[bo,exists_eq_or_imp,or_assoc]
  ·simp only[bo,exists_eq_or_imp,or_assoc]
  ·rw[Mu];by_cases e:t=Yg x
   ·rw[if_pos e,if_pos e.symm];omega
   ·rw[if_neg e,if_neg λz=>e z.symm];omega
  ·have a:Gen.Oh (Xb A ns ms ks pl h (aA (.fz (.str x.1))) (aA (.fz (.str x.2.1))) (aA (.fz (.lst (Op x.2.2)))) x8)=aA (.nx (Xb A ns ms (Kg ks pl (Yg x) x.2.2).1 (Kg ks pl (Yg x) x.2.2).2 h (aA (.fz (.str x.1))) (aA (.fz (.str x.2.1))) (aA (.fz (.lst (Op x.2.2)))) x8)):=by have:=Zbp (δ:=Xb A ns ms ks pl h (aA (.fz (.str x.1))) (aA (.fz (.str x.2.1))) (aA (.fz (.lst (Op x.2.2)))) x8) (i:=3) (j:=7) (fk:=tupF (Zh (Za 5) (Zh (Za 6) Zo))) (p:=(.tmp (.fz (.tup [.str x.1,.str x.2.1])),Xb A ns ms ks pl h (aA (.fz (.str x.1))) (aA (.fz (.str x.2.1))) (aA (.fz (.lst (Op x.2.2)))) x8)) (q:=(.tup [.str x.1,.str x.2.1],Xb A ns ms ks pl h (aA (.fz (.str x.1))) (aA (.fz (.str x.2.1))) (aA (.fz (.lst (Op x.2.2)))) x8)) (d:=.lst (Op x.2.2)) (ys:=Op x.2.2) (ext:=aC) (k:=Yg x) rfl (by simp[jz2]) rfl (B5 (Yg x)) rfl rfl (.inr ⟨rfl,rfl⟩) (te.ok (by omega) (λt=>by have:=hL t;omega) _ (by simp[Op];exact hx x ad));rw[Zde]at this;exact this
   rw[a7];unfold Z0;rw[show(We 3 (Zs (Zd 5) (Zs (Zd 6) (Zs (Zd 7) Wg)))).run (Y4 x) (Xb A ns ms ks pl h x5 x6 x7 x8)=aA (Xb A ns ms ks pl h (aA (.fz (.str x.1))) (aA (.fz (.str x.2.1))) (aA (.fz (.lst (Op x.2.2)))) x8)from by simp];dsimp only[cf];rw[a];exact ih
noncomputable abbrev SG(gs:List HP)(t:NK):Prop:=∃h∈gs,∃x∈h.fs,t=Yg x
noncomputable abbrev RG(gs:List HP)(t k:NK):Prop:=∃h∈gs,∃x∈h.fs,t=Yg x/\k∈x.2.2
noncomputable def Sd(gs:List HP):Nat:=(gs.map λh=>h.fs.length).sum
theorem L7(h:HP)(gs:List HP):Sd (h::gs)=h.fs.length+Sd gs:=by unfold Sd;simp
structure Few(h:HP):Prop where
 ns:h.ns.length<=1000
 ms:h.ms.length<=1000
 tl:∀x∈h.fs,x.2.2.length<=10000
theorem Zdf(A x8:Option SV)(hp:HP)(fw:Few hp)(ns ms:List NK)(hz:ns.length+1000<=100000)(hz2:ms.length+1000<=100000)(S:NK->Prop)(R:NK->NK->Prop)(L:NK->Nat)(B:Nat)(ks:List NK)(pl:Xn)(te:Tell S R L B ks pl)(hRS:∀t k,R t k->S t)(hB:B+hp.fs.length<=10000)(hL:∀t,L t+Xo t hp.fs<=10000)(x5 x6 x7:Option SV):∃ks' pl' y5 y6 y7,Tell (λt=>S t\/∃x∈hp.fs,t=Yg x) (λt k=>R t k\/∃x∈hp.fs,t=Yg x/\k∈x.2.2) (λt=>L t+Xo t hp.fs) (B+hp.fs.length) ks' pl'/\
  Gen.W3 (Xb A ns ms ks pl (aA (.fz (Yc hp))) x5 x6 x7 x8)=aA (.nx (Xb A (ns++hp.ns) (ms++hp.ms) ks' pl' (aA (.fz (Yc hp))) y5 y6 y7 x8)):=by
 obtain⟨ks',pl',y5,y6,y7,te',l⟩:=L6 A (aA (.fz (Yc hp))) x8 (ns++hp.ns) (ms++hp.ms) hp.fs S R L B ks pl x5 x6 x7 te hRS hB hL fw.tl;refine⟨ks',pl',y5,y6,y7,te',?_⟩;have z1:(Op ns).length+(hp.ns.map Zj).length<=PySem.sizeLine:=Qo (by have:=fw.ns;simp[Op];omega);have z2:(Op ms).length+(hp.ms.map Zj).length<=PySem.sizeLine:=Qo (by have:=fw.ms;simp[Op];omega);have at2:∀a b c:D,L2.atI [a,b,c] 2=aA c:=λ_ _ _=>rfl;have at1:∀a b c:D,L2.atI [a,b,c] 1=aA b:=λ_ _ _=>rfl;have at0:∀a b c:D,L2.atI [a,b,c] 0=aA a:=λ_ _ _=>rfl;have e1:Op (ns++hp.ns)=Op ns++hp.ns.map Zj:=b4;have e2:Op (ms++hp.ms)=Op ms++hp.ms.map Zj:=b4;unfold Gen.W3;unfold Xb at l⊢;rw[e1,e2]at l⊢;clear e1 e2;rw[show Yc hp= .tup [.lst (hp.ns.map Zj),.lst (hp.ms.map Zj),.lst (hp.fs.map Y4)]from rfl]at l⊢;generalize pl.map Op=P1 at*;generalize pl'.map Op=P2 at*;generalize Op ns=N1 at*;generalize Op ms=N2 at*;generalize hp.ns.map Zj=NS at*;generalize hp.ms.map Zj=MS at*;generalize hp.fs.map Y4=TS at*;simp[at0,at1,at2,z1,z2,l,-Z0]
theorem L8(A x8:Option SV):∀(gs:List HP) (ns ms:List NK) (S:NK->Prop) (R:NK->NK->Prop) (L:NK->Nat) (B:Nat) (ks:List NK) (pl:Xn) (x4 x5 x6 x7:Option SV),Tell S R L B ks pl->(∀t k,R t k->S t)->(∀h∈gs,Few h)->ns.length+1000*gs.length<=90000->ms.length+1000*gs.length<=90000->B+Sd gs<=10000->(∀t,L t+tlG t gs<=10000)->∃ks' pl' y4 y5 y6 y7,Tell (λt=>S t\/SG gs t) (λt k=>R t k\/RG gs t k) (λt=>L t+tlG t gs) (B+Sd gs) ks' pl'/\
  Z0 (Zd 4) Gen.W3 (gs.map Yc) (Xb A ns ms ks pl x4 x5 x6 x7 x8)=aA (.nx (Xb A (ns++gs.flatMap HP.ns) (ms++gs.flatMap HP.ms) ks' pl' y4 y5 y6 y7 x8))
 | [],ns,ms,S,R,L,B,ks,pl,x4,x5,x6,x7,te,_,_,_,_,_,_=>⟨ks,pl,x4,x5,x6,x7,te.imp (λt=>by simp) (λt k=>by simp) (λt=>by simp[tlG]) (by simp[Sd]),by simp⟩
 |h::gs,ns,ms,S,R,L,B,ks,pl,x4,x5,x6,x7,te,hRS,fw,hz,hz2,hB,hL=>by
  rw[bc]at hz hz2;rw[L7]at hB;have fh:=fw h ad;obtain⟨ks1,pl1,z5,z6,z7,te1,t1⟩:=Zdf A x8 h fh ns ms (by omega) (by omega) S R L B ks pl te hRS (by omega) (λt=>by have:=hL t;rw[I9]at this;omega) x5 x6 x7;obtain⟨ks',pl',y4,y5,y6,y7,te',ih⟩:=L8 A x8 gs (ns++h.ns) (ms++h.ms) _ _ _ _ ks1 pl1 (aA (.fz (Yc h))) z5 z6 z7 te1 (λt k z=>z.elim (λz=>.inl (hRS t k z)) λ⟨x,hx,e,_⟩=>.inr ⟨x,hx,e⟩) (λg hg=>fw g (am _ hg)) (by have:=fh.ns;rw[ay];omega) (by have:=fh.ms;rw[ay];omega) (by omega) (λt=>by have:=hL t;rw[I9]at this;omega);refine⟨ks',pl',y4,y5,y6,y7,te'.imp (λt=>?_) (λt k=>?_) (λt=>by rw[I9];omega) (by rw[L7];omega),?_⟩
  ·simp only[SG,bo,exists_eq_or_imp,or_assoc]
  ·simp only[RG,bo,exists_eq_or_imp,or_assoc]
  ·rw[a7,List.flatMap_cons,List.flatMap_cons,<-c7,<-c7];unfold Z0;rw[show(Zd 4).run (Yc h) (Xb A ns ms ks pl x4 x5 x6 x7 x8)=aA (Xb A ns ms ks pl (aA (.fz (Yc h))) x5 x6 x7 x8)from by simp];dsimp only[cf];rw[t1];exact ih
end My
namespace My
open DL PySem TT TX
noncomputable def Qg(ks:List NK)(pl:Xn)(k:NK):List NK:=match Wf ks k with
 |some q=>pl.getD q []
 |none=>[]
theorem Zdg{ks:List NK}{k:NK}(h:k∈ks):∃q,Wf ks k=aA q:=by
 cases e:Wf ks k with
 |some q=>exact⟨q,rfl⟩
 |none=>exact absurd h (O0 e)
theorem Av{S:NK->Prop}{R:NK->NK->Prop}{L:NK->Nat}{B:Nat}{ks:List NK}{pl:Xn}(te:Tell S R L B ks pl){k:NK}(hk:k∈ks):(∀x,x∈Qg ks pl k↔R k x)/\(Qg ks pl k).length<=L k/\look ks ((pl.map Op).map D.lst) k=aA (.lst (Op (Qg ks pl k))):=by
 obtain⟨q,e⟩:=Zdg hk;have hq:=Oz e;have hql:q<ks.length:=by rcases dv q ks.length with z|z;exact z;rw[dy z]at hq;cases hq
 have hqp:q<pl.length:=by rw[<-te.len];exact hql
 have et:Qg ks pl k=pl[q]:=by unfold Qg;rw[e];show pl.getD q []=_;rw[bg,aw hqp];rfl
 have hp:=aw hqp;obtain⟨g1,g2⟩:=te.has q k pl[q] hq hp;rw[et];exact⟨g1,g2,Sa te.nd hq (by rw[a8,a8,hp];rfl)⟩
noncomputable def Gm(ks:List NK)(pl:Xn):NK->T4
 | .inl [a,b]=>(a,b,rise (Qg ks pl (.inl [a,b])))
 |_=>("","",[])
noncomputable def L9(ks:List NK)(pl:Xn)(d:D):D:=match nk? d with
 |some k=>Y4 (Gm ks pl k)
 |none=>.non
theorem Zdh{S:NK->Prop}{R:NK->NK->Prop}{L:NK->Nat}{B:Nat}{ks:List NK}{pl:Xn}(te:Tell S R L B ks pl)(hB:B<=10000)(hp:∀t,S t->∃a b,t= .inl [a,b])(hL:∀t,L t<64)(hR:∀t k,R t k->isN k):
  Ya [.own,.cap 3,.acc] 2 (Zd 0) W0 Gen.Q9 (ks.map Zj) [aB,aA (.fz (.dX ks ((pl.map Op).map D.lst))),aA (.ol [])]=
  aA [aB,aA (.fz (.dX ks ((pl.map Op).map D.lst))),aA (.ol ((ks.map (Gm ks pl)).map Y4))]:=by
 have c:=Ob (te:=Gen.Q9) (f:=L9 ks pl) (c:=aA (.fz (.dX ks ((pl.map Op).map D.lst)))) (j:=3) (ks.map Zj) [] (λx hx zs=>by
  obtain⟨k,hk,rfl⟩:=av.mp hx;obtain⟨a,b,rfl⟩:=hp k ((te.key k).mp hk);obtain⟨g1,g2,lk⟩:=Av te hk;have ok:OkK (Qg ks pl (.inl [a,b])):=.inl λx hx=>hR _ _ ((g1 x).mp hx);have sd:Bj [.lst ((Qg ks pl (.inl [a,b])).map Zj)]=aA (.ol (Op (rise (Qg ks pl (.inl [a,b]))))):=I8 ok (gm g2 (hL _));have at1:∀a b:D,L2.atI [a,b] 1=aA b:=λ_ _=>rfl;have at0:∀a b:D,L2.atI [a,b] 0=aA a:=λ_ _=>rfl;have ek:Zj (.inl [a,b])= .tup [.str a,.str b]:=rfl;have nk:=B5 (.inl [a,b]);have ef:L9 ks pl (Zj (.inl [a,b]))= .tup [.str a,.str b,.lst (Op (rise (Qg ks pl (.inl [a,b]))))]:=by unfold L9;rw[nk];rfl
  rw[ef];rw[ek]at nk⊢;unfold Gen.Q9;generalize (pl.map Op).map D.lst=XS at*;generalize Op (rise (Qg ks pl (.inl [a,b])))=RS at*;have lk2:look ks XS (gg [a,b])=aA (.lst ((Qg ks pl (.inl [a,b])).map Zj)):=lk;generalize (Qg ks pl (.inl [a,b])).map Zj=TD at*;generalize (gg [a,b]:NK)=P at*;simp[at0,at1,nk,lk2,sd,jz3,-look]) (by have:=te.few;simp;omega)
 have e:(ks.map Zj).map (L9 ks pl)=(ks.map (Gm ks pl)).map Y4:=by rw[bi,bi];refine fj λk _=>?_;show L9 ks pl (Zj k)=Y4 (Gm ks pl k);unfold L9;rw[B5]
 rw[c,dj,e]
structure Grp(gs:List HP):Prop where
 few:∀h∈gs,Few h
 nn:∀h∈gs,∀k∈h.ns,isN k
 mm:∀h∈gs,∀k∈h.ms,Sh k
 tt:∀h∈gs,∀x∈h.fs,∀k∈x.2.2,isN k
 n64:(gs.flatMap HP.ns).length<64
 m64:(gs.flatMap HP.ms).length<64
 t64:∀t,tlG t gs<64
 len:gs.length<64
 cnt:Sd gs<=10000
 p64:∃ps:List NK,ps.length<64/\∀t,SG gs t->t∈ps
theorem join_heaps(gs:List HP)(g:Grp gs):∃h,IsMerge (· ∈gs) h/\Gen.Ja [.lst (gs.map Yc)]=aA (.fz (Yc h)):=by
 have te0:Tell (λ_=>False) (λ_ _=>False) (λ_=>0) 0 [] []:=⟨cm,rfl,λt=>by simp,λq t l h _=>by simp at h,az _⟩
 obtain⟨ks,pl,y4,y5,y6,y7,te1,l⟩:=L8 (aA (.fz (.lst (gs.map Yc)))) aB gs [] [] _ _ _ 0 [] [] aB aB aB aB te0 (λ_ _ z=>z) g.few (by have:=g.len;simp;omega) (by have:=g.len;simp;omega) (by have:=g.cnt;omega) (λt=>by have:=g.t64 t;omega);have te:Tell (SG gs) (RG gs) (λt=>tlG t gs) (Sd gs) ks pl:=te1.imp (λt=>by simp) (λt k=>by simp) (λt=>by simp) (by omega);have hpair:∀t,SG gs t->∃a b,t= .inl [a,b]:=λt ⟨h,_,x,_,e⟩=>⟨x.1,x.2.1,e⟩
 have hRN:∀t k,RG gs t k->isN k:=λt k ⟨h,hh,x,hx,_,hk⟩=>g.tt h hh x hx k hk;have c:=Zdh te g.cnt hpair g.t64 hRN;have okN:OkK (gs.flatMap HP.ns):=.inl λk hk=>by obtain⟨h,hh,hk⟩:=List.mem_flatMap.mp hk;exact g.nn h hh k hk
 have okM:OkK (gs.flatMap HP.ms):=.inr λk hk=>by obtain⟨h,hh,hk⟩:=List.mem_flatMap.mp hk;exact g.mm h hh k hk
 have r1:=I8 okN g.n64;have r2:=I8 okM g.m64;have k64:ks.length<64:=by obtain⟨ps,h1,h2⟩:=g.p64;exact gm (bx te.nd λt ht=>h2 t ((te.key t).mp ht)) h1
 have tri:∀k∈ks,∃a b,k= .inl [a,b]/\Gm ks pl k=(a,b,rise (Qg ks pl k)):=λk hk=>by obtain⟨a,b,rfl⟩:=hpair k ((te.key k).mp hk);exact⟨a,b,rfl,rfl⟩
 have okT:∀k∈ks,OkK (Qg ks pl k):=λk hk=>.inl λx hx=>hRN k x (((Av te hk).1 x).mp hx);have nde:((ks.map (Gm ks pl)).map Qt).Nodup:=by rw[bi];refine ck.mpr ((gu.mp te.nd).imp fun{x y} ⟨hx,hy,h⟩ e=>h ?_);obtain⟨a,b,e1,e2⟩:=tri x hx;obtain⟨a',b',e1',e2'⟩:=tri y hy;have e:Qt (Gm ks pl x)=Qt (Gm ks pl y):=e;rw[e2,e2']at e;obtain⟨z1,z2⟩:=Zhi e;have z1:a=a':=z1;have z2:b=b':=z2;rw[e1,e1',z1,z2]
 have r3:Oa [.lst ((ks.map (Gm ks pl)).map Y4)]=aA (.ol ((Gk (ks.map (Gm ks pl))).map Y4)):=Zkv (λt ht k hk=>by
   obtain⟨x,hx,rfl⟩:=av.mp ht;obtain⟨a,b,e1,e2⟩:=tri x hx;rw[e2]at hk;exact hRN x k (((Av te hx).1 k).mp (((Ux (okT x hx)).2 k).mp hk))) nde (by rw[ag];exact k64) (Uh _) (L5 _)
 refine⟨⟨rise (gs.flatMap HP.ns),rise (gs.flatMap HP.ms),Gk (ks.map (Gm ks pl))⟩,⟨(Ux okN).1,λk=>?_,(Ux okM).1,λk=>?_,?_,λf v=>?_,λt ht=>?_⟩,?_⟩
 ·rw[(Ux okN).2,List.mem_flatMap]
 ·rw[(Ux okM).2,List.mem_flatMap]
 ·have nd2:((Gk (ks.map (Gm ks pl))).map Qt).Nodup:=(((Uh _).map Qt).nodup_iff).mpr nde;refine((L5 _).and (ck.mp nd2)).imp fun{a b} ⟨h1,h2⟩=>?_;by_cases z:Qt a<Qt b
  ·exact z
  ·exact absurd (List.le_antisymm (dg.mp h1) (dg.mp z)) h2
 ·constructor
  ·rintro⟨l,hl⟩;obtain⟨k,hk,e⟩:=av.mp ((Uh _).mem_iff.mp hl);obtain⟨a,b,e1,e2⟩:=tri k hk;rw[e2]at e;obtain⟨h,hh,x,hx,ex⟩:=(te.key k).mp hk;rw[e1]at ex;have ex:=List.cons.inj (gg.inj ex);have ex2:=(List.cons.inj ex.2).1;have ea:=(Prod.mk.inj e).1;have eb:=(Prod.mk.inj (Prod.mk.inj e).2).1;refine⟨h,hh,x.2.2,?_⟩;rw[<-ea,<-eb,ex.1,ex2];exact hx
  ·rintro⟨h,hh,l,hl⟩;have hk:Yg (f,v,l)∈ks:=(te.key _).mpr ⟨h,hh,_,hl,rfl⟩;exact⟨_,(Uh _).mem_iff.mpr (c8 (f:=Gm ks pl) hk)⟩
 ·obtain⟨k,hk,rfl⟩:=av.mp ((Uh _).mem_iff.mp ht);obtain⟨a,b,e1,e2⟩:=tri k hk;rw[e2];refine⟨(Ux (okT k hk)).1,λx=>?_⟩;show x∈rise (Qg ks pl k)↔_;rw[(Ux (okT k hk)).2,(Av te hk).1 x,e1];constructor
  ·rintro⟨h,hh,y,hy,ey,hx⟩;have ey:=List.cons.inj (gg.inj ey);have ey2:=(List.cons.inj ey.2).1;exact⟨h,hh,y.2.2,by show(a,b,y.2.2)∈h.fs;rw[ey.1,ey2];exact hy,hx⟩
  ·rintro⟨h,hh,l,hl,hx⟩;exact⟨h,hh,_,hl,rfl,hx⟩
 ·rw[dj,dj]at l;have l:Z0 (Zd 4) Gen.W3 (gs.map Yc) [aA (.fz (.lst (gs.map Yc))),aA (.ol []),aA (.ol []),aA (.oX [] []),aB,aB,aB,aB,aB]=_:=l;unfold Gen.Ja Gen.Cg;unfold Xb at l;unfold Op at l;unfold Op at c;rw[show Yc ⟨rise (gs.flatMap HP.ns),rise (gs.flatMap HP.ms),Gk (ks.map (Gm ks pl))⟩=D.tup [.lst ((rise (gs.flatMap HP.ns)).map Zj),.lst ((rise (gs.flatMap HP.ms)).map Zj),.lst ((Gk (ks.map (Gm ks pl))).map Y4)]from rfl];generalize (Gk (ks.map (Gm ks pl))).map Y4=O3 at*;generalize (ks.map (Gm ks pl)).map Y4=O4 at*;generalize (rise (gs.flatMap HP.ns)).map Zj=O1 at*;generalize (rise (gs.flatMap HP.ms)).map Zj=O2 at*;generalize (gs.flatMap HP.ns).map Zj=I1 at*;generalize (gs.flatMap HP.ms).map Zj=I2 at*;generalize gs.map Yc=GS at*;generalize (pl.map λl=>l.map Zj)=PL at*;simp[l,c,r1,r2,r3,jz3,Ls,-Z0,-Ya]
end My
namespace My
open DL PySem TT TX
theorem IsMerge.congr{G G':HP->Prop}{h:HP}(m:IsMerge G h)(e:∀a,G a↔G' a):IsMerge G' h:=by have:G=G':=funext λa=>propext (e a);rw[<-this];exact m
noncomputable abbrev Sj(hs:List HP)(b:Nat):HP:=(hs[b]?).getD ⟨[],[],[]⟩
theorem Rv{hs:List HP}{b:Nat}(hb:b<hs.length):hs[b]? =aA (Sj hs b):=by unfold Sj;rw[aw hb];rfl
noncomputable abbrev Fa(hs:List HP)(p:Nat)(g:HP):Prop:=∃b,RI hs p b/\hs[b]? =aA g
theorem Zhq{hs:List HP}{a b:Nat}(h:shI hs a b):shI hs b a:=let⟨t,h1,h2⟩:=h;⟨t,h2,h1⟩
theorem RI.trans{hs:List HP}{a b c:Nat}(h:RI hs a b)(k:RI hs b c):RI hs a c:=by
 induction k with
 |here=>exact h
 |step _ s ih=>exact .step ih s
theorem RI.symm{hs:List HP}{a b:Nat}(h:RI hs a b):RI hs b a:=by
 induction h with
 |here=>exact .here
 |step _ s ih=>exact(RI.step .here (Zhq s)).trans ih
theorem Xc{hs:List HP}{p:Nat}{a:HP}(hp:hs[p]? =aA a)(g:HP):Fa hs p g↔Conn (· ∈hs) a g:=by
 constructor
 ·rintro⟨b,r,e⟩;have:∀{x y},RI hs x y->x=p->∀g,hs[y]? =aA g->Conn (· ∈hs) a g:=fun{x y} r=>by
   induction r with
   |here=>intro hx g e;rw[hx,hp]at e;cases e;exact .here (b6 hp)
   |step r s ih=>intro hx g e;obtain⟨t,⟨u,eu,tu⟩,⟨v,ev,tv⟩⟩:=s;rw[e]at ev;cases ev;exact .step (ih hx u eu) (b6 e) ⟨t,tu,tv⟩
  exact this r rfl g e
 ·intro c;have:∀{x y},Conn (· ∈hs) x y->hs[p]? =aA x->Fa hs p y:=fun{x y} c=>by
   induction c with
   |here _=>exact λz=>⟨p,.here,z⟩
   |step c' hc sh ih=>intro z;obtain⟨b,r,e⟩:=ih z;obtain⟨q,hq⟩:=List.getElem?_of_mem hc;obtain⟨t,t1,t2⟩:=sh;exact⟨q,.step r ⟨t,⟨_,e,t1⟩,⟨_,hq,t2⟩⟩,hq⟩
  exact this c hp
theorem Dq(w:Nat->Nat):∀(n:Nat) (f:List Nat),f.Nodup->(∀x∈f,x<n)->(f.map w).sum<=((cz n).map w).sum
 |0,f,_,h=>by
  cases f with
  |nil=>simp
  |cons x f=>exact absurd (h x ad) (dz _)
 |n+1,f,nd,h=>by
  rw[List.range_succ,b4,List.sum_append];by_cases hn:n∈f
  ·have pm:=List.perm_cons_erase hn;have nd2:=pm.nodup_iff.mp nd;obtain⟨n1,n2⟩:=d3.mp nd2;have ih:=Dq w n (f.erase n) n2 λx hx=>by have h1:=h x (List.mem_of_mem_erase hx);have h2:x≠n:=λz=>n1 (z▸hx);omega
   rw[(pm.map w).sum_nat,a7,List.sum_cons];simp only[a7,List.map_nil,List.sum_cons,List.sum_nil];omega
  ·have ih:=Dq w n f nd λx hx=>by have h1:=h x hx;have h2:x≠n:=λz=>hn (by rw[<-z];exact hx);omega
   omega
theorem Zhr(w:HP->Nat)(hs:List HP):(cz hs.length).map (λb=>w (Sj hs b))=hs.map w:=by refine List.ext_getElem (by simp) λi h1 h2=>?_;simp at h1;have:=Rv h1;rw[aw h1]at this;rw[List.getElem_map,List.getElem_map,List.getElem_range,<-df.inj this]
structure Tot(hs:List HP):Prop where
 all:Grp hs
 ne:∀h∈hs,h.ns≠[]
theorem Tot.grp{hs:List HP}(T:Tot hs){f:List Nat}(nd:f.Nodup)(lt:∀x∈f,x<hs.length):Grp (f.map (Sj hs)):=by
 have mem:∀h∈f.map (Sj hs),h∈hs:=λh hh=>by obtain⟨b,hb,rfl⟩:=av.mp hh;exact b6 (Rv (lt b hb))
 have le:∀w:HP->Nat,((f.map (Sj hs)).map w).sum<=(hs.map w).sum:=λw=>by rw[bi,<-Zhr w hs];exact Dq (w∘Sj hs) hs.length f nd lt
 have A:=T.all;refine⟨λh hh=>A.few h (mem h hh),λh hh=>A.nn h (mem h hh),λh hh=>A.mm h (mem h hh),λh hh=>A.tt h (mem h hh),?_,?_,λt=>gm (le _) (A.t64 t),?_,dk (le _) A.cnt,?_⟩
 ·have:=A.n64;rw[List.length_flatMap]at this⊢;exact gm (le _) this
 ·have:=A.m64;rw[List.length_flatMap]at this⊢;exact gm (le _) this
 ·rw[ag];have:=Sb nd lt;have:=A.len;omega
 ·obtain⟨ps,h1,h2⟩:=A.p64;exact⟨ps,h1,λt ⟨h,hh,z⟩=>h2 t ⟨h,mem h hh,z⟩⟩
end My
namespace My
open DL PySem TT TX
noncomputable abbrev Dr(HS:List D)(HD:D)(P:List D)(sk:List Nat)(x4 x5 x6:Option SV):Wc:=[aA (.fz (.lst HS)),aA (.fz HD),aA (.ol P),aA (.oK (Jf sk) (Jg sk)),x4,x5,x6]
theorem Na(HS:List D)(HD:D)(P:List D)(x4 x5:Option SV):∀(f sk:List Nat) (x6:Option SV),(sk++f).Nodup->sk.length+f.length<=10000->∃y6,
  Z0 (Zd 6) Gen.Oi (W7 f) (Dr HS HD P sk x4 x5 x6)=aA (.nx (Dr HS HD P (sk++f) x4 x5 y6))
 | [],sk,x6,_,_=>⟨x6,by simp[W7]⟩
 |o::f,sk,x6,nd,hz=>by
  rw[bc]at hz;have e0:(sk++[o])++f=sk++o::f:=by simp
  obtain⟨y6,ih⟩:=Na HS HD P x4 x5 f (sk++[o]) (aA (.fz (.int (o:Int)))) (by rw[e0];exact nd) (by rw[ay];simp;omega);refine⟨y6,?_⟩;have ho:o∉sk:=λz=>(cu.mp nd).2.2 o z o ad rfl;have p:Y3 (Jf sk) (Jg sk) (gg (o:Int)) (.bl aC)=(Jf (sk++[o]),Jg (sk++[o])):=by unfold Y3;rw[if_neg λz=>ho (Bl.mp z)];simp[Jf,Jg]
  have z1:(Jg sk).length<PySem.sizeLine:=Z4 (by simp;omega);have t:Gen.Oi (Dr HS HD P sk x4 x5 (aA (.fz (.int (o:Int)))))=aA (.nx (Dr HS HD P (sk++[o]) x4 x5 (aA (.fz (.int (o:Int)))))):=by unfold Gen.Oi Dr;generalize Jf (sk++[o])=K1 at*;generalize Jg (sk++[o])=K2 at*;generalize Jf sk=K3 at*;generalize Jg sk=K4 at*;simp[p,z1,-Y3]
  show Z0 (Zd 6) Gen.Oi (.int (o:Int)::W7 f) _=_;unfold Z0;rw[show(Zd 6).run (.int (o:Int)) (Dr HS HD P sk x4 x5 x6)=aA (Dr HS HD P sk x4 x5 (aA (.fz (.int (o:Int)))))from by simp];dsimp only[cf];rw[t];dsimp only[cf];rw[ih,e0]
theorem Zhs(hs:List HP)(f:List Nat)(lt:∀x∈f,x<hs.length)(hf:f.length<=10000):
  Ya [.own,.cap 0,.acc] 2 (Zd 0) W0 Gen.Ch (W7 f) [aB,aA (.fz (.lst (hs.map Yc))),aA (.ol [])]=aA [aB,aA (.fz (.lst (hs.map Yc))),aA (.ol ((f.map (Sj hs)).map Yc))]:=by
 let F:D->D:=λd=>match d with| .int i=>Yc (Sj hs i.toNat)|_=>.non
 have c:=Ob (te:=Gen.Ch) (f:=F) (c:=aA (.fz (.lst (hs.map Yc)))) (j:=0) (W7 f) [] (λx hx zs=>by
  obtain⟨b,hb,rfl⟩:=av.mp hx;have ai:=Zmg (Rv (lt b hb));have ef:F (.int (b:Int))=Yc (Sj hs b):=by show Yc (Sj hs ((b:Int)).toNat)=_;rw[gy]
  rw[ef];unfold Gen.Ch;generalize Yc (Sj hs b)=Q at*;generalize hs.map Yc=HS at*;simp[ai]) (by simp[W7];omega)
 have e:(W7 f).map F=(f.map (Sj hs)).map Yc:=by rw[bi,bi];refine fj λb _=>?_;show Yc (Sj hs ((b:Int)).toNat)=Yc (Sj hs b);rw[gy]
 rw[c,dj,e]
structure JI(hs:List HP)(i:Nat)(sk:List Nat)(ps:List HP):Prop where
 nd:sk.Nodup
 lt:∀x∈sk,x<hs.length
 cl:∀a∈sk,∀b,shI hs a b->b∈sk
 upto:∀p,p<i->p∈sk
 each:∀h∈ps,∃a∈sk,IsMerge (Fa hs a) h
 all:∀a∈sk,∃h∈ps,IsMerge (Fa hs a) h
 apart:ps.Pairwise λh h'=>∀k,k∈h.ns->k∉h'.ns
 len:ps.length<=i
theorem JI.ri{hs:List HP}{i:Nat}{sk:List Nat}{ps:List HP}(j:JI hs i sk ps){a b:Nat}(ha:a∈sk)(r:RI hs a b):b∈sk:=by
 induction r with
 |here=>exact ha
 |step _ s ih=>exact j.cl _ ih _ s
theorem Xd(hs:List HP)(T:Tot hs)(ks:List NK)(pl:Xm)(B:Nat)(ho:Hold (Ru hs) B ks pl)(i:Nat)(hi:i<hs.length)(sk:List Nat)(ps:List HP)(j:JI hs i sk ps)(x5 x6:Option SV):∃sk' ps' y5 y6,JI hs (i+1) sk' ps'/\
  Gen.Jm (Dr (hs.map Yc) (Y9 ks pl) (ps.map Yc) sk (aA (.fz (.int (i:Int)))) x5 x6)=aA (.nx (Dr (hs.map Yc) (Y9 ks pl) (ps'.map Yc) sk' (aA (.fz (.int (i:Int)))) y5 y6)):=by
 have h64:=T.all.len;have hB:∀h∈hs,(On h).length<=10000:=λh hh=>by have f:=T.all.few h hh;have:=f.ns;have:=f.ms;rw[ay];omega
 by_cases hs0:i∈sk
 ·refine⟨sk,ps,x5,x6,⟨j.nd,j.lt,j.cl,λp hp=>?_,j.each,j.all,j.apart,by have:=j.len;omega⟩,?_⟩
  ·by_cases e:p=i
   ·rw[e];exact hs0
   ·exact j.upto p (by omega)
  ·obtain⟨v,lk⟩:=Tp (ks:=Jf sk) (vs:=Jg sk) (k:=.inl (i:Int)) (by simp) (Bl.mpr hs0);unfold Gen.Jm Dr;generalize Jf sk=K1 at*;generalize Jg sk=K2 at*;simp[lk,-look]
 ·obtain⟨f,ti,fi,fr,fc,tg⟩:=tied hs ks pl B ho i hs.length (by omega) rfl hB hi (by omega);have out:∀x∈f,x∉sk:=λx hx z=>hs0 (j.ri z (fr x hx).symm);have nd2:(sk++f).Nodup:=cu.mpr ⟨j.nd,ti.nd,λa ha b hb e=>out b hb (by rw[<-e];exact ha)⟩;have fl:=ti.len.1;have skl:=Sb j.nd j.lt;obtain⟨h,m,jh⟩:=join_heaps (f.map (Sj hs)) (T.grp ti.nd ti.lt);have mem:∀g,g∈f.map (Sj hs)↔Fa hs i g:=λg=>by
   constructor
   ·intro z;obtain⟨b,hb,rfl⟩:=av.mp z;exact⟨b,fr b hb,Rv (ti.lt b hb)⟩
   ·rintro⟨b,r,e⟩;have hb:b∈f:=by
     have:∀{x y},RI hs x y->x∈f->y∈f:=fun{x y} r=>by
      induction r with
      |here=>exact id
      |step _ s ih=>exact λz=>fc _ (ih z) _ s
     exact this r fi
    have:=Rv (ti.lt b hb);rw[e]at this;rw[df.inj this];exact c8 hb
  have m:IsMerge (Fa hs i) h:=m.congr mem;obtain⟨y6,sl⟩:=Na (hs.map Yc) (Y9 ks pl) (ps.map Yc) (aA (.fz (.int (i:Int)))) (aA (.fz (.lst (W7 f)))) f sk x6 nd2 (by omega);refine⟨sk++f,ps++[h],aA (.fz (.lst (W7 f))),y6,⟨nd2,λx hx=>?_,λa ha b hab=>?_,λp hp=>?_,λh' hh=>?_,λa ha=>?_,?_,by have:=j.len;simp;omega⟩,?_⟩
  ·rcases bh.mp hx with z|z
   ·exact j.lt x z
   ·exact ti.lt x z
  ·rcases bh.mp ha with z|z
   ·exact b7 _ (j.cl a z b hab)
   ·exact bq _ (fc a z b hab)
  ·by_cases e:p=i
   ·rw[e];exact bq _ fi
   ·exact b7 _ (j.upto p (by omega))
  ·rcases bh.mp hh with z|z
   ·obtain⟨a,ha,m'⟩:=j.each h' z;exact⟨a,b7 _ ha,m'⟩
   ·rw[ao.mp z];exact⟨i,bq _ fi,m⟩
  ·rcases bh.mp ha with z|z
   ·obtain⟨h',hh,m'⟩:=j.all a z;exact⟨h',b7 _ hh,m'⟩
   ·refine⟨h,by simp,m.congr λg=>?_⟩;constructor
    ·rintro⟨b,r,e⟩;exact⟨b,(fr a z).symm.trans r,e⟩
    ·rintro⟨b,r,e⟩;exact⟨b,(fr a z).trans r,e⟩
  ·refine List.pairwise_append.mpr ⟨j.apart,by simp,λh1 hh1 h2 hh2 k k1 k2=>?_⟩;rw[ao.mp hh2]at k2;obtain⟨a,ha,m1⟩:=j.each h1 hh1;obtain⟨u,⟨c,rc,ec⟩,kc⟩:=(m1.ns_m k).mp k1;obtain⟨v,⟨d,rd,ed⟩,kd⟩:=(m.ns_m k).mp k2;have cs:=j.ri ha rc;have ds:=j.cl c cs d ⟨k,⟨u,ec,b7 _ kc⟩,⟨v,ed,b7 _ kd⟩⟩;exact hs0 (j.ri ds rd.symm)
  ·have lk:look (Jf sk) (Jg sk) (.inl (i:Int))=aB:=Iy λz=>hs0 (Bl.mp z);have c:=Zhs hs f ti.lt (by omega);have zp:(ps.map Yc).length<PySem.sizeLine:=Z4 (by have:=j.len;rw[ag];omega);have ep:(ps++[h]).map Yc=ps.map Yc++[Yc h]:=by simp
   rw[ep];rw[show Yc h= .tup [.lst (h.ns.map Zj),.lst (h.ms.map Zj),.lst (h.fs.map Y4)]from rfl]at jh⊢;unfold Gen.Jm;unfold Dr at sl⊢;generalize [D.lst (h.ns.map Zj),.lst (h.ms.map Zj),.lst (h.fs.map Y4)]=HH at*;generalize (f.map (Sj hs)).map Yc=GS at*;generalize hs.map Yc=HS at*;generalize Y9 ks pl=HD at*;generalize ps.map Yc=PP at*;generalize Jf (sk++f)=K1 at*;generalize Jg (sk++f)=K2 at*;generalize Jf sk=K3 at*;generalize Jg sk=K4 at*;generalize W7 f=PF at*;simp[lk,tg,sl,c,jh,zp,-look,-Z0,-Ya]
end My
namespace My
open DL PySem TT TX
theorem Zht{hs:List HP}(T:Tot hs){a:Nat}(ha:a<hs.length){h:HP}(m:IsMerge (Fa hs a) h):HPok h:=by
 have A:=T.all;refine⟨λz=>?_,λk hk=>?_,λk hk=>?_,λt ht k hk=>?_⟩
 ·have e:=Rv ha;have hm:=b6 e;obtain⟨k,l,ek⟩:=g8 (T.ne _ hm);have:=(m.ns_m k).mpr ⟨_,⟨a,.here,e⟩,by rw[ek];exact ad⟩;rw[z]at this;cases this
 ·obtain⟨g,⟨b,_,e⟩,hk⟩:=(m.ns_m k).mp hk;exact A.nn g (b6 e) k hk
 ·obtain⟨g,⟨b,_,e⟩,hk⟩:=(m.ms_m k).mp hk;exact A.mm g (b6 e) k hk
 ·obtain⟨g,⟨b,_,e⟩,l,hl,hk⟩:=((m.fs_l t ht).2 k).mp hk;exact A.tt g (b6 e) _ hl k hk
theorem Ds{h h':HP}(o:HPok h)(o':HPok h')(ap:∀k,k∈h.ns->k∉h'.ns):Q3 h≠Q3 h':=λe=>by
 obtain⟨x,l,ex⟩:=g8 o.ne;obtain⟨y,l',ey⟩:=g8 o'.ne;unfold Q3 at e;rw[ex,ey]at e;have e:O9 x=O9 y:=e;have hx:x∈h.ns:=by rw[ex];exact ad
 have hy:y∈h'.ns:=by rw[ey];exact ad
 obtain⟨u,v,e1⟩:=o.nm x hx;obtain⟨u',v',e2⟩:=o'.nm y hy;have one:OneK x y:=by rw[e1,e2];exact .nm _ _
 have:=Io one e;rw[<-this]at hy;exact ap x hx hy
noncomputable def Nb(ts:List HP):List HP:=ts.mergeSort λa b=>!decide (Q3 b<Q3 a)
theorem Jp(ts:List HP):(Nb ts).Perm ts:=List.mergeSort_perm _ _
theorem Xe(ts:List HP):(Nb ts).Pairwise λa b=>¬Q3 b<Q3 a:=by
 have:=List.pairwise_mergeSort (le:=λa b:HP=>!decide (Q3 b<Q3 a)) (λa b c h1 h2=>by
   simp only[Bool.not_eq_true',decide_eq_false_iff_not]at*;exact dg.mpr (List.le_trans (dg.mp h1) (dg.mp h2))) (λa b=>by
   simp only[Bool.or_eq_true,Bool.not_eq_true',decide_eq_false_iff_not];rcases List.le_total (Q3 a) (Q3 b)with z|z
   ·exact .inl (dg.mpr z)
   ·exact .inr (dg.mpr z)) ts
 exact this.imp fun{a b} h=>by simpa using h
theorem joined(hs:List HP)(T:Tot hs):∃out,IsPool (· ∈hs) out/\(∀h∈out,HPok h)/\out.length<=hs.length/\Gen.Gb [.lst (hs.map Yc)]=aA (.ol (out.map Yc)):=by
 have h64:=T.all.len;have few:∀h∈hs,(On h).length<=126:=λh hh=>by have n:=T.all.n64;have m:=T.all.m64;obtain⟨a,b,rfl⟩:=List.append_of_mem hh;simp only[List.flatMap_append,List.flatMap_cons,ay]at n m;rw[ay];omega
 have hz:Kf hs<=10000:=by
  have:∀l:List HP,(∀h∈l,(On h).length<=126)->Kf l<=126*l.length:=λl=>by
   induction l with
   |nil=>intro _;simp[Kf]
   |cons h l ih=>intro hl;have:=ih λg hg=>hl g (am _ hg);have:=hl h ad;rw[To,bc];omega
  have:=this hs few;omega
 obtain⟨ks,pl,ho,hd⟩:=holders_of hs hz;obtain⟨δ',e,sk,ps,y4,y5,y6,j,hy⟩:=Gv (tg:=Zd 4) (body:=Gen.Jm) (P:=λi δ=>∃sk ps y4 y5 y6,JI hs i sk ps/\δ=Dr (hs.map Yc) (Y9 ks pl) (ps.map Yc) sk y4 y5 y6) hs.length 0 (Dr (hs.map Yc) (Y9 ks pl) [] [] aB aB aB) ⟨[],[],aB,aB,aB,⟨cm,(λ_ z=>nomatch z),(λ_ z=>nomatch z),(λp z=>absurd z (dz _)),(λ_ z=>nomatch z),(λ_ z=>nomatch z),.nil,az _⟩,rfl⟩ (λi _ hi δ ⟨sk,ps,y4,y5,y6,j,hy⟩=>by
  subst hy;rw[Nat.zero_add]at hi;obtain⟨sk',ps',z5,z6,j',t⟩:=Xd hs T ks pl _ ho i hi sk ps j y5 y6;exact⟨Dr (hs.map Yc) (Y9 ks pl) (ps.map Yc) sk (aA (.fz (.int (i:Int)))) y5 y6,_,by simp,t,sk',ps',_,z5,z6,j',rfl⟩)
 subst hy;rw[Nat.zero_add]at j;have ok:∀h∈ps,HPok h:=λh hh=>by obtain⟨a,ha,m⟩:=j.each h hh;exact Zht T (j.lt a ha) m
 have nde:(ps.map Q3).Nodup:=ck.mpr ((gu.mp j.apart).imp fun{a b} ⟨ha,hb,ap⟩=>Ds (ok a ha) (ok b hb) ap);have s:=Zhj ok nde (by have:=j.len;omega) (Jp ps) (Xe ps);have s:Oa [.lst (ps.map Yc)]=aA (.ol ((Nb ps).map Yc)):=s;refine⟨Nb ps,⟨?_,λh hh=>?_,λa ha=>?_⟩,λh hh=>ok h ((Jp ps).mem_iff.mp hh),by rw[(Jp ps).length_eq];exact j.len,?_⟩
 ·have nd2:((Nb ps).map Q3).Nodup:=(((Jp ps).map Q3).nodup_iff).mpr nde;refine((Xe ps).and (ck.mp nd2)).imp fun{a b} ⟨h1,h2⟩=>?_;by_cases z:Q3 a<Q3 b
  ·exact z
  ·exact absurd (List.le_antisymm (dg.mp h1) (dg.mp z)) h2
 ·obtain⟨p,hp,m⟩:=j.each h ((Jp ps).mem_iff.mp hh);have e:=Rv (j.lt p hp);exact⟨_,b6 e,m.congr (Xc e)⟩
 ·obtain⟨p,e⟩:=List.getElem?_of_mem ha;have hp:p<hs.length:=by rcases dv p hs.length with z|z;exact z;rw[dy z]at e;cases e
  obtain⟨h,hh,m⟩:=j.all p (j.upto p hp);exact⟨h,(Jp ps).mem_iff.mpr hh,m.congr (Xc e)⟩
 ·have g1:En (hs.length:Int):=U4 (by omega);have et:((hs.length:Int)).toNat=hs.length:=by omega
  have el:(hs.map Yc).length=hs.length:=ag _;have e:Z0 (Zd 4) Gen.Jm (G3 0 hs.length) [aA (.fz (.lst (hs.map Yc))),aA (.fz (Y9 ks pl)),aA (.ol []),aA (.oK [] []),aB,aB,aB]=_:=e;unfold Gen.Gb Gen.Ir;unfold Dr Y9 at e;unfold Y9 at hd;generalize (Nb ps).map Yc=OS at*;generalize ps.map Yc=PS at*;generalize Jf sk=K1 at*;generalize Jg sk=K2 at*;generalize (pl.map W7).map D.lst=HX at*;generalize hs.map Yc=HS at*;generalize hs.length=N at*;simp[hd,e,s,g1,el,et,Qw,-Z0]
end My
namespace My
open DL PySem TT TX
theorem s1:1<=PySem.sizeLine:=by decide
theorem s2:2<=PySem.sizeLine:=by decide
theorem s3:3<=PySem.sizeLine:=by decide
noncomputable abbrev Yh:Str:=gh "kind"
noncomputable abbrev Om:Str:=gh "note"
noncomputable def Yp(fs ts:List Str)(f:Str):Option Str:=(fs.zip ts).lookup f
theorem Jq:∀(fs ts:List Str) (f:Str),look fs (ts.map D.str) f=(Yp fs ts f).map D.str
 | [],ts,f=>by cases ts<;> rfl
 |_::_,[],f=>rfl
 |x::fs,t::ts,f=>by
  show(if x=f then aA (D.str t)else look fs (ts.map D.str) f)=_;rw[Jq fs ts f];unfold Yp;rw[List.zip_cons_cons,List.lookup_cons];by_cases h:x=f
  ·subst h;simp
  ·have:(f==x)=aD:=beq_eq_false_iff_ne.mpr λz=>h z.symm;rw[if_neg h,this]
noncomputable abbrev Nc(kind:Str)(fs ts:List Str):D:=.tup [.str kind,.dK (Zy fs) (ts.map D.str)]
theorem own_texts(kind:Str)(fs ts:List Str)(hl:fs.length=ts.length)(hz:ts.length<=1000)(hk:Yh∉fs):Gen.Qy [Nc kind fs ts]=aA (.oK (Zy (fs++[Yh])) ((ts++[kind]).map D.str)):=by
 have hp:Y3 (Zy fs) (ts.map D.str) (da Yh) (.str kind)=(Zy (fs++[Yh]),(ts++[kind]).map D.str):=by rw[Mn,Mo hk];simp
 have z:(ts.map D.str).length<PySem.sizeLine:=Z4 (by simp;omega);have at1:∀a b:D,L2.atI [a,b] 1=aA b:=λ_ _=>rfl;have at0:∀a b:D,L2.atI [a,b] 0=aA a:=λ_ _=>rfl;unfold Nc Gen.Qy Gen.Gc;generalize ts.map D.str=TS at*;generalize Zy fs=FS at*;simp[at1,at0,hp,z,-Y3]
noncomputable def Qh(fs ts:List Str):Nat->List (List Str)->List NK
 |_,[]=>[]
 |i,r::rs=>(match r.mapM (Yp fs ts)with|some l=>[(.inr ((i:Int),l):NK)]|none=>[])++Qh fs ts (i+1) rs
noncomputable abbrev Z6(r:List Str):D:=.lst (r.map D.str)
noncomputable def Zsr(fs ts:List Str):D->D
 | .str f=>.bl (Yp fs ts f).isSome
 |_=>.non
noncomputable def Zmh(fs ts:List Str):D->D
 | .str f=>.str ((Yp fs ts f).getD "")
 |_=>.non
theorem Zhu(fs ts:List Str)(j:Nat)(r:List Str)(hr:r.length<=100):
  Ya [.own,.cap j,.acc] 2 (Zd 0) W0 Gen.Ur (r.map D.str) [aB,aA (.fz (.dK (Zy fs) (ts.map D.str))),aA (.ol [])]=aA [aB,aA (.fz (.dK (Zy fs) (ts.map D.str))),aA (.ol (r.map λf=>.bl (Yp fs ts f).isSome))]:=by
 have c:=Ob (te:=Gen.Ur) (f:=Zsr fs ts) (c:=aA (.fz (.dK (Zy fs) (ts.map D.str)))) (j:=j) (r.map D.str) [] (λx hx zs=>by
  obtain⟨f,hf,rfl⟩:=av.mp hx;have l:=(Ub f fs (ts.map D.str)).trans (Jq fs ts f);unfold Gen.Ur Zsr;generalize ts.map D.str=TS at*;generalize Zy fs=FS at*;simp[l,-look]) (by rw[ag];simp;omega)
 rw[c,dj,bi];rfl
theorem Zhv(fs ts:List Str)(j:Nat)(r:List Str)(hr:r.length<=100)(hh:∀f∈r,(Yp fs ts f).isSome):
  Ya [.own,.cap j,.acc] 2 (Zd 0) W0 Gen.Us (r.map D.str) [aB,aA (.fz (.dK (Zy fs) (ts.map D.str))),aA (.ol [])]=aA [aB,aA (.fz (.dK (Zy fs) (ts.map D.str))),aA (.ol (r.map λf=>.str ((Yp fs ts f).getD "")))]:=by
 have c:=Ob (te:=Gen.Us) (f:=Zmh fs ts) (c:=aA (.fz (.dK (Zy fs) (ts.map D.str)))) (j:=j) (r.map D.str) [] (λx hx zs=>by
  obtain⟨f,hf,rfl⟩:=av.mp hx;have l:=(Ub f fs (ts.map D.str)).trans (Jq fs ts f);obtain⟨v,hv⟩:=Option.isSome_iff_exists.mp (hh f hf);rw[hv]at l;have g:Zmh fs ts (.str f)= .str v:=by show D.str ((Yp fs ts f).getD "")=_;rw[hv];rfl
  rw[g];unfold Gen.Us;generalize ts.map D.str=TS at*;generalize Zy fs=FS at*;simp[l,-look]) (by rw[ag];simp;omega)
 rw[c,dj,bi];rfl
theorem Fb(fs ts:List Str):∀r:List Str,r.mapM (Yp fs ts)=if(∀f∈r,(Yp fs ts f).isSome)then aA (r.map λf=>(Yp fs ts f).getD "")else aB
 | []=>by simp
 |f::r=>by
  rw[List.mapM_cons,Fb fs ts r];cases h:Yp fs ts f with
  |none=>simp[h]
  |some v=>
   by_cases h2:∀f∈r,(Yp fs ts f).isSome
   ·rw[if_pos h2,if_pos λg hg=>(bo.mp hg).elim (λz=>by rw[z,h];rfl) λz=>h2 g z];simp[h]
   ·rw[if_neg h2,if_neg λz=>h2 λg hg=>z g (am _ hg)];rfl
theorem Nd:∀(r:List Str) (p:Str->Bool),bools? (r.map λf=>D.bl (p f))=aA (r.map p)
 | [],p=>rfl
 |f::r,p=>by have:=Nd r p;rw[a7,a7];simp[this]
theorem Dt(fs ts:List Str)(R:Option SV)(M:List NK)(n:Nat)(r:List Str)(hr:r.length<=100)(hM:M.length<=100):
  Gen.Jb [aA (.fz (.dK (Zy fs) (ts.map D.str))),R,aA (.ol (M.map Zj)),aA (.fz (.int (n:Int))),aA (.fz (Z6 r))]=
  aA (.nx [aA (.fz (.dK (Zy fs) (ts.map D.str))),R,aA (.ol ((M++(match r.mapM (Yp fs ts)with|some l=>[(.inr ((n:Int),l):NK)]|none=>[])).map Zj)),aA (.fz (.int (n:Int))),aA (.fz (Z6 r))]):=by
 have h1:=Zhu fs ts 0 r hr;have b:=Nd r λf=>(Yp fs ts f).isSome;have z1:M.length<PySem.sizeLine:=Z4 (by omega);unfold Gen.Jb;rw[Fb];by_cases h:∀f∈r,(Yp fs ts f).isSome
 ·have h2:=Zhv fs ts 0 r hr h;rw[if_pos h];have al:(r.map λf=>(Yp fs ts f).isSome).all id=aC:=by rw[List.all_map];exact ie.mpr λf hf=>h f hf
  generalize ts.map D.str=TS at*;generalize Zy fs=FS at*;simp[h1,h2,b,al,z1,s2,-Ya];unfold Zj;simp
 ·rw[if_neg h];have al:(r.map λf=>(Yp fs ts f).isSome).all id=aD:=by rw[List.all_map,Bool.eq_false_iff];exact λz=>h λf hf=>ie.mp z f hf
  generalize ts.map D.str=TS at*;generalize Zy fs=FS at*;simp[h1,b,al,z1,-Ya]
theorem Fc(fs ts:List Str)(R:Option SV):∀(rs:List (List Str)) (n:Nat) (M:List NK) (x3 x4:Option SV),(∀r∈rs,r.length<=100)->M.length+rs.length<=100->∃y3 y4,
  Z0 (We 2 (Zs (Zd 3) (Zs (Zd 4) Wg))) Gen.Jb (((rs.map Z6).zipIdx n).map λp=>D.tup [.int (p.2:Nat),p.1]) [aA (.fz (.dK (Zy fs) (ts.map D.str))),R,aA (.ol (M.map Zj)),x3,x4]=
  aA (.nx [aA (.fz (.dK (Zy fs) (ts.map D.str))),R,aA (.ol ((M++Qh fs ts n rs).map Zj)),y3,y4])
 | [],n,M,x3,x4,_,_=>⟨x3,x4,by simp[Qh]⟩
 |r::rs,n,M,x3,x4,hr,hM=>by
  rw[bc]at hM;have t:=Dt fs ts R M n r (hr r ad) (by omega);obtain⟨y3,y4,ih⟩:=Fc fs ts R rs (n+1) (M++(match r.mapM (Yp fs ts)with|some l=>[(.inr ((n:Int),l):NK)]|none=>[])) (aA (.fz (.int (n:Int)))) (aA (.fz (Z6 r))) (λq hq=>hr q (am _ hq)) (by
   rw[ay];cases r.mapM (Yp fs ts)<;> simp<;> omega)
  refine⟨y3,y4,?_⟩;rw[a7,List.zipIdx_cons,a7,Qh];rw[c7]at ih;have e:∀δ,(We 2 (Zs (Zd 3) (Zs (Zd 4) Wg))).run (.tup [.int (n:Nat),Z6 r]) [aA (.fz (.dK (Zy fs) (ts.map D.str))),R,aA (.ol (M.map Zj)),x3,x4]=aA δ->δ=[aA (.fz (.dK (Zy fs) (ts.map D.str))),R,aA (.ol (M.map Zj)),aA (.fz (.int (n:Int))),aA (.fz (Z6 r))]:=λδ h=>by simpa using h.symm
  unfold Z0;generalize ts.map D.str=TS at*;generalize Zy fs=FS at*;rw[show(We 2 (Zs (Zd 3) (Zs (Zd 4) Wg))).run (.tup [.int (n:Nat),Z6 r]) [aA (.fz (.dK FS TS)),R,aA (.ol (M.map Zj)),x3,x4]=aA [aA (.fz (.dK FS TS)),R,aA (.ol (M.map Zj)),aA (.fz (.int (n:Int))),aA (.fz (Z6 r))]from by simp];dsimp only[cf];rw[t];exact ih
theorem marks_of(fs ts:List Str)(rs:List (List Str))(hr:∀r∈rs,r.length<=100)(hn:rs.length<=100):Gen.Oj [.dK (Zy fs) (ts.map D.str),.lst (rs.map Z6)]=aA (.ol ((Qh fs ts 0 rs).map Zj)):=by obtain⟨y3,y4,e⟩:=Fc fs ts (aA (.fz (.lst (rs.map Z6)))) rs 0 [] aB aB hr (by simpa using hn);rw[dj]at e;have e2:Q5 (rs.map Z6)=(((rs.map Z6).zipIdx 0).map λp=>D.tup [.int (p.2:Nat),p.1]):=rfl;unfold Gen.Oj Gen.Rr;rw[<-e2]at e;generalize ts.map D.str=TS at*;generalize Zy fs=FS at*;generalize rs.map Z6=RS at*;generalize (Qh fs ts 0 rs).map Zj=MS at*;have e:Z0 (We 2 (Zs (Zd 3) (Zs (Zd 4) Wg))) Gen.Jb (Q5 RS) [aA (.fz (.dK FS TS)),aA (.fz (.lst RS)),aA (.ol []),aB,aB]=_:=e;simp[e,-Z0]
structure Wk where
 key:Str
 kind:Str
 fs:List Str
 ts:List Str
structure WkOk(w:Wk):Prop where
 len:w.fs.length=w.ts.length
 nd:w.fs.Nodup
 few:w.fs.length<=10
 nk:Yh∉w.fs
noncomputable abbrev Wk.at'(w:Wk):List Str:=w.fs++[Yh]
noncomputable abbrev Wk.vt(w:Wk):List Str:=w.ts++[w.kind]
noncomputable abbrev Wk.val(w:Wk)(f:Str):Str:=(Yp w.at' w.vt f).getD ""
noncomputable abbrev Wk.d(w:Wk):D:=Nc w.kind w.fs w.ts
noncomputable abbrev Jc(b k:Str):NK:=.inl [b,k]
noncomputable def Wk.tri(b:Str)(w:Wk):List T4:=(w.at'.filter λf=>decide (f≠Om)).map λf=>(f,w.val f,[Jc b w.key])
noncomputable abbrev Wk.marks(rs:List (List Str))(w:Wk):List NK:=Qh w.at' w.vt 0 rs
noncomputable def Wy(b:Str)(rs:List (List Str))(w:Wk):HP:=⟨[Jc b w.key],w.marks rs,w.tri b⟩
theorem Mv:∀(fs ts:List Str) (f:Str),fs.length=ts.length->(f∈fs↔(Yp fs ts f).isSome=aC)
 | [],[],f,_=>by simp[Yp]
 | [],_::_,f,h=>by simp at h
 |_::_,[],f,h=>by simp at h
 |x::fs,t::ts,f,h=>by
  have ih:=Mv fs ts f (by simpa using h);unfold Yp at*;rw[List.zip_cons_cons,List.lookup_cons,bo,ih];by_cases e:f=x
  ·subst e;simp
  ·have:(f==x)=aD:=beq_eq_false_iff_ne.mpr e;rw[this];simp[e]
theorem Tq(fs ts:List Str)(nm:D)(hl:fs.length=ts.length):∀(xs:List Str) (zs:List D),(∀x∈xs,x∈fs)->zs.length+xs.length<=1000->
  Ya [.own,.cap 3,.cap 0,.acc] 3 (Zd 0) Gen.Ql Gen.Jv (xs.map D.str) [aB,aA (.fz (.dK (Zy fs) (ts.map D.str))),aA (.fz nm),aA (.ol zs)]=
  aA [aB,aA (.fz (.dK (Zy fs) (ts.map D.str))),aA (.fz nm),aA (.ol (zs++(xs.filter λf=>decide (f≠Om)).map λf=>D.tup [.str f,.str ((Yp fs ts f).getD ""),.lst [nm]]))]
 | [],zs,_,_=>by simp
 |x::xs,zs,h,hz=>by
  rw[bc]at hz;obtain⟨v,hv⟩:=Option.isSome_iff_exists.mp ((Mv fs ts x hl).mp (h x ad));have l:=(Ub x fs (ts.map D.str)).trans (Jq fs ts x);rw[hv]at l;have z1:zs.length<PySem.sizeLine:=Z4 (by omega);rw[a7,List.filter_cons];unfold Ya;by_cases hx:x=Om
  ·have ih:=Tq fs ts nm hl xs zs (λy hy=>h y (am _ hy)) (by omega);rw[if_neg (by simp[hx])];generalize ts.map D.str=TS at*;generalize Zy fs=FS at*;rw[show Gen.Ql=Yy (Zn neX (Za 0) (Zg (.str "note")))from rfl]at*;simp[hx,-Ya,-look];simpa[-Ya,-look]using ih
  ·have ih:=Tq fs ts nm hl xs (zs++[D.tup [.str x,.str ((Yp fs ts x).getD ""),.lst [nm]]]) (λy hy=>h y (am _ hy)) (by rw[ay];simp;omega);rw[if_pos (by simp[hx]),a7];rw[c7]at ih;generalize ts.map D.str=TS at*;generalize Zy fs=FS at*;have e0:∀q,Gen.Ql [aA (SV.fz (D.str x)),aA (.fz (.dK FS TS)),aA (.fz nm),aA (.ol q)]=aA (aC,[aA (SV.fz (D.str x)),aA (.fz (.dK FS TS)),aA (.fz nm),aA (.ol q)]):=λq=>by unfold Gen.Ql;simp[hx]
   have e1:∀q,Gen.Jv [aA (SV.fz (D.str x)),aA (.fz (.dK FS TS)),aA (.fz nm),aA (.ol q)]=aA (.tmp (.fz (D.tup [.str x,.str v,.lst [nm]])),[aA (SV.fz (D.str x)),aA (.fz (.dK FS TS)),aA (.fz nm),aA (.ol q)]):=λq=>by unfold Gen.Jv;simp[l,s1,s3,-look]
   rw[hv]at ih⊢;simp[e0,e1,z1,-Ya,-look];simpa[-Ya,-look]using ih
theorem Tr(xs:List Str):(Zy xs).map Tc=xs.map D.str:=by rw[bi];rfl
theorem lone_heap(b:Str)(rs:List (List Str))(w:Wk)(ok:WkOk w)(hr:∀r∈rs,r.length<=100)(hn:rs.length<=100):
  Gen.Qz [Zj (Jc b w.key),w.d,.lst (rs.map Z6)]=aA (.fz (Yc (Wy b rs w))):=by
 have o:Gen.Qy [w.d]=aA (.oK (Zy w.at') (w.vt.map D.str)):=own_texts w.kind w.fs w.ts ok.len (by have:=ok.len;have:=ok.few;omega) ok.nk;have hl:w.at'.length=w.vt.length:=by simp[ok.len]
 have m:=marks_of w.at' w.vt rs hr hn;have c:=Tq w.at' w.vt (Zj (Jc b w.key)) hl w.at' [] (λx hx=>hx) (by have:=ok.few;simp;omega);have ek:=Tr w.at';have el:(Wy b rs w).fs.map Y4=(w.at'.filter λf=>decide (f≠Om)).map λf=>D.tup [.str f,.str (w.val f),.lst [Zj (Jc b w.key)]]:=by show(w.tri b).map Y4=_;unfold Wk.tri;rw[bi];rfl
 have en:(Wy b rs w).ns.map Zj=[Zj (Jc b w.key)]:=rfl;have em:(Wy b rs w).ms=w.marks rs:=rfl;unfold Gen.Qz Gen.Gd Yc;rw[el,en,em];rw[dj]at c;have ev:∀f,w.val f=(Yp w.at' w.vt f).getD "":=λ_=>rfl;generalize Zj (Jc b w.key)=NM at*;generalize hM:(w.marks rs).map Zj=MS at*;generalize w.d=W at*;generalize w.at'=AT at*;generalize w.vt=VT at*;generalize VT.map D.str=TS at*;generalize Zy AT=FS at*;simp[o,m,c,ek,s1,s3,hM,ev,-Ya,-look]
noncomputable abbrev Yk(ws:List Wk):D:=.dK (Zy (ws.map Wk.key)) (ws.map Wk.d)
theorem Ck{ws:List Wk}(nd:(ws.map Wk.key).Nodup){w:Wk}(h:w∈ws):look (Zy (ws.map Wk.key)) (ws.map Wk.d) (da w.key)=aA w.d:=by rw[Ub];obtain⟨i,hi,rfl⟩:=fq h;exact Zhd nd (by simp) i _ _ (by simp[hi]) (by simp[hi])
theorem Nf(b:Str)(rs:List (List Str))(ws:List Wk)(nd:(ws.map Wk.key).Nodup)(ok:∀w∈ws,WkOk w)(hr:∀r∈rs,r.length<=100)(hn:rs.length<=100):∀(xs:List Wk) (zs:List D),(∀x∈xs,x∈ws)->zs.length+xs.length<=1000->
  Ya [.own,.cap 2,.cap 0,.cap 1,.acc] 4 (Zd 0) W0 Gen.Ox ((xs.map Wk.key).map D.str) [aB,aA (.fz (.lst (rs.map Z6))),aA (.fz (.str b)),aA (.fz (Yk ws)),aA (.ol zs)]=
  aA [aB,aA (.fz (.lst (rs.map Z6))),aA (.fz (.str b)),aA (.fz (Yk ws)),aA (.ol (zs++(xs.map (Wy b rs)).map Yc))]
 | [],zs,_,_=>by simp
 |x::xs,zs,h,hz=>by
  rw[bc]at hz;have ih:=Nf b rs ws nd ok hr hn xs (zs++[Yc (Wy b rs x)]) (λy hy=>h y (am _ hy)) (by rw[ay];simp;omega);have hx:=h x ad;have l:=Ck nd hx;have lo:Gen.Qz [.tup [.str b,.str x.key],x.d,.lst (rs.map Z6)]=aA (.fz (Yc (Wy b rs x))):=lone_heap b rs x (ok x hx) hr hn;have z1:zs.length<PySem.sizeLine:=Z4 (by omega);rw[c7]at ih;rw[a7,a7,a7,a7];have e1:∀q,Gen.Ox [aA (.fz (.str x.key)),aA (.fz (.lst (rs.map Z6))),aA (.fz (.str b)),aA (.fz (Yk ws)),aA (.ol q)]=aA (.tmp (.fz (Yc (Wy b rs x))),[aA (.fz (.str x.key)),aA (.fz (.lst (rs.map Z6))),aA (.fz (.str b)),aA (.fz (Yk ws)),aA (.ol q)]):=λq=>by unfold Gen.Ox;unfold Yk;unfold Yc at lo⊢;generalize [D.lst ((Wy b rs x).ns.map Zj),.lst ((Wy b rs x).ms.map Zj),.lst ((Wy b rs x).fs.map Y4)]=HH at*;generalize x.d=XD at*;generalize ws.map Wk.d=WD at*;generalize Zy (ws.map Wk.key)=WK at*;generalize rs.map Z6=RD at*;simp[l,lo,s2,-look]
  unfold Yk at e1 ih⊢;generalize Yc (Wy b rs x)=HH at*;generalize ws.map Wk.d=WD at*;generalize Zy (ws.map Wk.key)=WK at*;generalize rs.map Z6=RD at*;unfold Ya;simp[e1,z1,-Ya];simpa[-Ya]using ih
theorem Zss{w:Wk}(ok:WkOk w):w.at'.Nodup:=cu.mpr ⟨ok.nd,by simp,λa ha c hc e=>ok.nk (by rw[<-ao.mp hc,<-e];exact ha)⟩
theorem Gn:∀(fs ts:List Str) (rs:List (List Str)) (n:Nat),∀m∈Qh fs ts n rs,∃(j:Nat) (l:List Str),m= .inr ((j:Int),l)/\n<=j/\∃r,rs[j- n]? =aA r/\r.mapM (Yp fs ts)=aA l
 |fs,ts,[],n,m,h=>nomatch h
 |fs,ts,r::rs,n,m,h=>by
  rw[Qh]at h;rcases bh.mp h with z|z
  ·cases e:r.mapM (Yp fs ts)with
   |none=>rw[e]at z;cases z
   |some l=>rw[e]at z;exact⟨n,l,ao.mp z,az _,r,by simp,e⟩
  ·obtain⟨j,l,e,hj,r',h1,h2⟩:=Gn fs ts rs (n+1) m z;refine⟨j,l,e,by omega,r',?_,h2⟩;rw[show j- n=(j- (n+1))+1 by omega];exact h1
theorem Gy:∀(fs ts:List Str) (rs:List (List Str)) (n:Nat),(Qh fs ts n rs).length<=rs.length
 |fs,ts,[],n=>az _
 |fs,ts,r::rs,n=>by rw[Qh,ay,bc];have:=Gy fs ts rs (n+1);cases r.mapM (Yp fs ts)<;> simp<;> omega
structure Shw(rs:List (List Str))(ws:List Wk):Prop where
 nd:(ws.map Wk.key).Nodup
 ok:∀w∈ws,WkOk w
 few:ws.length<=40
 m64:ws.length*rs.length<64
 rl:∀r∈rs,r.length<=100
 rn:rs.length<=60
theorem Ng(b:Str)(w:Wk)(ok:WkOk w):((w.tri b).map Yg).Nodup:=by unfold Wk.tri;rw[bi];refine ck.mpr (((Zss ok).filter _).imp fun{x y} h e=>h ?_);have e:=gg.inj e;exact(List.cons.inj e).1
theorem Zbq(t:NK):∀fs:List T4,(fs.map Yg).Nodup->(∀x∈fs,x.2.2.length=1)->Xo t fs<=1
 | [],_,_=>by simp[Xo]
 |x::fs,nd,h=>by
  obtain⟨n1,n2⟩:=d3.mp nd;have ih:=Zbq t fs n2 λy hy=>h y (am _ hy);rw[Mu];by_cases e:Yg x=t
  ·have z:Xo t fs=0:=by
    have:∀l:List T4,t∉l.map Yg->Xo t l=0:=λl=>by
     induction l with
     |nil=>intro _;simp[Xo]
     |cons y l ih=>intro hn;rw[Mu,if_neg λz=>hn (by rw[<-z];simp),ih λz=>hn (am _ z)]
    exact this fs (by rw[<-e];exact n1)
   rw[if_pos e,z,h x ad];decide
  ·rw[if_neg e];omega
theorem W5{α:Type}(w:α->Nat)(B:Nat):∀l:List α,(∀x∈l,w x<=B)->(l.map w).sum<=l.length*B
 | [],_=>by simp
 |x::l,h=>by have:=W5 w B l λy hy=>h y (am _ hy);have:=h x ad;rw[a7,List.sum_cons,bc,Nat.add_mul];omega
theorem Zhw(b:Str)(rs:List (List Str))(ws:List Wk)(s:Shw rs ws)(hp:∃ps:List NK,ps.length<64/\∀w∈ws,∀x∈w.tri b,Yg x∈ps):Tot (ws.map (Wy b rs)):=by
 have few:=s.few;have tl1:∀w:Wk,∀x∈w.tri b,x.2.2=[Jc b w.key]:=λw x hx=>by obtain⟨f,_,rfl⟩:=av.mp hx;rfl
 have ml:∀w:Wk,(w.marks rs).length<=rs.length:=λw=>Gy w.at' w.vt rs 0;have fl:∀w∈ws,(w.tri b).length<=11:=λw hw=>by
  unfold Wk.tri;rw[ag];have:=List.length_filter_le (λf=>decide (f≠Om)) w.at';have h2:w.at'.length=w.fs.length+1:=by simp
  have:=(s.ok w hw).few;omega
 refine⟨⟨λh hh=>?_,λh hh k hk=>?_,λh hh k hk=>?_,λh hh x hx k hk=>?_,?_,?_,λt=>?_,by rw[ag];omega,?_,?_⟩,λh hh=>?_⟩
 ·obtain⟨w,hw,rfl⟩:=av.mp hh;have:=ml w;have:=s.rn;exact⟨by show[Jc b w.key].length<=_;simp,by show(w.marks rs).length<=_;omega,λx hx=>by rw[tl1 w x hx];simp⟩
 ·obtain⟨w,hw,rfl⟩:=av.mp hh;exact⟨b,[w.key],ao.mp hk⟩
 ·obtain⟨w,hw,rfl⟩:=av.mp hh;obtain⟨j,l,e,_⟩:=Gn _ _ _ _ k (show k∈w.marks rs from hk);exact⟨j,l,e⟩
 ·obtain⟨w,hw,rfl⟩:=av.mp hh;rw[tl1 w x hx]at hk;exact⟨b,[w.key],ao.mp hk⟩
 ·rw[List.length_flatMap,bi];have:=W5 ((λh:HP=>h.ns.length)∘Wy b rs) 1 ws λw _=>az _;exact gm this (by omega)
 ·rw[List.length_flatMap,bi];exact gm (W5 ((λh:HP=>h.ms.length)∘Wy b rs) rs.length ws λw _=>ml w) s.m64
 ·unfold tlG;rw[bi];have:=W5 ((λh:HP=>Xo t h.fs)∘Wy b rs) 1 ws λw hw=>Zbq t (w.tri b) (Ng b w (s.ok w hw)) λx hx=>by rw[tl1 w x hx];rfl
  exact gm this (by omega)
 ·unfold Sd;rw[bi];have:=W5 ((λh:HP=>h.fs.length)∘Wy b rs) 11 ws λw hw=>fl w hw;exact dk this (by omega)
 ·obtain⟨ps,h1,h2⟩:=hp;refine⟨ps,h1,λt zq9=>?_⟩;obtain⟨h,hh,x,hx,e⟩:=zq9;obtain⟨w,hw,rfl⟩:=av.mp hh;rw[e];exact h2 w hw x hx
 ·obtain⟨w,hw,rfl⟩:=av.mp hh;exact λz=>nomatch z
theorem pool_of(b:Str)(rs:List (List Str))(ws:List Wk)(s:Shw rs ws)(hp:∃ps:List NK,ps.length<64/\∀w∈ws,∀x∈w.tri b,Yg x∈ps):∃out,IsPool (· ∈ws.map (Wy b rs)) out/\(∀h∈out,HPok h)/\out.length<=ws.length/\Gen.Q0 [.str b,Yk ws,.lst (rs.map Z6)]=aA (.ol (out.map Yc)):=by have c:=Nf b rs ws s.nd s.ok s.rl (by have:=s.rn;omega) ws [] (λ_ h=>h) (by have:=s.few;simp;omega);rw[dj]at c;obtain⟨out,p,ok,len,j⟩:=joined (ws.map (Wy b rs)) (Zhw b rs ws s hp);refine⟨out,p,ok,by rw[ag]at len;exact len,?_⟩;have ek:=Tr (ws.map Wk.key);unfold Gen.Q0 Gen.Tn;unfold Yk at c⊢;generalize out.map Yc=OUT at*;generalize (ws.map (Wy b rs)).map Yc=LH at*;generalize ws.map Wk.d=WD at*;generalize Zy (ws.map Wk.key)=WK at*;generalize rs.map Z6=RD at*;generalize (ws.map Wk.key).map D.str=KS at*;simp[c,j,ek,-Ya]
end My
namespace My
open DL PySem TT TX
theorem Fd{S:HP->Prop}{P:List HP}(p:IsPool S P):P.Pairwise λh h'=>∀t,t∈On h->t∉On h':=by
 refine(gu.mp p.sorted).imp fun{h h'} ⟨hh,hh',lt⟩ t t1 t2=>?_;obtain⟨a,sa,m⟩:=p.each h hh;obtain⟨a',sa',m'⟩:=p.each h' hh';obtain⟨b,c,tb⟩:=(m.tie t).mp t1;obtain⟨b',c',tb'⟩:=(m'.tie t).mp t2;have cc:Conn S a a':=(Conn.step c c'.right ⟨t,tb,tb'⟩).trans c'.symm;have:h=h':=m.uniq m' λx=>⟨λz=>cc.symm.trans z,λz=>cc.trans z⟩
 rw[this]at lt;exact f6 _ lt
end My
namespace My
open DL PySem TT TX
noncomputable def Num(x:Int):Prop:=0<=x/\x<2147483647
theorem Zhx{m:Int}(h:0<m/\m<=2147483647)(x:Int):Num (x % m):=⟨gb _ (by omega),Int.lt_of_lt_of_le (d7 _ h.1) h.2⟩
theorem Rb(a b:Option SV):∀(n s:Nat) (ms:List Int) (x:Int) (y:Option SV),(∀m∈ms,Num m)->ms.length+n<=1000->
  ∃(ms':List Int) (x':Int) (y':Option SV),Z0 (Zd 4) Gen.Qp (G3 s n) [a,b,aA (.ol (ms.map D.int)),aA (.fz (.int x)),y]=aA (.nx [a,b,aA (.ol (ms'.map D.int)),aA (.fz (.int x')),y'])/\(∀m∈ms',Num m)/\ms'.length=ms.length+n
 |0,s,ms,x,y,h,_=>⟨ms,x,y,rfl,h,rfl⟩
 |n+1,s,ms,x,y,h,hl=>by
  have z:ms.length<PySem.sizeLine:=Z4 (by omega);have hb:Gen.Qp [a,b,aA (.ol (ms.map D.int)),aA (.fz (.int x)),aA (.fz (.int (s:Int)))]=aA (.nx [a,b,aA (.ol ((ms++[x % 5040]).map D.int)),aA (.fz (.int (x / 5040))),aA (.fz (.int (s:Int)))]):=by unfold Gen.Qp;simp[z]
  obtain⟨ms',x',y',e,h1,h2⟩:=Rb a b n (s+1) (ms++[x % 5040]) (x / 5040) (aA (.fz (.int (s:Int)))) (λm hm=>by
   rcases bh.mp hm with hm|hm
   ·exact h m hm
   ·rw[ao.mp hm];exact Zhx (by decide) _) (by rw[ay,d8];omega)
  refine⟨ms',x',y',(Y2 (ds:=G3 (s+1) n) (by simp) hb).trans e,h1,by rw[h2,ay,d8];omega⟩
theorem Rc(a b:Option SV):∀(n s:Nat) (ms:List Int) (x:Int) (y:Option SV),(∀m∈ms,Num m)->ms.length+n<=1000->
  ∃(ms':List Int) (x':Int) (y':Option SV),Z0 (Zd 4) Gen.Qq (G3 s n) [a,b,aA (.ol (ms.map D.int)),aA (.fz (.int x)),y]=aA (.nx [a,b,aA (.ol (ms'.map D.int)),aA (.fz (.int x')),y'])/\(∀m∈ms',Num m)/\ms'.length=ms.length+n
 |0,s,ms,x,y,h,_=>⟨ms,x,y,rfl,h,rfl⟩
 |n+1,s,ms,x,y,h,hl=>by
  have z:ms.length<PySem.sizeLine:=Z4 (by omega);have hb:Gen.Qq [a,b,aA (.ol (ms.map D.int)),aA (.fz (.int x)),aA (.fz (.int (s:Int)))]=aA (.nx [a,b,aA (.ol ((ms++[(x+(s:Int)+1)*48271 % 2147483647*69621 % 2147483629]).map D.int)),aA (.fz (.int ((x+(s:Int)+1)*48271 % 2147483647))),aA (.fz (.int (s:Int)))]):=by have hm:=Hm (i:=x+(s:Int)+1) (j:=48271) (by omega);have hm2:=Hm (i:=(x+(s:Int)+1)*48271 % 2147483647) (j:=69621) (by omega);unfold Gen.Qq;simp[hm,hm2,z]
  obtain⟨ms',x',y',e,h1,h2⟩:=Rc a b n (s+1) (ms++[(x+(s:Int)+1)*48271 % 2147483647*69621 % 2147483629]) ((x+(s:Int)+1)*48271 % 2147483647) (aA (.fz (.int (s:Int)))) (λm hm=>by
   rcases bh.mp hm with hm|hm
   ·exact h m hm
   ·rw[ao.mp hm];exact Zhx (by decide) _) (by rw[ay,d8];omega)
  refine⟨ms',x',y',(Y2 (ds:=G3 (s+1) n) (by simp) hb).trans e,h1,by rw[h2,ay,d8];omega⟩
theorem Fe(c:Int)(n:Nat)(h:n<=1000):∃ms:List Int,Gen.Yq [.int c,.int (n:Int)]=aA (.ol (ms.map D.int))/\(∀m∈ms,Num m)/\ms.length=n:=by
 have g1:En (n:Int):=U4 (by omega);have et:((n:Int)).toNat=n:=by omega
 by_cases hc:c % 2=1
 ·obtain⟨ms,x',y',e,h1,h2⟩:=Rb (aA (.fz (.int c))) (aA (.fz (.int (n:Int)))) n 0 [] (c / 2) aB (λ_ h=>nomatch h) (by simpa using h);refine⟨ms,?_,h1,by simpa using h2⟩;simp only[List.map_nil]at e;unfold Gen.Yq Gen.Js;simp[-Z0,g1,et,Qw,e,hc]
 ·obtain⟨ms,x',y',e,h1,h2⟩:=Rc (aA (.fz (.int c))) (aA (.fz (.int (n:Int)))) n 0 [] (c / 2 % 2147483647) aB (λ_ h=>nomatch h) (by simpa using h);refine⟨ms,?_,h1,by simpa using h2⟩;simp only[List.map_nil]at e;unfold Gen.Yq Gen.Js;simp[-Z0,g1,et,Qw,e,hc]
theorem Zhy{w:Str}(h:Nam w):w≠Yh:=λe=>(h.no 105 (by rw[e];decide+kernel)).1 rfl
theorem Zhz{w:Str}(h:Nam w):w≠Om:=λe=>(h.no 110 (by rw[e];decide+kernel)).2.1 rfl
theorem Zbr:Om≠Yh:=by decide+kernel
noncomputable abbrev PS:=List (Str×Str)
noncomputable abbrev Ff(ps:PS):List L2.Key:=Zy (ps.map (·.1))
noncomputable abbrev Ad(ps:PS):List D:=(ps.map (·.2)).map D.str
noncomputable abbrev nS(n:Nat):Str:=gh (toString ((n:Nat):Int))
noncomputable abbrev ITS:Str:=gh "It's "
noncomputable def itT(n:Nat):Str:=ITS++nS n
theorem Zo7:∀n<10,(nS n).length<=2:=by decide+kernel
theorem Zkz:ITS.length=5:=by decide+kernel
theorem Rw{ms:List Int}{j:Nat}(h:j<ms.length):L2.atI (ms.map D.int) (j:Int)=aA (.int ms[j]):=Ii _ _ _ (by rw[a8,aw h];rfl)
noncomputable abbrev oSt(A0 A1 A2 A4 A5 A6:Option SV)(wd:Nat)(ms:List Int)(ps:PS)(x9 x10:Option SV):Wc:=[A0,A1,A2,aA (.fz (.int (wd:Int))),A4,A5,A6,aA (.ol (ms.map D.int)),aA (.oK (Ff ps) (Ad ps)),x9,x10]
theorem Zh0(A0 A1 A2 A4 A5 A6:Option SV)(wd:Nat)(h2:2<=wd)(h10:wd<=10)(ms:List Int)(hl:ms.length=11)(ps:PS)(hp:ps.length<=10)(j:Nat)(hj:j<5)(f:Str)(hf:f∉ps.map (·.1)):∃ps',(ps'=ps\/∃n<10,ps'=ps++[(f,itT n)])/\
  Gen.Ww (oSt A0 A1 A2 A4 A5 A6 wd ms ps (aA (.fz (.int (j:Int)))) (aA (.fz (.str f))))=aA (.nx (oSt A0 A1 A2 A4 A5 A6 wd ms ps' (aA (.fz (.int (j:Int)))) (aA (.fz (.str f))))):=by
 have a1:=Rw (ms:=ms) (j:=j) (by omega);have a2:=Rw (ms:=ms) (j:=5+j) (by omega);rw[show(((5+j:Nat)):Int)=5+(j:Int) by omega]at a2;generalize ms[j]'(by omega)=x at a1;generalize ms[5+j]'(by omega)=y at a2;by_cases h:0<x % 4
 ·have y0:0<=y % (wd:Int):=gb _ (by omega);have y1:y % (wd:Int)<(wd:Int):=d7 _ (by omega);obtain⟨n,hn⟩:∃n:Nat,(n:Int)=y % (wd:Int):=⟨(y % (wd:Int)).toNat,by omega⟩
  have n10:n<10:=by omega
  refine⟨ps++[(f,itT n)],.inr ⟨n,n10,rfl⟩,?_⟩;have nl:=Zo7 n n10;have l1:ITS.length+(nS n).length<=PySem.sizeLine:=Qo (by rw[Zkz];omega);have pp:Y3 (Ff ps) (Ad ps) (da f) (.str (ITS++nS n))=(Ff (ps++[(f,itT n)]),Ad (ps++[(f,itT n)])):=by unfold Ff Ad itT;rw[Mn,Mo hf];simp
  have z:(Ad ps).length<PySem.sizeLine:=Z4 (by simp;omega);have w0:(0:Int)<(wd:Int):=by omega
  have w1:0<wd:=by omega
  have w2:(wd:Int)<1073741824:=by omega
  have g1:((n:Nat):Int).natAbs.log2<1920:=by refine gm (Nat.log2_le_self _) ?_;omega
  have sd:Zcq [.int (n:Int)]=aA (.fz (.str (nS n))):=by show(if((n:Nat):Int).natAbs.log2<1920 then _ else _)=_;rw[if_pos g1]
  unfold Gen.Ww oSt;generalize Ff (ps++[(f,itT n)])=KK at*;generalize Ad (ps++[(f,itT n)])=VV at*;generalize Ff ps=KP at*;generalize Ad ps=VP at*;generalize ms.map D.int=MS at*;generalize nS n=NS at*;simp[h,a1,a2,w0,w1,w2,<-hn,l1,sd,pp,z,-Y3,-Zcq]
 ·refine⟨ps,.inl rfl,?_⟩;unfold Gen.Ww oSt;generalize Ff ps=KP at*;generalize Ad ps=VP at*;generalize ms.map D.int=MS at*;simp[h,a1]
structure Own(F:List Str)(ps:PS):Prop where
 nd:(ps.map (·.1)).Nodup
 all:∀p∈ps,p.1∈F++[Om]/\∃n<10,p.2=itT n
theorem Xf(F:List Str)(hF:F.length=4)(A0 A1 A2 A4 A5 A6:Option SV)(wd:Nat)(h2:2<=wd)(h10:wd<=10)(ms:List Int)(hl:ms.length=11):∀(xs:List Str) (j:Nat) (ps:PS) (x9 x10:Option SV),(ps.map (·.1)++xs).Nodup->Own F ps->j+xs.length<=5->ps.length<=j->(∀x∈xs,x∈F++[Om])->∃ps' y9 y10,Own F ps'/\ps'.length<=5/\
  Z0 (We 2 (Zs (Zd 9) (Zs (Zd 10) Wg))) Gen.Ww (((xs.map D.str).zipIdx j).map λp=>D.tup [.int (p.2:Nat),p.1]) (oSt A0 A1 A2 A4 A5 A6 wd ms ps x9 x10)=aA (.nx (oSt A0 A1 A2 A4 A5 A6 wd ms ps' y9 y10))
 | [],j,ps,x9,x10,_,ow,hj,hp,_=>⟨ps,x9,x10,ow,by simp at hj;omega,by simp⟩
 |f::xs,j,ps,x9,x10,nd,ow,hj,hp,hx=>by
  rw[bc]at hj;have hf:f∉ps.map (·.1):=λz=>(cu.mp nd).2.2 _ z f ad rfl;obtain⟨ps1,o1,t⟩:=Zh0 A0 A1 A2 A4 A5 A6 wd h2 h10 ms hl ps (by omega) j (by omega) f hf;have o2:(ps1.map (·.1)++xs).Nodup/\Own F ps1/\ps1.length<=j+1:=by
   rcases o1 with z|⟨n,hn,z⟩
   ·subst z;exact⟨nd.sublist (List.Sublist.append (List.Sublist.refl _) (List.sublist_cons_self _ _)),ow,by omega⟩
   ·subst z;have e:(ps++[(f,itT n)]).map (·.1)=ps.map (·.1)++[f]:=by simp
    have nd':(ps.map (·.1)++[f]++xs).Nodup:=by rw[c7];exact nd
    refine⟨by rw[e];exact nd',⟨by rw[e];exact(cu.mp nd').1,λp hp'=>?_⟩,by simp;omega⟩;rcases bh.mp hp' with z|z
    ·exact ow.all p z
    ·rw[ao.mp z];exact⟨hx f ad,n,hn,rfl⟩
  obtain⟨ps',y9,y10,ow',l',ih⟩:=Xf F hF A0 A1 A2 A4 A5 A6 wd h2 h10 ms hl xs (j+1) ps1 (aA (.fz (.int (j:Int)))) (aA (.fz (.str f))) o2.1 o2.2.1 (by omega) o2.2.2 λx h=>hx x (am _ h);refine⟨ps',y9,y10,ow',l',?_⟩;rw[a7,List.zipIdx_cons,a7];unfold Z0;rw[show(We 2 (Zs (Zd 9) (Zs (Zd 10) Wg))).run (.tup [.int (j:Nat),.str f]) (oSt A0 A1 A2 A4 A5 A6 wd ms ps x9 x10)=aA (oSt A0 A1 A2 A4 A5 A6 wd ms ps (aA (.fz (.int (j:Int)))) (aA (.fz (.str f))))from by simp];dsimp only[cf];rw[t];exact ih
noncomputable abbrev wkP(key kd:Str)(ps:PS):Wk:=⟨key,kd,ps.map (·.1),ps.map (·.2)⟩
noncomputable abbrev Zk1:Str:=gh "book"
noncomputable abbrev Zk2:Str:=gh "part"
structure WP(F:List Str)(w:Wk):Prop where
 ok:WkOk w
 kd:w.kind=Zk1\/w.kind=Zk2
 all:∃ps,Own F ps/\w.fs=ps.map (·.1)/\w.ts=ps.map (·.2)
theorem Zk3(i:Int):∃kd,(kd=Zk1\/kd=Zk2)/\L2.atI [D.str Zk1,D.str Zk2] (i % 2)=aA (.str kd):=by
 have:i % 2=0\/i % 2=1:=by omega
 rcases this with h|h<;> rw[h]
 ·exact⟨_,.inl rfl,rfl⟩
 ·exact⟨_,.inr rfl,rfl⟩
noncomputable abbrev sSt(A0:Option SV)(F:List Str)(cs:List Int)(wd:Nat)(ws:List Wk)(x5 x6 x7 x8 x9 x10:Option SV):Wc:=[A0,aA (.fz (.lst (F.map D.str))),aA (.fz (.lst (cs.map D.int))),aA (.fz (.int (wd:Int))),aA (.oK (Zy (ws.map Wk.key)) (ws.map Wk.d)),x5,x6,x7,x8,x9,x10]
theorem Du(F:List Str)(hF:F.length=4)(nF:F.Nodup)(hN:∀f∈F,Nam f)(A0:Option SV)(cs:List Int)(wd:Nat)(h2:2<=wd)(h10:wd<=10)(ws:List Wk)(k:Nat)(hk:k<cs.length)(key:Str)(hkey:key∉ws.map Wk.key)(hw:ws.length<=100)(x7 x8 x9 x10:Option SV):∃w y7 y8 y9 y10,w.key=key/\WP F w/\
  Gen.Qk (sSt A0 F cs wd ws (aA (.fz (.int (k:Int)))) (aA (.fz (.str key))) x7 x8 x9 x10)=aA (.nx (sSt A0 F cs wd (ws++[w]) (aA (.fz (.int (k:Int)))) (aA (.fz (.str key))) y7 y8 y9 y10)):=by
 have ac:=Rw hk;generalize cs[k]=c at ac;obtain⟨ms,en,hm,ml⟩:=Fe c 11 (by omega);have ndN:(F++[Om]).Nodup:=cu.mpr ⟨nF,by simp,λa ha b hb e=>Zhz (hN a ha) (by rw[e];exact ao.mp hb)⟩;obtain⟨ps,y9,y10,ow,pl,lo⟩:=Xf F hF A0 (aA (.fz (.lst (F.map D.str)))) (aA (.fz (.lst (cs.map D.int)))) (aA (.oK (Zy (ws.map Wk.key)) (ws.map Wk.d))) (aA (.fz (.int (k:Int)))) (aA (.fz (.str key))) wd h2 h10 ms ml (F++[Om]) 0 [] x9 x10 (by simpa using ndN) ⟨by simp,λ_ z=>nomatch z⟩ (by simp;omega) (by simp) (λ_ h=>h);rw[show((((F++[Om]).map D.str).zipIdx 0).map λp=>D.tup [.int (p.2:Nat),p.1])=Q5 ((F++[Om]).map D.str)from rfl,b4]at lo;have lo:Z0 (We 2 (Zs (Zd 9) (Zs (Zd 10) Wg))) Gen.Ww (Q5 (F.map D.str++[D.str Om])) _=_:=lo;have zF:(F.map D.str).length+1<=PySem.sizeLine:=Qo (by rw[ag];omega);have a10:=Rw (ms:=ms) (j:=10) (by omega);generalize ms[10]'(by omega)=x at a10;obtain⟨kd,hkd,ak⟩:=Zk3 x;have zw:(ws.map Wk.d).length<PySem.sizeLine:=Z4 (by rw[ag];omega);have f:Y3 (Zy (ws.map Wk.key)) (ws.map Wk.d) (da key) (.tup [.str kd,.dK (Ff ps) (Ad ps)])=(Zy ((ws++[wkP key kd ps]).map Wk.key),(ws++[wkP key kd ps]).map Wk.d):=by rw[Mn,Mo hkey];simp[Wk.d,Nc]
 refine⟨wkP key kd ps,aA (.ol (ms.map D.int)),aA (.fz (.dK (Ff ps) (Ad ps))),y9,y10,rfl,⟨⟨by simp,ow.nd,by simp;omega,λz=>?_⟩,hkd,ps,ow,rfl,rfl⟩,?_⟩
 ·obtain⟨p,hp,e⟩:=av.mp z;have:=(ow.all p hp).1;rw[e]at this;rcases bh.mp this with z|z
  ·exact Zhy (hN _ z) rfl
  ·exact Zbr (ao.mp z).symm
 ·unfold Gen.Qk sSt;unfold oSt at lo;rw[show Ff ([]:PS)=[]from rfl,show Ad ([]:PS)=[]from rfl]at lo;generalize ((ws++[wkP key kd ps]).map Wk.d)=WD' at*;generalize Zy ((ws++[wkP key kd ps]).map Wk.key)=WK' at*;generalize Ff ps=K1 at*;generalize Ad ps=V1 at*;generalize ws.map Wk.d=WD at*;generalize Zy (ws.map Wk.key)=WK at*;generalize F.map D.str=FD at*;generalize cs.map D.int=CD at*;generalize ms.map D.int=MS at*;have en:Gen.Yq [.int c,.int 11]=_:=en;have a10:L2.atI MS 10=_:=a10;simp[ac,en,lo,zF,s1,s2,a10,ak,f,zw,-Z0,-Y3]
theorem Fg(F:List Str)(hF:F.length=4)(nF:F.Nodup)(hN:∀f∈F,Nam f)(A0:Option SV)(cs:List Int)(wd:Nat)(h2:2<=wd)(h10:wd<=10):∀(ks:List Str) (k:Nat) (ws:List Wk) (x5 x6 x7 x8 x9 x10:Option SV),ws.length=k->k+ks.length<=12->k+ks.length<=cs.length->(ws.map Wk.key++ks).Nodup->(∀w∈ws,WP F w)->∃(ws':List Wk) (y5 y6 y7 y8 y9 y10:Option SV),ws'.map Wk.key=ws.map Wk.key++ks/\(∀w∈ws',WP F w)/\
  Z0 (We 2 (Zs (Zd 5) (Zs (Zd 6) Wg))) Gen.Qk (((ks.map D.str).zipIdx k).map λp=>D.tup [.int (p.2:Nat),p.1]) (sSt A0 F cs wd ws x5 x6 x7 x8 x9 x10)=aA (.nx (sSt A0 F cs wd ws' y5 y6 y7 y8 y9 y10))
 | [],k,ws,x5,x6,x7,x8,x9,x10,_,_,_,_,hw=>⟨ws,x5,x6,x7,x8,x9,x10,by simp,hw,by simp⟩
 |key::ks,k,ws,x5,x6,x7,x8,x9,x10,hl,h1,h3,nd,hw=>by
  rw[bc]at h1 h3;obtain⟨w,z7,z8,z9,z10,ek,wp,t⟩:=Du F hF nF hN A0 cs wd h2 h10 ws k (by omega) key (λz=>(cu.mp nd).2.2 _ z key ad rfl) (by omega) x7 x8 x9 x10;have em:(ws++[w]).map Wk.key=ws.map Wk.key++[key]:=by rw[b4,<-ek];rfl
  obtain⟨ws',y5,y6,y7,y8,y9,y10,e,hw',ih⟩:=Fg F hF nF hN A0 cs wd h2 h10 ks (k+1) (ws++[w]) (aA (.fz (.int (k:Int)))) (aA (.fz (.str key))) z7 z8 z9 z10 (by rw[ay,hl];rfl) (by omega) (by omega) (by rw[em,c7];exact nd) (λv hv=>by
   rcases bh.mp hv with z|z
   ·exact hw v z
   ·rw[ao.mp z];exact wp)
  refine⟨ws',y5,y6,y7,y8,y9,y10,by rw[e,em,c7];rfl,hw',?_⟩;rw[a7,List.zipIdx_cons,a7];unfold Z0;rw[show(We 2 (Zs (Zd 5) (Zs (Zd 6) Wg))).run (.tup [.int (k:Nat),.str key]) (sSt A0 F cs wd ws x5 x6 x7 x8 x9 x10)=aA (sSt A0 F cs wd ws (aA (.fz (.int (k:Int)))) (aA (.fz (.str key))) x7 x8 x9 x10)from by simp];dsimp only[cf];rw[t];exact ih
theorem Zdi(F:List Str)(hF:F.length=4)(nF:F.Nodup)(hN:∀f∈F,Nam f)(cs:List Int)(wd:Nat)(h2:2<=wd)(h10:wd<=10)(ks:List Str)(hk:ks.length<=12)(hc:ks.length<=cs.length)(nd:ks.Nodup):∃ws:List Wk,ws.map Wk.key=ks/\(∀w∈ws,WP F w)/\
  Gen.Ue [.lst (ks.map D.str),.lst (F.map D.str),.lst (cs.map D.int),.int (wd:Int)]=aA (.oK (Zy (ws.map Wk.key)) (ws.map Wk.d)):=by
 obtain⟨ws,y5,y6,y7,y8,y9,y10,e,hw,l⟩:=Fg F hF nF hN (aA (.fz (.lst (ks.map D.str)))) cs wd h2 h10 ks 0 [] aB aB aB aB aB aB rfl (by omega) (by omega) (by simpa using nd) (λw h=>nomatch h);refine⟨ws,by simpa using e,hw,?_⟩;rw[show(((ks.map D.str).zipIdx 0).map λp=>D.tup [.int (p.2:Nat),p.1])=Q5 (ks.map D.str)from rfl]at l;unfold sSt at l;have l:Z0 (We 2 (Zs (Zd 5) (Zs (Zd 6) Wg))) Gen.Qk (Q5 (ks.map D.str)) [aA (.fz (.lst (ks.map D.str))),aA (.fz (.lst (F.map D.str))),aA (.fz (.lst (cs.map D.int))),aA (.fz (.int (wd:Int))),aA (.oK [] []),aB,aB,aB,aB,aB,aB]=_:=l;unfold Gen.Ue Gen.C9;generalize Zy (ws.map Wk.key)=WK at*;generalize ws.map Wk.d=WD at*;generalize ks.map D.str=KD at*;generalize F.map D.str=FD at*;generalize cs.map D.int=CD at*;simp[l,-Z0]
theorem Nh(F:List Str)(hF:F.length=4)(A1 A3:Option SV)(ms:List Int)(hl:ms.length=13)(k:Nat)(hk:k<=2):∀(n s:Nat) (r:List Str) (x6:Option SV),s+n<=3->r.length=s->∃(r':List Str) (y6:Option SV),r'.length=s+n/\
  Z0 (Zd 6) Gen.Jt (G3 s n) [aA (.fz (.lst (F.map D.str))),A1,aA (.ol (ms.map D.int)),A3,aA (.fz (.int (k:Int))),aA (.ol (r.map D.str)),x6]=aA (.nx [aA (.fz (.lst (F.map D.str))),A1,aA (.ol (ms.map D.int)),A3,aA (.fz (.int (k:Int))),aA (.ol (r'.map D.str)),y6])
 |0,s,r,x6,_,hr=>⟨r,x6,by omega,rfl⟩
 |n+1,s,r,x6,hs,hr=>by
  have a:=Rw (ms:=ms) (j:=2+4*k+s) (by omega);rw[show((2+4*k+s:Nat):Int)=2+4*(k:Int)+(s:Int) by omega]at a;generalize ms[2+4*k+s]'(by omega)=y at a;have m:=Hn (i:=4) (j:=(k:Int)) (by omega);have y0:0<=y % 5:=gb _ (by decide);have y1:y % 5<5:=d7 _ (by decide);obtain⟨i,hi⟩:∃i:Nat,(i:Int)=y % 5:=⟨(y % 5).toNat,by omega⟩
  have fl:(F++[Yh]).length=5:=by simp[hF]
  have at5:L2.atI (F.map D.str++[D.str Yh]) (y % 5)=aA (.str ((F++[Yh])[i]'(by omega))):=by
   rw[<-hi];have e:F.map D.str++[D.str Yh]=(F++[Yh]).map D.str:=by simp
   rw[e];exact Ii _ _ _ (by rw[a8,aw (by omega)];rfl)
  generalize (F++[Yh])[i]'(by omega)=f at at5;have zF:(F.map D.str).length+1<=PySem.sizeLine:=Qo (by rw[ag];omega);have zr:r.length<PySem.sizeLine:=Z4 (by omega);obtain⟨r',y6,l',ih⟩:=Nh F hF A1 A3 ms hl k hk n (s+1) (r++[f]) (aA (.fz (.int (s:Int)))) (by omega) (by simp[hr]);refine⟨r',y6,by omega,?_⟩;have hb:Gen.Jt [aA (.fz (.lst (F.map D.str))),A1,aA (.ol (ms.map D.int)),A3,aA (.fz (.int (k:Int))),aA (.ol (r.map D.str)),aA (.fz (.int (s:Int)))]=aA (.nx [aA (.fz (.lst (F.map D.str))),A1,aA (.ol (ms.map D.int)),A3,aA (.fz (.int (k:Int))),aA (.ol ((r++[f]).map D.str)),aA (.fz (.int (s:Int)))]):=by unfold Gen.Jt;generalize F.map D.str=FD at*;generalize ms.map D.int=MS at*;simp[a,m,at5,zF,zr,s1]
  exact(Y2 (ds:=G3 (s+1) n) (by simp) hb).trans ih
theorem Fh(F:List Str)(hF:F.length=4)(A1:Option SV)(ms:List Int)(hl:ms.length=13):∀(n s:Nat) (rs:List (List Str)) (x4 x5 x6:Option SV),s+n<=3->rs.length=s->(∀r∈rs,r.length<=3)->∃(rs':List (List Str)) (y4 y5 y6:Option SV),rs'.length=s+n/\(∀r∈rs',r.length<=3)/\
  Z0 (Zd 4) Gen.Ju (G3 s n) [aA (.fz (.lst (F.map D.str))),A1,aA (.ol (ms.map D.int)),aA (.ol (rs.map Z6)),x4,x5,x6]=aA (.nx [aA (.fz (.lst (F.map D.str))),A1,aA (.ol (ms.map D.int)),aA (.ol (rs'.map Z6)),y4,y5,y6])
 |0,s,rs,x4,x5,x6,_,hr,h3=>⟨rs,x4,x5,x6,by omega,h3,rfl⟩
 |n+1,s,rs,x4,x5,x6,hs,hr,h3=>by
  have a:=Rw (ms:=ms) (j:=1+4*s) (by omega);rw[show((1+4*s:Nat):Int)=1+4*(s:Int) by omega]at a;generalize ms[1+4*s]'(by omega)=y at a;have m:=Hn (i:=4) (j:=(s:Int)) (by omega);have y0:0<=y % 3:=gb _ (by decide);have y1:y % 3<3:=d7 _ (by decide);obtain⟨q,hq⟩:∃q:Nat,(q:Int)=1+y % 3:=⟨(1+y % 3).toNat,by omega⟩
  obtain⟨r,z6,rl,e⟩:=Nh F hF A1 (aA (.ol (rs.map Z6))) ms hl s (by omega) q 0 [] x6 (by omega) rfl;have g1:En (q:Int):=U4 (by omega);have et:((q:Int)).toNat=q:=by omega
  have zr:rs.length<PySem.sizeLine:=Z4 (by omega);obtain⟨rs',y4,y5,y6,l',h3',ih⟩:=Fh F hF A1 ms hl n (s+1) (rs++[r]) (aA (.fz (.int (s:Int)))) (aA (.fz (.lst (r.map D.str)))) z6 (by omega) (by simp[hr]) (λv hv=>by
   rcases bh.mp hv with z|z
   ·exact h3 v z
   ·rw[ao.mp z,rl];omega)
  refine⟨rs',y4,y5,y6,by omega,h3',?_⟩;have hb:Gen.Ju [aA (.fz (.lst (F.map D.str))),A1,aA (.ol (ms.map D.int)),aA (.ol (rs.map Z6)),aA (.fz (.int (s:Int))),x5,x6]=aA (.nx [aA (.fz (.lst (F.map D.str))),A1,aA (.ol (ms.map D.int)),aA (.ol ((rs++[r]).map Z6)),aA (.fz (.int (s:Int))),aA (.fz (.lst (r.map D.str))),z6]):=by rw[List.map_nil]at e;unfold Gen.Ju;generalize F.map D.str=FD at*;generalize ms.map D.int=MS at*;simp[a,m,<-hq,g1,et,Qw,e,zr,-Z0]
  exact(Y2 (ds:=G3 (s+1) n) (by simp) hb).trans ih
theorem Zdj(F:List Str)(hF:F.length=4)(c:Int):∃rs:List (List Str),rs.length<=3/\(∀r∈rs,r.length<=3)/\Gen.Ud [.lst (F.map D.str),.int c]=aA (.ol (rs.map Z6)):=by
 obtain⟨ms,en,hm,ml⟩:=Fe c 13 (by omega);have a:=Rw (ms:=ms) (j:=0) (by omega);generalize ms[0]'(by omega)=y at a;have y0:0<=y % 4:=gb _ (by decide);have y1:y % 4<4:=d7 _ (by decide);obtain⟨q,hq⟩:∃q:Nat,(q:Int)=y % 4:=⟨(y % 4).toNat,by omega⟩
 obtain⟨rs,y4,y5,y6,rl,h3,e⟩:=Fh F hF (aA (.fz (.int c))) ms ml q 0 [] aB aB aB (by omega) rfl (λ_ h=>nomatch h);have g1:En (q:Int):=U4 (by omega);have et:((q:Int)).toNat=q:=by omega
 refine⟨rs,by omega,h3,?_⟩;rw[List.map_nil]at e;have en:Gen.Yq [.int c,.int 13]=_:=en;have a:L2.atI (ms.map D.int) 0=_:=a;unfold Gen.Ud Gen.C8;generalize F.map D.str=FD at*;generalize ms.map D.int=MS at*;simp[en,a,<-hq,g1,et,Qw,e,-Z0]
end My
namespace My
open DL PySem TT TX
theorem Zk4(r:List Str)(p:Str->Bool):(r.map λf=>D.bl (p f)).all D.isFlat=aC:=by rw[List.all_map];exact ie.mpr λf hf=>rfl
theorem Zsu(r:List Str)(p:Str->Bool):Hl (.bl aD) (r.map λf=>D.bl (p f))= !(r.all p):=by
 unfold Hl;induction r with
 |nil=>rfl
 |cons x r ih=>rw[a7,List.any_cons,ih,List.all_cons,Zju];cases p x<;> simp
theorem Zsv(r:List Str)(p:Str->Bool):B0 (.bl aD) (.lst (r.map λf=>D.bl (p f)))=aA (.fz (.bl (r.all p))):=by show(if D.isFlat (.bl aD)=aC/\(r.map λf=>D.bl (p f)).all D.isFlat=aC then aA (SV.fz (.bl (!Hl (.bl aD) (r.map λf=>D.bl (p f)))))else aB)=_;rw[if_pos ⟨rfl,Zk4 r p⟩,Zsu,Bool.not_not]
theorem Fi{fs ts:List Str}(hl:fs.length=ts.length)(hk:Yh∉fs)(kind f:Str):Yp (fs++[Yh]) (ts++[kind]) f=if f=Yh then aA kind else Yp fs ts f:=by
 unfold Yp;rw[List.zip_append hl,List.lookup_append];show((fs.zip ts).lookup f).or (List.lookup f [(Yh,kind)])=_;rw[List.lookup_cons];by_cases h:f=Yh
 ·subst h;have:(fs.zip ts).lookup Yh=aB:=by
   rcases h:(fs.zip ts).lookup Yh with _|v
   ·rfl
   ·obtain⟨l1,l2,e,_⟩:=List.lookup_eq_some_iff.mp h;exact absurd (List.of_mem_zip (show(Yh,v)∈fs.zip ts by rw[e];simp)).1 hk
  rw[this];simp
 ·rw[if_neg h,beq_eq_false_iff_ne.mpr h];simp
section
variable(fs ts:List Str)(kind:Str)
noncomputable def Zsw:D->D
 | .str f=>.bl (decide (f=Yh)|| (Yp fs ts f).isSome)
 |_=>.non
theorem Zdk(r:List Str)(hr:r.length<=100):
  Ya [.own,.cap 3,.acc] 2 (Zd 0) W0 Gen.Jx (r.map D.str) [aB,aA (.fz (.dK (Zy fs) (ts.map D.str))),aA (.ol [])]=aA [aB,aA (.fz (.dK (Zy fs) (ts.map D.str))),aA (.ol (r.map λf=>.bl (decide (f=Yh)|| (Yp fs ts f).isSome)))]:=by
 have c:=Ob (te:=Gen.Jx) (f:=Zsw fs ts) (c:=aA (.fz (.dK (Zy fs) (ts.map D.str)))) (j:=3) (r.map D.str) [] (λx hx zs=>by
  obtain⟨f,hf,rfl⟩:=av.mp hx;have l:=(Ub f fs (ts.map D.str)).trans (Jq fs ts f);unfold Gen.Jx Zsw;generalize ts.map D.str=TS at*;generalize Zy fs=FS at*;by_cases h:f=Yh
  ·simp[h]
  ·simp[h,l,-look]) (by rw[ag];simp;omega)
 rw[c,dj,bi];rfl
noncomputable abbrev Dv(A0 A1:Option SV)(o3:Option SV)(M:List D)(x5 x6 x7 x8:Option SV):Wc:=[A0,A1,aA (.fz (.str kind)),o3,aA (.ol M),x5,x6,x7,x8]
theorem Ni(A0 A1 x5 x6:Option SV)(M:List D):∀(r vs:List Str) (x8:Option SV),(∀f∈r,f=Yh\/(Yp fs ts f).isSome)->vs.length+r.length<=100->∃y8,
  Z0 (Zd 8) Gen.Jy (r.map D.str) (Dv kind A0 A1 (aA (.fz (.dK (Zy fs) (ts.map D.str)))) M x5 x6 (aA (.ol (vs.map D.str))) x8)=
  aA (.nx (Dv kind A0 A1 (aA (.fz (.dK (Zy fs) (ts.map D.str)))) M x5 x6 (aA (.ol ((vs++r.map λf=>if f=Yh then kind else(Yp fs ts f).getD "").map D.str))) y8))
 | [],vs,x8,_,_=>⟨x8,by simp⟩
 |f::r,vs,x8,h,hl=>by
  rw[bc]at hl;obtain⟨y8,ih⟩:=Ni A0 A1 x5 x6 M r (vs++[if f=Yh then kind else(Yp fs ts f).getD ""]) (aA (.fz (.str f))) (λg hg=>h g (am _ hg)) (by simp;omega);refine⟨y8,?_⟩;have l:=(Ub f fs (ts.map D.str)).trans (Jq fs ts f);have z:vs.length<PySem.sizeLine:=Z4 (by omega);have hb:Gen.Jy (Dv kind A0 A1 (aA (.fz (.dK (Zy fs) (ts.map D.str)))) M x5 x6 (aA (.ol (vs.map D.str))) (aA (.fz (.str f))))=aA (.nx (Dv kind A0 A1 (aA (.fz (.dK (Zy fs) (ts.map D.str)))) M x5 x6 (aA (.ol ((vs++[if f=Yh then kind else(Yp fs ts f).getD ""]).map D.str))) (aA (.fz (.str f))))):=by
   have t1:∀a b:D,L2.atI [a,b] 1=aA b:=λ_ _=>rfl;have t0:∀a b:D,L2.atI [a,b] 0=aA a:=λ_ _=>rfl;unfold Gen.Jy Dv;generalize ts.map D.str=TS at*;generalize Zy fs=FS at*;by_cases e:f=Yh
   ·simp[e,t1,s2,z,-look]
   ·obtain⟨v,hv⟩:=Option.isSome_iff_exists.mp ((h f ad).resolve_left e);rw[hv]at l;simp[e,l,hv,t0,s2,z,-look]
  rw[c7]at ih;exact(Y2 (by simp) hb).trans ih
theorem Zdl(hl:fs.length=ts.length)(hk:Yh∉fs)(A0 A1:Option SV)(M:List NK)(n:Nat)(r:List Str)(hr:r.length<=100)(hM:M.length<=100)(x7 x8:Option SV):∃y7 y8,
  Gen.Qm (Dv kind A0 A1 (aA (.fz (.dK (Zy fs) (ts.map D.str)))) (M.map Zj) (aA (.fz (.int (n:Int)))) (aA (.fz (Z6 r))) x7 x8)=
  aA (.nx (Dv kind A0 A1 (aA (.fz (.dK (Zy fs) (ts.map D.str)))) ((M++(match r.mapM (Yp (fs++[Yh]) (ts++[kind]))with|some l=>[(.inr ((n:Int),l):NK)]|none=>[])).map Zj) (aA (.fz (.int (n:Int)))) (aA (.fz (Z6 r))) y7 y8)):=by
 have h1:=Zdk fs ts r hr;have nz:=Zsv r λf=>decide (f=Yh)|| (Yp fs ts f).isSome;have z1:M.length<PySem.sizeLine:=Z4 (by omega);have vk:=Fi hl hk kind;rw[Fb];by_cases h:∀f∈r,(Yp (fs++[Yh]) (ts++[kind]) f).isSome
 ·have h':∀f∈r,f=Yh\/(Yp fs ts f).isSome:=λf hf=>by
   have:=h f hf;rw[vk]at this;by_cases e:f=Yh
   ·exact .inl e
   ·rw[if_neg e]at this;exact .inr this
  obtain⟨y8,lo⟩:=Ni fs ts kind A0 A1 (aA (.fz (.int (n:Int)))) (aA (.fz (Z6 r))) (M.map Zj) r [] x8 h' (by simpa using hr);rw[if_pos h];have al:(r.all λf=>decide (f=Yh)|| (Yp fs ts f).isSome)=aC:=ie.mpr λf hf=>by
   rcases h' f hf with z|z
   ·simp[z]
   ·simp[z]
  rw[al]at nz;have em:(r.map λf=>if f=Yh then kind else(Yp fs ts f).getD "")=r.map λf=>(Yp (fs++[Yh]) (ts++[kind]) f).getD "":=fj λf _=>by rw[vk];split<;> rfl
  rw[dj,em]at lo;refine⟨aA (.ol ((r.map λf=>(Yp (fs++[Yh]) (ts++[kind]) f).getD "").map D.str)),y8,?_⟩;unfold Gen.Qm Dv;unfold Dv at lo;rw[b4];rw[show List.map D.str ([]:List Str)=[]from rfl]at lo;generalize r.map (λf=>(Yp (fs++[Yh]) (ts++[kind]) f).getD "")=R at*;generalize (r.map λf=>D.bl (decide (f=Yh)|| (Yp fs ts f).isSome))=BL at*;generalize ts.map D.str=TS at*;generalize Zy fs=FS at*;simp[h1,nz,lo,z1,s2,-Ya,-B0,-Z0];unfold Zj;simp
 ·rw[if_neg h];have al:(r.all λf=>decide (f=Yh)|| (Yp fs ts f).isSome)=aD:=by
   rw[Bool.eq_false_iff];refine λz=>h λf hf=>?_;have:=ie.mp z f hf;rw[vk];by_cases e:f=Yh
   ·rw[if_pos e];rfl
   ·rw[if_neg e];simpa[e]using this
  rw[al]at nz;refine⟨x7,x8,?_⟩;unfold Gen.Qm Dv;generalize (r.map λf=>D.bl (decide (f=Yh)|| (Yp fs ts f).isSome))=BL at*;generalize ts.map D.str=TS at*;generalize Zy fs=FS at*;simp[h1,nz,-Ya,-B0]
theorem T5(hl:fs.length=ts.length)(hk:Yh∉fs)(A0 A1:Option SV):∀(rs:List (List Str)) (n:Nat) (M:List NK) (x5 x6 x7 x8:Option SV),(∀r∈rs,r.length<=100)->M.length+rs.length<=100->∃y5 y6 y7 y8,
  Z0 (We 2 (Zs (Zd 5) (Zs (Zd 6) Wg))) Gen.Qm (((rs.map Z6).zipIdx n).map λp=>D.tup [.int (p.2:Nat),p.1]) (Dv kind A0 A1 (aA (.fz (.dK (Zy fs) (ts.map D.str)))) (M.map Zj) x5 x6 x7 x8)=
  aA (.nx (Dv kind A0 A1 (aA (.fz (.dK (Zy fs) (ts.map D.str)))) ((M++Qh (fs++[Yh]) (ts++[kind]) n rs).map Zj) y5 y6 y7 y8))
 | [],n,M,x5,x6,x7,x8,_,_=>⟨x5,x6,x7,x8,by simp[Qh]⟩
 |r::rs,n,M,x5,x6,x7,x8,hr,hM=>by
  rw[bc]at hM;obtain⟨z7,z8,t⟩:=Zdl fs ts kind hl hk A0 A1 M n r (hr r ad) (by omega) x7 x8;obtain⟨y5,y6,y7,y8,ih⟩:=T5 hl hk A0 A1 rs (n+1) (M++(match r.mapM (Yp (fs++[Yh]) (ts++[kind]))with|some l=>[(.inr ((n:Int),l):NK)]|none=>[])) (aA (.fz (.int (n:Int)))) (aA (.fz (Z6 r))) z7 z8 (λq hq=>hr q (am _ hq)) (by
   rw[ay];cases r.mapM (Yp (fs++[Yh]) (ts++[kind]))<;> simp<;> omega)
  refine⟨y5,y6,y7,y8,?_⟩;rw[a7,List.zipIdx_cons,a7,Qh];rw[c7]at ih;unfold Z0;rw[show(We 2 (Zs (Zd 5) (Zs (Zd 6) Wg))).run (.tup [.int (n:Nat),Z6 r]) (Dv kind A0 A1 (aA (.fz (.dK (Zy fs) (ts.map D.str)))) (M.map Zj) x5 x6 x7 x8)=aA (Dv kind A0 A1 (aA (.fz (.dK (Zy fs) (ts.map D.str)))) (M.map Zj) (aA (.fz (.int (n:Int)))) (aA (.fz (Z6 r))) x7 x8)from by simp];dsimp only[cf];rw[t];exact ih
end
theorem Zdm(rs:List (List Str))(w:Wk)(ok:WkOk w)(hr:∀r∈rs,r.length<=100)(hn:rs.length<=100):Gen.Uf [w.d,.lst (rs.map Z6)]=aA (.ol ((w.marks rs).map Zj)):=by obtain⟨y5,y6,y7,y8,e⟩:=T5 w.fs w.ts w.kind ok.len ok.nk (aA (.fz w.d)) (aA (.fz (.lst (rs.map Z6)))) rs 0 [] aB aB aB aB hr (by simpa using hn);rw[dj]at e;have e2:Q5 (rs.map Z6)=(((rs.map Z6).zipIdx 0).map λp=>D.tup [.int (p.2:Nat),p.1]):=rfl;unfold Gen.Uf Gen.Gf;rw[<-e2]at e;unfold Dv at e;rw[show List.map Zj ([]:List NK)=[]from rfl]at e;show _=aA (SV.ol ((Qh (w.fs++[Yh]) (w.ts++[w.kind]) 0 rs).map Zj));unfold Wk.d Nc at*;generalize w.ts.map D.str=TS at*;generalize Zy w.fs=FS at*;generalize rs.map Z6=RS at*;generalize (Qh (w.fs++[Yh]) (w.ts++[w.kind]) 0 rs).map Zj=MS at*;simp[e,-Z0]
theorem Nj(A0:Option SV):∀(xss:List (List D)) (acc:List D) (x2:Option SV),acc.length+xss.flatten.length<=1000->∃y2,
  Z0 (Zd 2) Gen.Ut (xss.map D.lst) [A0,aA (.ol acc),x2]=aA (.nx [A0,aA (.ol (acc++xss.flatten)),y2])
 | [],acc,x2,_=>⟨x2,by simp⟩
 |xs::xss,acc,x2,h=>by
  rw[List.flatten_cons,ay]at h;obtain⟨y2,ih⟩:=Nj A0 xss (acc++xs) (aA (.fz (.lst xs))) (by rw[ay];omega);have z:acc.length+xs.length<=PySem.sizeLine:=Qo (by omega);refine⟨y2,?_⟩;have hb:Gen.Ut [A0,aA (.ol acc),aA (.fz (.lst xs))]=aA (.nx [A0,aA (.ol (acc++xs)),aA (.fz (.lst xs))]):=by unfold Gen.Ut;simp[z]
  rw[c7]at ih;exact(Y2 (by simp) hb).trans ih
theorem Zh1(xss:List (List D))(h:xss.flatten.length<=1000):Gen.Wd [.lst (xss.map D.lst)]=aA (.ol xss.flatten):=by obtain⟨y2,e⟩:=Nj (aA (.fz (.lst (xss.map D.lst)))) xss [] aB (by simpa using h);rw[dj]at e;unfold Gen.Wd Gen.Rs;generalize xss.map D.lst=X at*;simp[e,-Z0]
theorem Zbs(kss:List (List NK))(h:kss.flatten.length<=1000):Gen.Wd [.lst (kss.map λks=>.lst (ks.map Zj))]=aA (.ol (kss.flatten.map Zj)):=by
 have e:(kss.map λks=>D.lst (ks.map Zj))=(kss.map λks=>ks.map Zj).map D.lst:=by rw[bi];rfl
 rw[e,Zh1 _ (by rw[<-List.map_flatten,ag];exact h),List.map_flatten]
theorem Fj{ks out:List NK}(h:Cp ks)(nd:ks.Nodup)(hl:ks.length<64)(hm:∀x,x∈out↔x∈ks)(hs:out.Pairwise kLt):TX.G2 (ks.map Zj) (ks.map Zj)=aA (.ol (out.map Zj)):=by
 have nd':out.Nodup:=hs.imp fun{a b} z e=>by rw[e]at z;exact f6 _ z
 have pm:out.Perm ks:=(List.perm_ext_iff_of_nodup nd' nd).mpr hm;refine Zbl (Lx h nd) (by rw[ag];exact hl) ⟨pm.map _,ck.mpr ?_⟩;refine(gu.mp hs).imp fun{a b} ⟨ha,hb,z⟩=>?_;rw[Zbk 12 (h.one ((hm b).mp hb) ((hm a).mp ha))];exact congrArg aA (decide_eq_false λy=>f6 _ (List.lt_trans y z))
end My
namespace My
open DL PySem TT TX
noncomputable abbrev EV:=List Str×NK
noncomputable def Gz(evs:List EV)(p:List Str):List NK:=(evs.filter λe=>decide (e.1=p)).map (·.2)
structure Tl(evs:List EV)(Ks:List (List Str))(vs:List D):Prop where
 nd:Ks.Nodup
 len:Ks.length=vs.length
 mem:∀p,p∈Ks↔∃e∈evs,e.1=p
 get:∀p∈Ks,look (Ks.map L2.Wz) vs (L2.Wz p)=aA (.lst ((Gz evs p).map Zj))
 no:∀p,p∉Ks->look (Ks.map L2.Wz) vs (L2.Wz p)=aB
theorem Tl.few{evs:List EV}{Ks:List (List Str)}{vs:List D}(h:Tl evs Ks vs):Ks.length<=evs.length:=by
 have:=bx h.nd (l₂:=evs.map (·.1)) λp hp=>by obtain⟨e,he,rfl⟩:=(h.mem p).mp hp;exact c8 he
 simpa using this
theorem Zh2{evs:List EV}{Ks:List (List Str)}{vs:List D}(h:Tl evs Ks vs){p:List Str}(hp:p∉Ks):Gz evs p=[]:=by unfold Gz;rw[List.filter_eq_nil_iff.mpr λe he=>?_];rfl;have:=λz=>hp ((h.mem p).mpr ⟨e,he,z⟩);simpa using this
theorem Tl.getD{evs:List EV}{Ks:List (List Str)}{vs:List D}(h:Tl evs Ks vs)(p:List Str):(look (Ks.map L2.Wz) vs (L2.Wz p)).getD (.lst [])= .lst ((Gz evs p).map Zj):=by
 by_cases hp:p∈Ks
 ·rw[h.get p hp];rfl
 ·rw[h.no p hp,Zh2 h hp];rfl
theorem Tl.put{evs:List EV}{Ks:List (List Str)}{vs:List D}(h:Tl evs Ks vs)(p:List Str)(nm:NK):∃Ks' vs',Y3 (Ks.map L2.Wz) vs (L2.Wz p) (.lst ((Gz evs p).map Zj++[Zj nm]))=(Ks'.map L2.Wz,vs')/\Tl (evs++[(p,nm)]) Ks' vs':=by
 have hm:L2.Wz p∈Ks.map L2.Wz↔p∈Ks:=⟨λz=>by obtain⟨a,ha,e⟩:=av.mp z;rw[<-L2.Go e];exact ha,λz=>c8 z⟩
 have hl:(Ks.map L2.Wz).length=vs.length:=by rw[ag];exact h.len
 have e0:(Y3 (Ks.map L2.Wz) vs (L2.Wz p) (.lst ((Gz evs p).map Zj++[Zj nm]))).1=(if p∈Ks then Ks else Ks++[p]).map L2.Wz:=by
  unfold Y3;by_cases hp:p∈Ks
  ·rw[if_pos hp,if_pos (hm.mpr hp)]
  ·rw[if_neg hp,if_neg λz=>hp (hm.mp z),b4];rfl
 have lp:=λq=>Zhc (L2.Wz p) (L2.Wz q) (.lst ((Gz evs p).map Zj++[Zj nm])) (Ks.map L2.Wz) vs hl;have pl:=Zks (L2.Wz p) (.lst ((Gz evs p).map Zj++[Zj nm])) (Ks.map L2.Wz) vs hl;rw[e0,ag]at pl;rw[e0]at lp;have mem:∀q,q∈(if p∈Ks then Ks else Ks++[p])↔(q=p\/q∈Ks):=λq=>by
  by_cases hp:p∈Ks
  ·rw[if_pos hp];exact⟨.inr,λz=>by rcases z with z|z;(· rw[z];exact hp);exact z⟩
  ·rw[if_neg hp];simp[or_comm]
 have tp:∀q,Gz (evs++[(p,nm)]) q=Gz evs q++if p=q then[nm]else[]:=λq=>by
  unfold Gz;rw[List.filter_append,b4];by_cases e:p=q
  ·simp[e]
  ·simp[e]
 refine⟨if p∈Ks then Ks else Ks++[p],_,Prod.ext e0 rfl,⟨?_,pl.1,λq=>?_,λq hq=>?_,λq hq=>?_⟩⟩
 ·by_cases hp:p∈Ks
  ·rw[if_pos hp];exact h.nd
  ·rw[if_neg hp];exact cu.mpr ⟨h.nd,by simp,λa ha b hb=>by simp at hb;subst hb;exact λz=>hp (z▸ha)⟩
 ·rw[mem,h.mem];constructor
  ·rintro(rfl|⟨e,he,rfl⟩)
   ·exact⟨_,bq _ ad,rfl⟩
   ·exact⟨e,b7 _ he,rfl⟩
  ·rintro⟨e,he,rfl⟩;rcases bh.mp he with z|z
   ·exact .inr ⟨e,z,rfl⟩
   ·rw[ao.mp z];exact .inl rfl
 ·rw[lp q,tp];by_cases e:p=q
  ·subst e;rw[if_pos rfl,if_pos rfl,b4];rfl
  ·rw[if_neg λz=>e (L2.Go z),if_neg e,List.append_nil];exact h.get q (((mem q).mp hq).resolve_left λz=>e z.symm)
 ·have hq2:=λz=>hq ((mem q).mpr z);rw[lp q,if_neg λz=>hq2 (.inl (L2.Go z).symm)];exact h.no q λz=>hq2 (.inr z)
noncomputable abbrev Se(b:Str)(w:Wk):List EV:=(w.tri b).map λx=>([x.1,x.2.1],Jc b w.key)
noncomputable abbrev qSt(A0 A1 A2:Option SV)(Ks:List (List Str))(vs:List D)(nm:NK)(x5 x6 x7:Option SV):Wc:=[A0,A1,A2,aA (.oT (Ks.map L2.Wz) vs),aA (.fz (Zj nm)),x5,x6,x7]
theorem Zh3{evs:List EV}{Ks:List (List Str)}{vs:List D}(T:Tl evs Ks vs)(hn:evs.length<=999)(A0 A1 A2:Option SV)(nm:NK)(fs ts:List Str)(x5:Option SV)(f v:Str)(hv:Yp fs ts f=aA v)(hf:f≠Om):∃Ks' vs',Tl (evs++[([f,v],nm)]) Ks' vs'/\
  Gen.W9 (qSt A0 A1 A2 Ks vs nm x5 (aA (.fz (.dK (Zy fs) (ts.map D.str)))) (aA (.fz (.str f))))=aA (.nx (qSt A0 A1 A2 Ks' vs' nm x5 (aA (.fz (.dK (Zy fs) (ts.map D.str)))) (aA (.fz (.str f))))):=by
 obtain⟨Ks',vs',e,T'⟩:=T.put [f,v] nm;refine⟨Ks',vs',T',?_⟩;have l:=(Ub f fs (ts.map D.str)).trans (Jq fs ts f);rw[hv]at l;have g:=T.getD [f,v];have zl:vs.length<PySem.sizeLine:=Z4 (by have:=T.len;have:=T.few;omega);have zz:((Gz evs [f,v]).map Zj).length+1<=PySem.sizeLine:=Qo (by
  rw[ag];unfold Gz;rw[ag];have:=List.length_filter_le (λe:EV=>decide (e.1=[f,v])) evs;omega)
 have z0:0<PySem.sizeLine:=Z4 (by omega);unfold qSt Gen.W9;rw[show L2.Wz [f,v]=[da f,da v]from rfl]at e g;generalize (Gz evs [f,v]).map Zj=L at*;generalize Ks.map L2.Wz=KS at*;generalize Ks'.map L2.Wz=KS' at*;generalize ts.map D.str=TS at*;generalize Zy fs=FS at*;generalize Zj nm=NM at*;simp[hf,l,g,e,zl,zz,s1,s2,z0,-Y3,-look]
theorem Fk(A0 A1 A2:Option SV)(nm:NK)(fs ts:List Str)(hl:fs.length=ts.length)(x5:Option SV):∀(xs:List Str) (evs:List EV) (Ks:List (List Str)) (vs:List D) (x7:Option SV),(∀x∈xs,x∈fs)->Tl evs Ks vs->evs.length+xs.length<=999->∃Ks' vs' y7,Tl (evs++(xs.filter λf=>decide (f≠Om)).map λf=>([f,(Yp fs ts f).getD ""],nm)) Ks' vs'/\
  Z0 (Zd 7) Gen.W9 (xs.map D.str) (qSt A0 A1 A2 Ks vs nm x5 (aA (.fz (.dK (Zy fs) (ts.map D.str)))) x7)=aA (.nx (qSt A0 A1 A2 Ks' vs' nm x5 (aA (.fz (.dK (Zy fs) (ts.map D.str)))) y7))
 | [],evs,Ks,vs,x7,_,T,_=>⟨Ks,vs,x7,by simpa using T,by simp⟩
 |x::xs,evs,Ks,vs,x7,h,T,hn=>by
  rw[bc]at hn;rw[List.filter_cons];by_cases hx:x=Om
  ·obtain⟨Ks',vs',y7,T',ih⟩:=Fk A0 A1 A2 nm fs ts hl x5 xs evs Ks vs (aA (.fz (.str x))) (λy hy=>h y (am _ hy)) T (by omega);refine⟨Ks',vs',y7,by rw[if_neg (by simp[hx])];exact T',?_⟩;have hb:Gen.W9 (qSt A0 A1 A2 Ks vs nm x5 (aA (.fz (.dK (Zy fs) (ts.map D.str)))) (aA (.fz (.str x))))=aA (.nx (qSt A0 A1 A2 Ks vs nm x5 (aA (.fz (.dK (Zy fs) (ts.map D.str)))) (aA (.fz (.str x))))):=by unfold Gen.W9 qSt;simp[hx]
   exact(Y2 (by simp) hb).trans ih
  ·obtain⟨v,hv⟩:=Option.isSome_iff_exists.mp ((Mv fs ts x hl).mp (h x ad));obtain⟨Ks1,vs1,T1,hb⟩:=Zh3 T (by omega) A0 A1 A2 nm fs ts x5 x v hv hx;obtain⟨Ks',vs',y7,T',ih⟩:=Fk A0 A1 A2 nm fs ts hl x5 xs (evs++[([x,v],nm)]) Ks1 vs1 (aA (.fz (.str x))) (λy hy=>h y (am _ hy)) T1 (by rw[ay,d8];omega);refine⟨Ks',vs',y7,?_,(Y2 (by simp) hb).trans ih⟩;rw[if_pos (by simp[hx]),a7,hv];rw[c7]at T';exact T'
theorem Zo8(b:Str)(w:Wk)(ok:WkOk w):Se b w=((w.fs.filter λf=>decide (f≠Om)).map λf=>([f,(Yp w.fs w.ts f).getD ""],Jc b w.key))++[([Yh,w.kind],Jc b w.key)]:=by
 unfold Se Wk.tri Wk.at';rw[List.filter_append,b4,b4];have vk:=λf=>Fi ok.len ok.nk w.kind f;congr 1
 ·rw[bi];refine fj λf hf=>?_;have hf':=(List.mem_filter.mp hf).1;show(([f,w.val f],Jc b w.key):EV)=_;unfold Wk.val Wk.at' Wk.vt;rw[vk,if_neg λz=>ok.nk (by rw[<-z];exact hf')]
 ·rw[List.filter_cons,if_pos (by simpa using λz=>Zbr z.symm)];show[(([Yh,w.val Yh],Jc b w.key):EV)]=_;unfold Wk.val Wk.at' Wk.vt;rw[vk,if_pos rfl];rfl
theorem Zdn(b:Str)(ws:List Wk)(nd:(ws.map Wk.key).Nodup)(w:Wk)(hw:w∈ws)(ok:WkOk w){evs:List EV}{Ks:List (List Str)}{vs:List D}(T:Tl evs Ks vs)(hn:evs.length+12<=999)(A0 A2 x5 x6 x7:Option SV):∃Ks' vs' y5 y6 y7,Tl (evs++Se b w) Ks' vs'/\
  Gen.Uu (qSt A0 (aA (.fz (Yk ws))) A2 Ks vs (Jc b w.key) x5 x6 x7)=aA (.nx (qSt A0 (aA (.fz (Yk ws))) A2 Ks' vs' (Jc b w.key) y5 y6 y7)):=by
 obtain⟨Ks1,vs1,y7,T1,lo⟩:=Fk A0 (aA (.fz (Yk ws))) A2 (Jc b w.key) w.fs w.ts ok.len (aA (.fz (.str w.kind))) w.fs evs Ks vs x7 (λ_ h=>h) T (by have:=ok.few;omega);obtain⟨Ks',vs',e,T'⟩:=T1.put [Yh,w.kind] (Jc b w.key);refine⟨Ks',vs',aA (.fz (.str w.kind)),aA (.fz (.dK (Zy w.fs) (w.ts.map D.str))),y7,by rw[Zo8 b w ok,<-c7];exact T',?_⟩;have l:=Ck nd hw;have ek:=Tr w.fs;have g:=T1.getD [Yh,w.kind];have few:=T1.few;have el:(evs++(w.fs.filter λf=>decide (f≠Om)).map λf=>(([f,(Yp w.fs w.ts f).getD ""],Jc b w.key):EV)).length<=998:=by rw[ay,ag];have:=List.length_filter_le (λf=>decide (f≠Om)) w.fs;have:=ok.few;omega
 generalize (evs++(w.fs.filter λf=>decide (f≠Om)).map λf=>(([f,(Yp w.fs w.ts f).getD ""],Jc b w.key):EV))=evs1 at*;have zl:vs1.length<PySem.sizeLine:=Z4 (by have:=T1.len;omega);have zz:((Gz evs1 [Yh,w.kind]).map Zj).length+1<=PySem.sizeLine:=Qo (by
  rw[ag];unfold Gz;rw[ag];have:=List.length_filter_le (λe:EV=>decide (e.1=[Yh,w.kind])) evs1;omega)
 have z0:0<PySem.sizeLine:=Z4 (by omega);have a1:L2.atI [D.str b,D.str w.key] 1=aA (.str w.key):=rfl;unfold qSt Gen.Uu;unfold qSt Yk at lo;unfold Yk;rw[show L2.Wz [Yh,w.kind]=[da Yh,da w.kind]from rfl]at e g;rw[show Zj (Jc b w.key)= .tup [.str b,.str w.key]from rfl]at*;unfold Wk.d Nc at l;generalize ws.map Wk.d=WD at*;generalize Zy (ws.map Wk.key)=WK at*;generalize (Gz evs1 [Yh,w.kind]).map Zj=L at*;generalize Ks.map L2.Wz=KS at*;generalize Ks1.map L2.Wz=KS1 at*;generalize Ks'.map L2.Wz=KS' at*;generalize w.fs.map D.str=FD at*;generalize w.ts.map D.str=TS at*;generalize Zy w.fs=FS at*;simp[a1,l,ek,lo,g,e,zl,zz,s1,s2,z0,-Y3,-look,-Z0]
theorem Xg(b:Str)(ws:List Wk)(nd:(ws.map Wk.key).Nodup)(ok:∀w∈ws,WkOk w)(A0 A2:Option SV):∀(us:List Wk) (evs:List EV) (Ks:List (List Str)) (vs:List D) (x4 x5 x6 x7:Option SV),(∀u∈us,u∈ws)->Tl evs Ks vs->evs.length+12*us.length<=900->∃Ks' vs' y4 y5 y6 y7,Tl (evs++us.flatMap (Se b)) Ks' vs'/\
  Z0 (Zd 4) Gen.Uu ((us.map λu=>Jc b u.key).map Zj) [A0,aA (.fz (Yk ws)),A2,aA (.oT (Ks.map L2.Wz) vs),x4,x5,x6,x7]=aA (.nx [A0,aA (.fz (Yk ws)),A2,aA (.oT (Ks'.map L2.Wz) vs'),y4,y5,y6,y7])
 | [],evs,Ks,vs,x4,x5,x6,x7,_,T,_=>⟨Ks,vs,x4,x5,x6,x7,by simpa using T,by simp⟩
 |u::us,evs,Ks,vs,x4,x5,x6,x7,h,T,hn=>by
  rw[bc]at hn;have hu:=h u ad;obtain⟨Ks1,vs1,z5,z6,z7,T1,hb⟩:=Zdn b ws nd u hu (ok u hu) T (by omega) A0 A2 x5 x6 x7;have le:(Se b u).length<=12:=by
   unfold Se Wk.tri;rw[ag,ag];have:=List.length_filter_le (λf=>decide (f≠Om)) u.at';have h2:u.at'.length=u.fs.length+1:=by simp
   have:=(ok u hu).few;omega
  obtain⟨Ks',vs',y4,y5,y6,y7,T',ih⟩:=Xg b ws nd ok A0 A2 us (evs++Se b u) Ks1 vs1 (aA (.fz (Zj (Jc b u.key)))) z5 z6 z7 (λv hv=>h v (am _ hv)) T1 (by rw[ay];omega);rw[c7]at T';exact⟨Ks',vs',y4,y5,y6,y7,by rw[List.flatMap_cons];exact T',(Y2 (by simp) hb).trans ih⟩
theorem Nk{evs:List EV}{Ks:List (List Str)}{vs:List D}(T:Tl evs Ks vs):∀(xs:List T4) (zs:List D),(∀t∈xs,[t.1,t.2.1]∈Ks/\TX.G2 ((Gz evs [t.1,t.2.1]).map Zj) ((Gz evs [t.1,t.2.1]).map Zj)=aA (.ol (t.2.2.map Zj)))->zs.length+xs.length<=1000->
  Ya [.own,.cap 3,.acc] 2 (Zd 0) W0 Gen.Uv (xs.map λt=>Zj (Yg t)) [aB,aA (.fz (.dT (Ks.map L2.Wz) vs)),aA (.ol zs)]=aA [aB,aA (.fz (.dT (Ks.map L2.Wz) vs)),aA (.ol (zs++xs.map Y4))]
 | [],zs,_,_=>by simp
 |t::xs,zs,h,hz=>by
  rw[bc]at hz;obtain⟨h1,h2⟩:=h t ad;have ih:=Nk T xs (zs++[Y4 t]) (λy hy=>h y (am _ hy)) (by rw[ay,d8];omega);have l:=T.get _ h1;rw[c7]at ih;have z1:zs.length<PySem.sizeLine:=Z4 (by omega);have a0:L2.atI [D.str t.1,D.str t.2.1] 0=aA (.str t.1):=rfl;have a1:L2.atI [D.str t.1,D.str t.2.1] 1=aA (.str t.2.1):=rfl;have h3:Oa [.lst ((Gz evs [t.1,t.2.1]).map Zj)]=aA (.ol (t.2.2.map Zj)):=h2;have e1:∀q,Gen.Uv [aA (.fz (Zj (Yg t))),aA (.fz (.dT (Ks.map L2.Wz) vs)),aA (.ol q)]=aA (.tmp (.fz (Y4 t)),[aA (.fz (Zj (Yg t))),aA (.fz (.dT (Ks.map L2.Wz) vs)),aA (.ol q)]):=λq=>by unfold Gen.Uv Y4;rw[show Zj (Yg t)= .tup [.str t.1,.str t.2.1]from rfl];rw[show L2.Wz [t.1,t.2.1]=[da t.1,da t.2.1]from rfl]at l;generalize (Gz evs [t.1,t.2.1]).map Zj=L at*;generalize Ks.map L2.Wz=KS at*;generalize t.2.2.map Zj=TL at*;simp[l,h3,a0,a1,s3,-look]
  rw[a7,a7];generalize Ks.map L2.Wz=KS at*;generalize Y4 t=TD at*;unfold Ya;simp[e1,z1,-Ya];simpa[-Ya]using ih
theorem Zbt{α:Type}{f:α->NK}(k:NK):∀l:List α,(l.map f).Nodup->(l.filter λx=>decide (f x=k)).length<=1
 | [],_=>by simp
 |x::l,nd=>by
  obtain⟨n1,n2⟩:=d3.mp nd;have ih:=Zbt k l n2;rw[List.filter_cons];by_cases e:f x=k
  ·rw[if_pos (by simpa using e),List.filter_eq_nil_iff.mpr λy hy=>?_]
   ·simp
   ·have:=λz:f y=k=>n1 (by rw[e,<-z];exact c8 hy);simpa using this
  ·rw[if_neg (by simpa using e)];exact ih
theorem Fm(b:Str)(p:List Str):∀us:List Wk,Gz (us.flatMap (Se b)) p=us.flatMap λu=>Gz (Se b u) p
 | []=>rfl
 |u::us=>by have ih:=Fm b p us;unfold Gz at*;rw[List.flatMap_cons,List.flatMap_cons,List.filter_append,b4,ih]
theorem Sf(b:Str)(p:List Str)(u:Wk)(k:NK):k∈Gz (Se b u) p↔k=Jc b u.key/\∃x∈u.tri b,[x.1,x.2.1]=p:=by
 unfold Gz Se;simp only[av,List.mem_filter,decide_eq_true_eq];constructor
 ·rintro⟨e,⟨⟨x,hx,rfl⟩,h⟩,rfl⟩;exact⟨rfl,x,hx,h⟩
 ·rintro⟨rfl,x,hx,h⟩;exact⟨_,⟨⟨x,hx,rfl⟩,h⟩,rfl⟩
theorem Zbu{s t:T4}(h:tLt s t):kLt (Yg s) (Yg t):=by
 obtain⟨a,b,l⟩:=s;obtain⟨c,d,m⟩:=t;have e:=(T3 a.cps.toList c.cps.toList (tE b.cps.toList++[]) (tE d.cps.toList++[])).mp h;show(1::(tE a.cps.toList++(1::(tE b.cps.toList++[0]))))<(1::(tE c.cps.toList++(1::(tE d.cps.toList++[0]))));rw[eh,T3,eh,T3];rw[T3]at e;rcases e with e|⟨e1,e2⟩
 ·exact .inr ⟨rfl,.inl e⟩
 ·rcases e2 with e2|⟨_,e2⟩
  ·exact .inr ⟨rfl,.inr ⟨e1,.inr ⟨rfl,.inl e2⟩⟩⟩
  ·exact absurd e2 (f6 _)
theorem Zh4(b:Str)(ws:List Wk)(nd:(ws.map Wk.key).Nodup)(ok:∀w∈ws,WkOk w)(hp:∃ps:List NK,ps.length<64/\∀w∈ws,∀x∈w.tri b,Yg x∈ps)(us:List Wk)(hu:∀u∈us,u∈ws)(un:(us.map Wk.key).Nodup)(ul:us.length<=40)(T:List T4)(ts:T.Pairwise tLt)
  (tm:∀f v,(∃l,(f,v,l)∈T)↔∃u∈us,∃l,(f,v,l)∈u.tri b) (tl:∀t∈T,t.2.2.Pairwise kLt/\∀k,k∈t.2.2↔∃u∈us,k=Jc b u.key/\∃l,(t.1,t.2.1,l)∈u.tri b) (A:D):
  Gen.Ol [A,Yk ws,.lst ((us.map λu=>Jc b u.key).map Zj)]=aA (.ol (T.map Y4)):=by
 obtain⟨Ks,vs,y4,y5,y6,y7,Tk,e⟩:=Xg b ws nd ok (aA (.fz A)) (aA (.fz (.lst ((us.map λu=>Jc b u.key).map Zj)))) us [] [] [] aB aB aB aB hu ⟨cm,rfl,(λp=>by simp),(λp hp=>nomatch hp),λp _=>rfl⟩ (by simp;omega);rw[dj]at Tk;have km:∀p,p∈Ks↔∃u∈us,∃x∈u.tri b,[x.1,x.2.1]=p:=λp=>by
  rw[Tk.mem];constructor
  ·rintro⟨e,he,rfl⟩;obtain⟨u,hu,he⟩:=List.mem_flatMap.mp he;obtain⟨x,hx,rfl⟩:=av.mp he;exact⟨u,hu,x,hx,rfl⟩
  ·rintro⟨u,hu,x,hx,rfl⟩;exact⟨_,List.mem_flatMap.mpr ⟨u,hu,c8 hx⟩,rfl⟩
 have kT:∀t∈T,[t.1,t.2.1]∈Ks:=λt ht=>by obtain⟨u,hu,l,hl⟩:=(tm t.1 t.2.1).mp ⟨t.2.2,ht⟩;exact(km _).mpr ⟨u,hu,_,hl,rfl⟩
 have kl:Ks.length<64:=by
  obtain⟨ps,h1,h2⟩:=hp;refine gm ?_ h1;have:=bx (l₁:=Ks.map (gg:List Str->NK)) (ck.mpr (Tk.nd.imp fun{x y} h z=>h (gg.inj z))) (l₂:=ps) λk hk=>by obtain⟨p,hp,rfl⟩:=av.mp hk;obtain⟨u,hu',x,hx,rfl⟩:=(km p).mp hp;exact h2 u (hu u hu') x hx
  rwa [ag]at this
 have sk:TX.G2 ((Ks.map (gg:List Str->NK)).map Zj) ((Ks.map (gg:List Str->NK)).map Zj)=aA (.ol ((T.map Yg).map Zj)):=by
  refine Fj (.inl λk hk=>?_) (ck.mpr (Tk.nd.imp fun{x y} h z=>h (gg.inj z))) (by rw[ag];exact kl) (λk=>?_) (ck.mpr (ts.imp λh=>Zbu h))
  ·obtain⟨p,hp,rfl⟩:=av.mp hk;obtain⟨u,hu',x,hx,rfl⟩:=(km p).mp hp;exact⟨_,_,rfl⟩
  ·constructor
   ·intro h;obtain⟨t,ht,rfl⟩:=av.mp h;exact c8 (kT t ht)
   ·intro h;obtain⟨p,hp,rfl⟩:=av.mp h;obtain⟨u,hu',x,hx,rfl⟩:=(km p).mp hp;obtain⟨l,hl⟩:=(tm x.1 x.2.1).mpr ⟨u,hu',x.2.2,hx⟩;exact av.mpr ⟨_,hl,rfl⟩
 have ek:(Ks.map L2.Wz).map C1=(Ks.map (gg:List Str->NK)).map Zj:=by rw[bi,bi];refine fj λl _=>?_;show D.tup ((l.map da).map Tc)=D.tup (l.map D.str);rw[bi];rfl
 have hs:E7 [.dT (Ks.map L2.Wz) vs]=aA (.ol ((T.map Yg).map Zj)):=by show TX.G2 ((Ks.map L2.Wz).map C1) ((Ks.map L2.Wz).map C1)=_;rw[ek];exact sk
 have sl:∀t∈T,TX.G2 ((Gz (us.flatMap (Se b)) [t.1,t.2.1]).map Zj) ((Gz (us.flatMap (Se b)) [t.1,t.2.1]).map Zj)=aA (.ol (t.2.2.map Zj)):=λt ht=>by
  have mm:∀k,k∈Gz (us.flatMap (Se b)) [t.1,t.2.1]↔∃u∈us,k=Jc b u.key/\∃x∈u.tri b,[x.1,x.2.1]=[t.1,t.2.1]:=λk=>by rw[Fm,List.mem_flatMap];simp only[Sf]
  have nd2:(Gz (us.flatMap (Se b)) [t.1,t.2.1]).Nodup:=by
   rw[Fm];refine List.pairwise_flatMap.mpr ⟨λu hu'=>?_,(ck.mp un).imp fun{u u'} h x hx y hy z=>?_⟩
   ·have:=Zbt (f:=Yg) (.inl [t.1,t.2.1]) (u.tri b) (Ng b u (ok u (hu u hu')));have e2:(Gz (Se b u) [t.1,t.2.1]).length=((u.tri b).filter λx=>decide (Yg x= .inl [t.1,t.2.1])).length:=by unfold Gz Se;rw[ag,List.filter_map,ag];congr 1;refine List.filter_congr λx _=>decide_eq_decide.mpr ?_;exact⟨λz=>congrArg gg z,λz=>gg.inj z⟩
    rw[<-e2]at this
    match h:Gz (Se b u) [t.1,t.2.1],this with
    | [],_=>exact cm
    | [a],_=>simp
   ·rw[((Sf b _ u x).mp hx).1,((Sf b _ u' y).mp hy).1]at z;exact h (by simpa[Jc]using z)
  have ll:(Gz (us.flatMap (Se b)) [t.1,t.2.1]).length<=us.length:=by
   have:=bx nd2 (l₂:=us.map λu=>Jc b u.key) λk hk=>by obtain⟨u,hu',e,_⟩:=(mm k).mp hk;rw[e];exact av.mpr ⟨u,hu',rfl⟩
   rwa [ag]at this
  refine Fj (.inl λk hk=>?_) nd2 (by omega) (λk=>?_) (tl t ht).1
  ·obtain⟨u,hu',e,_⟩:=(mm k).mp hk;exact⟨_,_,e⟩
  ·rw[(tl t ht).2,mm];constructor
   ·rintro⟨u,h1,h2,l,hl⟩;exact⟨u,h1,h2,_,hl,rfl⟩
   ·rintro⟨u,h1,h2,x,hx,hxe⟩;have e1:=(List.cons.inj hxe).1;have e2:=(List.cons.inj (List.cons.inj hxe).2).1;exact⟨u,h1,h2,x.2.2,by rw[<-e1,<-e2];exact hx⟩
 have tlen:T.length<=64:=by
  have:=bx (l₁:=T.map Yg) (Qx (ck.mpr (ts.imp λh=>Zbu h):(T.map Yg).Pairwise kLt)) (l₂:=Ks.map (gg:List Str->NK)) λk hk=>by obtain⟨t,ht,rfl⟩:=av.mp hk;exact c8 (kT t ht)
  rw[ag,ag]at this;omega
 have c:=Nk Tk T [] (λt ht=>⟨kT t ht,sl t ht⟩) (by simp;omega);rw[dj]at c;rw[show(T.map λt=>Zj (Yg t))=(T.map Yg).map Zj by rw[bi];rfl]at c;rw[List.map_nil]at e;unfold Gen.Ol Gen.Rt;unfold Yk at*;generalize T.map Y4=TD at*;generalize (T.map Yg).map Zj=TP at*;generalize Ks.map L2.Wz=KS at*;generalize ws.map Wk.d=WD at*;generalize Zy (ws.map Wk.key)=WK at*;generalize (us.map λu=>Jc b u.key).map Zj=UN at*;simp[e,hs,c,-Z0,-Ya]
end My
namespace My
open DL PySem TT TX
noncomputable abbrev W6(b x:Str):D:=.tup [.str b,.str x]
structure MkD(b:Str)(KS:List (List L2.Key))(VS:List D)(U:List Str)(M:Str->List NK):Prop where
 get:∀x∈U,look KS VS [da b,da x]=aA (.lst ((M x).map Zj))
 mr:∀x∈U,∀m∈M x,Sh m
theorem Zo9{a c:NK}(ha:Sh a)(hc:Sh c):Wo 48 (Zj a) (Zj c)=aA (decide (a=c)):=by obtain⟨n,l,rfl⟩:=ha;obtain⟨m,l',rfl⟩:=hc;exact V4 45 (.mk n m l l')
theorem Zmj{m:NK}{ks:List NK}(hm:Sh m)(hk:∀k∈ks,Sh k)(c:Bool)(hc:c=aC↔m∈ks):inN (Zj m) (.lst (ks.map Zj))=aA (.fz (.bl c)):=by rw[Zoq λk h=>Zo9 (hk k h) hm];congr 3;rw[Bool.eq_iff_iff,hc];simp
theorem Zh5(b x:Str)(vs:List Str):Ro (W6 b x) (.lst (vs.map (W6 b)))=aA (.fz (.bl (decide (x∉vs)))):=by
 have e:vs.map (W6 b)=(vs.map (Jc b)).map Zj:=by rw[bi];rfl
 rw[e,show W6 b x=Zj (Jc b x)from rfl,Zc2 λk h=>by
  obtain⟨y,_,rfl⟩:=av.mp h;exact V4 45 (.nm _ _)]
 congr 3;rw[Bool.eq_iff_iff];simp[Jc];exact⟨λh z=>h x z rfl,λh y hy e=>h (e▸hy)⟩
section
variable{b:Str}{KS:List (List L2.Key)}{VS:List D}{U:List Str}{M:Str->List NK}(H:MkD b KS VS U M)
include H
theorem Zbv(A0 A1:Option SV)(o:Str)(ho:o∈U):∀(ms:List NK) (x4:Option SV),(∀m∈ms,Sh m)->
  ((∃m∈ms,m∈M o)/\Z0 (Zd 4) Gen.Qa (ms.map Zj) [A0,A1,aA (.fz (.dT KS VS)),aA (.fz (W6 b o)),x4]=aA (.rt (.fz (.bl aC))))\/
  ((¬∃m∈ms,m∈M o)/\∃y4,Z0 (Zd 4) Gen.Qa (ms.map Zj) [A0,A1,aA (.fz (.dT KS VS)),aA (.fz (W6 b o)),x4]=aA (.nx [A0,A1,aA (.fz (.dT KS VS)),aA (.fz (W6 b o)),y4]))
 | [],x4,_=>.inr ⟨λ⟨_,h,_⟩=>(nomatch h),x4,rfl⟩
 |m::ms,x4,h=>by
  have l:=H.get o ho;have ii:=Zmj (h m ad) (H.mr o ho);have r0:(Zd 4).run (Zj m) [A0,A1,aA (.fz (.dT KS VS)),aA (.fz (W6 b o)),x4]=aA [A0,A1,aA (.fz (.dT KS VS)),aA (.fz (W6 b o)),aA (.fz (Zj m))]:=by simp
  by_cases hm:m∈M o
  ·refine .inl ⟨⟨m,ad,hm⟩,Zbh r0 ?_⟩;have i:=ii aC ⟨λ_=>hm,λ_=>rfl⟩;unfold Gen.Qa;generalize (M o).map Zj=MO at*;generalize Zj m=MM at*;simp[l,i,-look]
  ·have hb:Gen.Qa [A0,A1,aA (.fz (.dT KS VS)),aA (.fz (W6 b o)),aA (.fz (Zj m))]=aA (.nx [A0,A1,aA (.fz (.dT KS VS)),aA (.fz (W6 b o)),aA (.fz (Zj m))]):=by have i:=ii aD ⟨λz=>(nomatch z),λz=>absurd z hm⟩;unfold Gen.Qa;generalize (M o).map Zj=MO at*;generalize Zj m=MM at*;simp[l,i,-look]
   rcases Zbv A0 A1 o ho ms (aA (.fz (Zj m))) λk hk=>h k (am _ hk)with⟨⟨k,hk,hk'⟩,e⟩|⟨n,y4,e⟩
   ·exact .inl ⟨⟨k,am _ hk,hk'⟩,(Y2 r0 hb).trans e⟩
   ·refine .inr ⟨λ⟨k,hk,hk'⟩=>?_,y4,(Y2 r0 hb).trans e⟩;rcases bo.mp hk with z|z
    ·exact hm (by rw[<-z];exact hk')
    ·exact n ⟨k,z,hk'⟩
theorem Xh(A1:Option SV)(x:Str)(hx:x∈U):∀(os:List Str) (x3 x4:Option SV),(∀o∈os,o∈U)->
  ((∃o∈os,∃m∈M x,m∈M o)/\Z0 (Zd 3) Gen.Qb (os.map (W6 b)) [aA (.fz (W6 b x)),A1,aA (.fz (.dT KS VS)),x3,x4]=aA (.rt (.fz (.bl aC))))\/
  ((¬∃o∈os,∃m∈M x,m∈M o)/\∃y3 y4,Z0 (Zd 3) Gen.Qb (os.map (W6 b)) [aA (.fz (W6 b x)),A1,aA (.fz (.dT KS VS)),x3,x4]=aA (.nx [aA (.fz (W6 b x)),A1,aA (.fz (.dT KS VS)),y3,y4]))
 | [],x3,x4,_=>.inr ⟨λ⟨_,h,_⟩=>(nomatch h),x3,x4,rfl⟩
 |o::os,x3,x4,h=>by
  have l:=H.get x hx;have r0:(Zd 3).run (W6 b o) [aA (.fz (W6 b x)),A1,aA (.fz (.dT KS VS)),x3,x4]=aA [aA (.fz (W6 b x)),A1,aA (.fz (.dT KS VS)),aA (.fz (W6 b o)),x4]:=by simp
  rcases Zbv H (aA (.fz (W6 b x))) A1 o (h o ad) (M x) x4 (H.mr x hx)with⟨hm,e⟩|⟨hm,z4,e⟩
  ·refine .inl ⟨⟨o,ad,hm⟩,Zbh r0 ?_⟩;unfold Gen.Qb;generalize (M x).map Zj=MX at*;simp[l,e,-look,-Z0]
  ·have hb:Gen.Qb [aA (.fz (W6 b x)),A1,aA (.fz (.dT KS VS)),aA (.fz (W6 b o)),x4]=aA (.nx [aA (.fz (W6 b x)),A1,aA (.fz (.dT KS VS)),aA (.fz (W6 b o)),z4]):=by unfold Gen.Qb;generalize (M x).map Zj=MX at*;simp[l,e,-look,-Z0]
   rcases Xh A1 x hx os (aA (.fz (W6 b o))) z4 λk hk=>h k (am _ hk)with⟨⟨k,hk,hk'⟩,e⟩|⟨n,y3,y4,e⟩
   ·exact .inl ⟨⟨k,am _ hk,hk'⟩,(Y2 r0 hb).trans e⟩
   ·refine .inr ⟨λ⟨k,hk,hk'⟩=>?_,y3,y4,(Y2 r0 hb).trans e⟩;rcases bo.mp hk with z|z
    ·exact hm (by rw[<-z];exact hk')
    ·exact n ⟨k,z,hk'⟩
theorem Zh6(x:Str)(hx:x∈U)(os:List Str)(ho:∀o∈os,o∈U):∃v:Bool,(v=aC↔∃o∈os,∃m∈M x,m∈M o)/\Gen.Jn [W6 b x,.lst (os.map (W6 b)),.dT KS VS]=aA (.fz (.bl v)):=by
 rcases Xh H (aA (.fz (.lst (os.map (W6 b))))) x hx os aB aB ho with⟨h,e⟩|⟨h,y3,y4,e⟩
 ·refine⟨aC,⟨λ_=>h,λ_=>rfl⟩,?_⟩;unfold Gen.Jn Gen.Ci;generalize os.map (W6 b)=OS at*;simp[e,-Z0]
 ·refine⟨aD,⟨λz=>(nomatch z),λz=>absurd z h⟩,?_⟩;unfold Gen.Jn Gen.Ci;generalize os.map (W6 b)=OS at*;simp[e,-Z0]
theorem Zdo(A0 x3:Option SV)(x:Str)(hx:x∈U)(vs:List Str)(hv:∀v∈vs,v∈U)(hl:vs.length<=100):∃vs',((vs'=vs/\(x∈vs\/¬∃o∈vs,∃m∈M x,m∈M o))\/(vs'=vs++[x]/\x∉vs))/\
  Gen.Wx [A0,aA (.fz (.dT KS VS)),aA (.ol (vs.map (W6 b))),x3,aA (.fz (W6 b x))]=aA (.nx [A0,aA (.fz (.dT KS VS)),aA (.ol (vs'.map (W6 b))),x3,aA (.fz (W6 b x))]):=by
 have n:=Zh5 b x vs;obtain⟨v,hv',e⟩:=Zh6 H x hx vs hv;have z:vs.length<PySem.sizeLine:=Z4 (by omega);have z2:(vs.map (W6 b)).length<PySem.sizeLine:=by rw[ag];exact z
 by_cases h:x∈vs
 ·refine⟨vs,.inl ⟨rfl,.inl h⟩,?_⟩;rw[decide_eq_false (λz=>z h)]at n;unfold Gen.Wx;generalize vs.map (W6 b)=VN at*;simp[n]
 ·rw[decide_eq_true h]at n;cases v with
  |true=>refine⟨vs++[x],.inr ⟨rfl,h⟩,?_⟩;rw[b4];unfold Gen.Wx;generalize vs.map (W6 b)=VN at*;simp[n,e,z2]
  |false=>refine⟨vs,.inl ⟨rfl,.inr λz=>nomatch hv'.mpr z⟩,?_⟩;unfold Gen.Wx;generalize vs.map (W6 b)=VN at*;simp[n,e]
theorem Ts(A0 x3:Option SV):∀(xs vs:List Str) (x4:Option SV),(∀x∈xs,x∈U)->(∀v∈vs,v∈U)->vs.Nodup->vs.length+xs.length<=100->∃t y4,(vs++t).Nodup/\(∀v∈vs++t,v∈U)/\t.length<=xs.length/\(∀x∈xs,(∃o∈vs,∃m∈M x,m∈M o)->x∈vs++t)/\
  Z0 (Zd 4) Gen.Wx (xs.map (W6 b)) [A0,aA (.fz (.dT KS VS)),aA (.ol (vs.map (W6 b))),x3,x4]=aA (.nx [A0,aA (.fz (.dT KS VS)),aA (.ol ((vs++t).map (W6 b))),x3,y4])
 | [],vs,x4,_,hv,nd,_=>⟨[],x4,by simpa using nd,by simpa using hv,az _,(λ_ h=>nomatch h),by simp⟩
 |x::xs,vs,x4,hx,hv,nd,hl=>by
  rw[bc]at hl;have hx0:=hx x ad;obtain⟨vs1,h1,hb⟩:=Zdo H A0 x3 x hx0 vs hv (by omega);have r0:(Zd 4).run (W6 b x) [A0,aA (.fz (.dT KS VS)),aA (.ol (vs.map (W6 b))),x3,x4]=aA [A0,aA (.fz (.dT KS VS)),aA (.ol (vs.map (W6 b))),x3,aA (.fz (W6 b x))]:=by simp
  rcases h1 with⟨rfl,h1⟩|⟨rfl,h1⟩
  ·obtain⟨t,y4,a1,a2,a3,a4,ih⟩:=Ts A0 x3 xs vs1 (aA (.fz (W6 b x))) (λy hy=>hx y (am _ hy)) hv nd (by omega);refine⟨t,y4,a1,a2,by rw[bc];omega,λy hy hn=>?_,(Y2 r0 hb).trans ih⟩;rcases bo.mp hy with z|z
   ·rw[z]at hn⊢;rcases h1 with q|q
    ·exact b7 _ q
    ·exact absurd hn q
   ·exact a4 y z hn
  ·obtain⟨t,y4,a1,a2,a3,a4,ih⟩:=Ts A0 x3 xs (vs++[x]) (aA (.fz (W6 b x))) (λy hy=>hx y (am _ hy)) (λv h=>by
    rcases bh.mp h with z|z
    ·exact hv v z
    ·rw[ao.mp z];exact hx0) (cu.mpr ⟨nd,by simp,λa ha c hc e=>h1 (by rw[<-ao.mp hc,<-e];exact ha)⟩) (by simp;omega)
   rw[c7]at a1 a2 a4 ih;refine⟨[x]++t,y4,a1,a2,by simp;omega,λy hy hn=>?_,(Y2 r0 hb).trans ih⟩;rcases bo.mp hy with z|z
   ·rw[z];simp
   ·obtain⟨o,ho,hm⟩:=hn;exact a4 y z ⟨o,b7 _ ho,hm⟩
theorem Xi(nU:U.Nodup)(hU:U.length<=40)(con:∀vs:List Str,vs≠[]->(∀v∈vs,v∈U)->(∃x∈U,x∉vs)->∃x∈U,x∉vs/\∃o∈vs,∃m∈M x,m∈M o):∀(n s:Nat) (vs:List Str) (x3 x4:Option SV),vs≠[]->(∀v∈vs,v∈U)->vs.Nodup->∃(vs':List Str) (y3 y4:Option SV),vs'.Nodup/\(∀v∈vs',v∈U)/\min U.length (vs.length+n)<=vs'.length/\
  Z0 (Zd 3) Gen.Jz (G3 s n) [aA (.fz (.lst (U.map (W6 b)))),aA (.fz (.dT KS VS)),aA (.ol (vs.map (W6 b))),x3,x4]=aA (.nx [aA (.fz (.lst (U.map (W6 b)))),aA (.fz (.dT KS VS)),aA (.ol (vs'.map (W6 b))),y3,y4])
 |0,s,vs,x3,x4,ne,hv,nd=>⟨vs,x3,x4,nd,hv,Nat.min_le_right _ _,rfl⟩
 |n+1,s,vs,x3,x4,ne,hv,nd=>by
  have vl:vs.length<=U.length:=bx nd λv h=>hv v h;obtain⟨t,z4,a1,a2,a3,a4,e⟩:=Ts H (aA (.fz (.lst (U.map (W6 b))))) (aA (.fz (.int (s:Int)))) U vs x4 (λ_ h=>h) hv nd (by omega);have grow:min U.length (vs.length+1)<=(vs++t).length:=by
   by_cases h:∃x∈U,x∉vs
   ·obtain⟨x,h1,h2,h3⟩:=con vs ne hv h;have:=a4 x h1 h3;rcases bh.mp this with z|z
    ·exact absurd z h2
    ·have:=List.length_pos_of_mem z;rw[ay];omega
   ·have:U.length<=vs.length:=bx nU λx hx=>Classical.byContradiction λz=>h ⟨x,hx,z⟩;rw[ay];omega
  have hb:Gen.Jz [aA (.fz (.lst (U.map (W6 b)))),aA (.fz (.dT KS VS)),aA (.ol (vs.map (W6 b))),aA (.fz (.int (s:Int))),x4]=aA (.nx [aA (.fz (.lst (U.map (W6 b)))),aA (.fz (.dT KS VS)),aA (.ol ((vs++t).map (W6 b))),aA (.fz (.int (s:Int))),z4]):=by unfold Gen.Jz;generalize U.map (W6 b)=UD at*;generalize vs.map (W6 b)=VN at*;generalize (vs++t).map (W6 b)=VN' at*;simp[e,-Z0]
  obtain⟨vs',y3,y4,b1,b2,b3,ih⟩:=Xi nU hU con n (s+1) (vs++t) (aA (.fz (.int (s:Int)))) z4 (by simp[ne]) a2 a1;exact⟨vs',y3,y4,b1,b2,by omega,(Y2 (ds:=G3 (s+1) n) (by simp) hb).trans ih⟩
theorem Zdp(ne:U≠[])(nU:U.Nodup)(hU:U.length<=40)(con:∀vs:List Str,vs≠[]->(∀v∈vs,v∈U)->(∃x∈U,x∉vs)->∃x∈U,x∉vs/\∃o∈vs,∃m∈M x,m∈M o):Gen.Ug [.lst (U.map (W6 b)),.dT KS VS]=aA (.fz (.bl aC)):=by
 obtain⟨x,U',rfl⟩:=g8 ne;obtain⟨vs,y3,y4,h1,h2,h3,e⟩:=Xi H nU hU con (x::U').length 0 [x] aB aB (by simp) (λv hv=>by rw[ao.mp hv];exact ad) (by simp);have vl:vs.length<=(x::U').length:=bx h1 λv h=>h2 v h;have el:vs.length=(x::U').length:=by rw[d8]at h3;omega
 have el2:(vs.map (W6 b)).length=((x::U').map (W6 b)).length:=by rw[ag,ag,el]
 have en:((x::U').map (W6 b)).length=(x::U').length:=ag _;have g1:En ((x::U').length:Int):=U4 (by omega);have et:(((x::U').length:Int)).toNat=(x::U').length:=by omega
 have a0:L2.atI ((x::U').map (W6 b)) 0=aA (W6 b x):=Ii _ 0 _ rfl;rw[show[x].map (W6 b)=[W6 b x]from rfl]at e;unfold Gen.Ug Gen.Gg;generalize (x::U').map (W6 b)=UD at*;generalize vs.map (W6 b)=VN at*;generalize (x::U').length=N at*;simp[a0,en,g1,et,Qw,e,el2,s1,-Z0]
end
end My
namespace My
open DL PySem TT TX
theorem Zdq(F:List Str)(hF:F.length=4)(b:Str)(ws:List Wk)(hw:∀w∈ws,WP F w):∃ps:List NK,ps.length<64/\∀w∈ws,∀x∈w.tri b,Yg x∈ps:=by
 refine⟨(F.flatMap λf=>(cz 10).map λn=>(.inl [f,itT n]:NK))++[.inl [Yh,Zk1],.inl [Yh,Zk2]],?_,λw hw' x hx=>?_⟩
 ·rw[ay,List.length_flatMap];have:=W5 (λf=>((cz 10).map λn=>(.inl [f,itT n]:NK)).length) 10 F λf _=>by simp
  simp only[bc,List.length_nil];omega
 ·have p:=hw w hw';obtain⟨f,hf,rfl⟩:=av.mp hx;obtain⟨hf,hn⟩:=List.mem_filter.mp hf;have hn:f≠Om:=by simpa using hn
  have vk:=Fi p.ok.len p.ok.nk w.kind f;show(.inl [f,w.val f]:NK)∈_;unfold Wk.val Wk.at' Wk.vt;rw[vk];by_cases e:f=Yh
  ·rw[if_pos e,e];refine bq _ ?_;show(.inl [Yh,w.kind]:NK)∈_;rcases p.kd with z|z<;> rw[z]<;> simp
  ·rw[if_neg e];have hf:f∈w.fs:=(bh.mp hf).resolve_right λz=>e (ao.mp z);obtain⟨v,hv⟩:=Option.isSome_iff_exists.mp ((Mv w.fs w.ts f p.ok.len).mp hf);rw[hv];obtain⟨ps,ow,e1,e2⟩:=p.all;unfold Yp at hv;rw[e1,e2,List.zip_map',show(ps.map λp=>(p.1,p.2))=ps by simp]at hv;obtain⟨l1,l2,el,_⟩:=List.lookup_eq_some_iff.mp hv;obtain⟨h1,n,h10,h2⟩:=ow.all (f,v) (by rw[el];simp);have h1:f∈F:=(bh.mp h1).resolve_right λz=>hn (ao.mp z);have h2:v=itT n:=h2;refine b7 _ (List.mem_flatMap.mpr ⟨f,h1,av.mpr ⟨n,cn.mpr h10,?_⟩⟩);rw[h2];rfl
noncomputable abbrev Bc(b:Str)(w:Wk):List L2.Key:=[da b,da w.key]
noncomputable abbrev Bm(rs:List (List Str))(w:Wk):D:=.lst ((w.marks rs).map Zj)
theorem Zsx(b:Str){ws:List Wk}{w:Wk}(h:w.key∉ws.map Wk.key):Bc b w∉ws.map (Bc b):=λz=>by obtain⟨v,hv,e⟩:=av.mp z;simp at e;exact h (by rw[<-e];exact c8 hv)
theorem Aw(b:Str)(rs:List (List Str)):∀ws:List Wk,(ws.map Wk.key).Nodup->∀w∈ws,look (ws.map (Bc b)) (ws.map (Bm rs)) (Bc b w)=aA (Bm rs w)
 | [],_,w,h=>nomatch h
 |v::ws,nd,w,h=>by
  obtain⟨n1,n2⟩:=d3.mp nd;show(if Bc b v=Bc b w then aA (Bm rs v)else look (ws.map (Bc b)) (ws.map (Bm rs)) (Bc b w))=_;rcases bo.mp h with z|z
  ·rw[z,if_pos rfl]
  ·rw[if_neg λe=>n1 (by simp at e;rw[e];exact c8 z)];exact Aw b rs ws n2 w z
noncomputable def Zmk(L:List D)(o:Option SV):Prop:=o=aA (.ol L)\/o=aA (.fz (.lst L))
theorem Zbw(b:Str)(rs:List (List Str))(hr:∀r∈rs,r.length<=100)(hn:rs.length<=100)(ws:List Wk)(nd:(ws.map Wk.key).Nodup)(ok:∀w∈ws,WkOk w)(hw:ws.length<=40)(A0 A1 A2 A3:Option SV)(R:Wc):∀(xs ds:List Wk) (o5 x8:Option SV),ds++xs=ws->Zmk (rs.map Z6) o5->∃p5 y8,Zmk (rs.map Z6) p5/\
  Z0 (Zd 8) Gen.Ao ((xs.map Wk.key).map D.str) ([A0,A1,A2,A3,aA (.fz (.str b)),o5,aA (.oK (Zy (ws.map Wk.key)) (ws.map Wk.d)),aA (.oT (ds.map (Bc b)) (ds.map (Bm rs))),x8]++R)=aA (.nx ([A0,A1,A2,A3,aA (.fz (.str b)),p5,aA (.oK (Zy (ws.map Wk.key)) (ws.map Wk.d)),aA (.oT (ws.map (Bc b)) (ws.map (Bm rs))),y8]++R))
 | [],ds,o5,x8,e,h5=>⟨o5,x8,h5,by rw[List.append_nil]at e;rw[e];rfl⟩
 |w::xs,ds,o5,x8,e,h5=>by
  have hw':w∈ws:=by rw[<-e];simp
  have l:=Ck nd hw';have m:=Zdm rs w (ok w hw') hr hn;have ke:w.key∉ds.map Wk.key:=λz=>by rw[<-e,b4]at nd;exact(cu.mp nd).2.2 _ z w.key (by simp) rfl
  have pp:Y3 (ds.map (Bc b)) (ds.map (Bm rs)) (Bc b w) (Bm rs w)=((ds++[w]).map (Bc b),(ds++[w]).map (Bm rs)):=by unfold Y3;rw[if_neg (Zsx b ke)];simp
  have z:(ds.map (Bm rs)).length<PySem.sizeLine:=Z4 (by
   rw[ag];have:=congrArg List.length e;rw[ay]at this;omega)
  obtain⟨p5,y8,hp,ih⟩:=Zbw b rs hr hn ws nd ok hw A0 A1 A2 A3 R xs (ds++[w]) (aA (.fz (.lst (rs.map Z6)))) (aA (.fz (.str w.key))) (by rw[<-e];simp) (.inr rfl);refine⟨p5,y8,hp,?_⟩;have hb:Gen.Ao ([A0,A1,A2,A3,aA (.fz (.str b)),o5,aA (.oK (Zy (ws.map Wk.key)) (ws.map Wk.d)),aA (.oT (ds.map (Bc b)) (ds.map (Bm rs))),aA (.fz (.str w.key))]++R)=aA (.nx ([A0,A1,A2,A3,aA (.fz (.str b)),aA (.fz (.lst (rs.map Z6))),aA (.oK (Zy (ws.map Wk.key)) (ws.map Wk.d)),aA (.oT ((ds++[w]).map (Bc b)) ((ds++[w]).map (Bm rs))),aA (.fz (.str w.key))]++R)):=by
   unfold Gen.Ao;generalize (ds++[w]).map (Bc b)=K' at*;generalize (ds++[w]).map (Bm rs)=V' at*;unfold Bc Bm at pp z⊢;generalize ds.map (λw=>([da b,da w.key]:List L2.Key))=K0 at*;generalize ds.map (λw=>D.lst ((w.marks rs).map Zj))=V0 at*;generalize (w.marks rs).map Zj=MS at*;generalize w.d=XD at*;generalize ws.map Wk.d=WD at*;generalize Zy (ws.map Wk.key)=WK at*;generalize rs.map Z6=RD at*;rcases h5 with rfl|rfl
   ·simp[l,m,pp,z,s2,-look,-Y3]
   ·simp[l,m,pp,z,s2,-look,-Y3]
  exact(Y2 (by simp) hb).trans ih
theorem Xj(b:Str)(ws:List Wk)(P:Wk->Prop):∀l:List NK,(∀k∈l,∃w∈ws,P w/\k=Jc b w.key)->∃us:List Wk,l=us.map (λu=>Jc b u.key)/\∀u∈us,u∈ws/\P u
 | [],_=>⟨[],rfl,λ_ h=>nomatch h⟩
 |k::l,h=>by
  obtain⟨w,hw,hp,rfl⟩:=h k ad;obtain⟨us,e,hu⟩:=Xj b ws P l λj hj=>h j (am _ hj);refine⟨w::us,by rw[e];rfl,λu h=>?_⟩;rcases bo.mp h with rfl|h
  ·exact⟨hw,hp⟩
  ·exact hu u h
theorem Zbx{ws:List Wk}(nd:(ws.map Wk.key).Nodup){v w:Wk}(hv:v∈ws)(hw:w∈ws)(e:v.key=w.key):v=w:=Dj nd hv hw e
structure HpG(b:Str)(rs:List (List Str))(ws:List Wk)(h:HP)(us:List Wk):Prop where
 ns:h.ns=us.map λu=>Jc b u.key
 sub:∀u∈us,u∈ws
 nd:(us.map Wk.key).Nodup
 ne:us≠[]
 len:us.length<=ws.length
 srt:h.ns.Pairwise kLt
 ms:∀k,k∈h.ms↔∃u∈us,k∈u.marks rs
 mss:h.ms.Pairwise kLt
 tm:∀f v,(∃l,(f,v,l)∈h.fs)↔∃u∈us,∃l,(f,v,l)∈u.tri b
 tl:∀t∈h.fs,t.2.2.Pairwise kLt/\∀k,k∈t.2.2↔∃u∈us,k=Jc b u.key/\∃l,(t.1,t.2.1,l)∈u.tri b
 ts:h.fs.Pairwise tLt
 con:∀vs:List Str,vs≠[]->(∀v∈vs,v∈us.map Wk.key)->(∃x∈us.map Wk.key,x∉vs)->∃u∈us,u.key∉vs/\∃o∈us,o.key∈vs/\∃m∈u.marks rs,m∈o.marks rs
theorem Dw(b:Str)(rs:List (List Str))(ws:List Wk)(nd:(ws.map Wk.key).Nodup){a h:HP}(sa:a∈ws.map (Wy b rs))(m:IsMerge (Conn (· ∈ws.map (Wy b rs)) a) h):∃us,HpG b rs ws h us:=by
 have inS:∀g,Conn (· ∈ws.map (Wy b rs)) a g->∃w∈ws,g=Wy b rs w:=λg c=>by obtain⟨w,hw,e⟩:=av.mp c.right;exact⟨w,hw,e.symm⟩
 obtain⟨us,en,hu⟩:=Xj b ws (λw=>Conn (· ∈ws.map (Wy b rs)) a (Wy b rs w)) h.ns λk hk=>by obtain⟨g,c,hk⟩:=(m.ns_m k).mp hk;obtain⟨w,hw,rfl⟩:=inS g c;exact⟨w,hw,c,ao.mp hk⟩
 have back:∀w∈ws,Conn (· ∈ws.map (Wy b rs)) a (Wy b rs w)->w∈us:=λw hw c=>by
  have:Jc b w.key∈h.ns:=(m.ns_m _).mpr ⟨_,c,ao.mpr rfl⟩;rw[en]at this;obtain⟨u,hu',e⟩:=av.mp this;have e:u.key=w.key:=by simpa[Jc]using e
  rw[<-Zbx nd (hu u hu').1 hw e];exact hu'
 have und:(us.map Wk.key).Nodup:=by have:=Qx m.ns_s;rw[en]at this;exact ck.mpr ((ck.mp this).imp fun{x y} h e=>h (by rw[e]))
 have tri1:∀(u:Wk) (x:T4),x∈u.tri b->x.2.2=[Jc b u.key]:=λu x hx=>by obtain⟨f,_,rfl⟩:=av.mp hx;rfl
 refine⟨us,en,λu h=>(hu u h).1,und,λz=>?_,?_,m.ns_s,λk=>?_,m.ms_s,λf v=>?_,λt ht=>⟨(m.fs_l t ht).1,λk=>?_⟩,m.fs_s,λvs ne hv ⟨y,hy,hyn⟩=>?_⟩
 ·obtain⟨w,hw,rfl⟩:=av.mp sa;have:=back w hw (.here sa);rw[z]at this;cases this
 ·have:=bx und (l₂:=ws.map Wk.key) λx hx=>by obtain⟨u,hu',rfl⟩:=av.mp hx;exact c8 (hu u hu').1
  simpa using this
 ·rw[m.ms_m];constructor
  ·rintro⟨g,c,hk⟩;obtain⟨w,hw,rfl⟩:=inS g c;exact⟨w,back w hw c,hk⟩
  ·rintro⟨u,hu',hk⟩;exact⟨_,(hu u hu').2,hk⟩
 ·rw[m.fs_m];constructor
  ·rintro⟨g,c,hk⟩;obtain⟨w,hw,rfl⟩:=inS g c;exact⟨w,back w hw c,hk⟩
  ·rintro⟨u,hu',hk⟩;exact⟨_,(hu u hu').2,hk⟩
 ·rw[(m.fs_l t ht).2];constructor
  ·rintro⟨g,c,l,hl,hk⟩;obtain⟨w,hw,rfl⟩:=inS g c;have e:=tri1 w _ hl;have e:l=[Jc b w.key]:=e;rw[e]at hk;exact⟨w,back w hw c,ao.mp hk,l,hl⟩
  ·rintro⟨u,hu',rfl,l,hl⟩;have e:l=[Jc b u.key]:=tri1 u _ hl;exact⟨_,(hu u hu').2,l,hl,by rw[e];exact ao.mpr rfl⟩
 ·refine Classical.byContradiction λno=>?_;obtain⟨v0,vs0,rfl⟩:=g8 ne;obtain⟨u0,hu0,e0⟩:=av.mp (hv v0 ad);obtain⟨uy,huy,rfl⟩:=av.mp hy;have cy:Conn (· ∈ws.map (Wy b rs)) (Wy b rs u0) (Wy b rs uy):=(hu u0 hu0).2.symm.trans (hu uy huy).2;have cl:∀{g:HP},Conn (· ∈ws.map (Wy b rs)) (Wy b rs u0) g->∃u∈us,u.key∈v0::vs0/\g=Wy b rs u:=fun{g} c=>by
   induction c with
   |here _=>exact⟨u0,hu0,by rw[e0];exact ad,rfl⟩
   | @step g c' cg hc sh ih=>
    obtain⟨u,hu',hk,rfl⟩:=ih;obtain⟨w,hw,rfl⟩:=av.mp hc;have cw:Conn (· ∈ws.map (Wy b rs)) a (Wy b rs w):=.step (hu u hu').2 hc sh;have hwu:=back w hw cw;refine⟨w,hwu,Classical.byContradiction λz=>?_,rfl⟩;obtain⟨t,t1,t2⟩:=sh;have t1:t∈[Jc b u.key]++u.marks rs:=t1;have t2:t∈[Jc b w.key]++w.marks rs:=t2;rcases bh.mp t1 with q1|q1
    ·have q1:=ao.mp q1;rcases bh.mp t2 with q2|q2
     ·have q2:=ao.mp q2;rw[q1]at q2;have:u.key=w.key:=by simpa[Jc]using q2
      exact z (by rw[<-this];exact hk)
     ·obtain⟨j,l,e,_⟩:=Gn _ _ _ _ t q2;rw[q1]at e;cases e
    ·rcases bh.mp t2 with q2|q2
     ·have q2:=ao.mp q2;obtain⟨j,l,e,_⟩:=Gn _ _ _ _ t q1;rw[q2]at e;cases e
     ·exact no ⟨w,hwu,z,u,hu',hk,t,q2,q1⟩
  obtain⟨u,hu',hk,e⟩:=cl cy;have:Jc b uy.key=Jc b u.key:=by have:=congrArg HP.ns e;exact(List.cons.inj this).1
  have:uy.key=u.key:=by simpa[Jc]using this
  exact hyn (by rw[this];exact hk)
end My
namespace My
open DL PySem TT TX
noncomputable def mOf(rs:List (List Str))(ws:List Wk)(x:Str):List NK:=((ws.find? λw=>decide (w.key=x)).map λw=>w.marks rs).getD []
theorem Ax(rs:List (List Str)){ws:List Wk}(nd:(ws.map Wk.key).Nodup){w:Wk}(h:w∈ws):mOf rs ws w.key=w.marks rs:=by
 unfold mOf;cases e:ws.find? λv=>decide (v.key=w.key)with
 |none=>exact absurd (List.find?_eq_none.mp e w h) (by simp)
 |some v=>have h1:=List.find?_some e;have h2:=List.mem_of_find?_eq_some e;rw[Zbx nd h2 h (by simpa using h1)];rfl
theorem Sg(rs:List (List Str))(w:Wk):∀m∈w.marks rs,Sh m:=λm hm=>by obtain⟨j,l,e,_⟩:=Gn _ _ _ _ m hm;exact⟨j,l,e⟩
noncomputable def Zsy(KS:List (List L2.Key))(VS:List D):D->D
 | .tup [.str a,.str c]=>(look KS VS [da a,da c]).getD .non
 |_=>.non
theorem Dx(b:Str)(rs:List (List Str))(ws:List Wk)(nd:(ws.map Wk.key).Nodup)(us:List Wk)(hu:∀u∈us,u∈ws)(hl:us.length<=100):
  Ya [.own,.cap 7,.acc] 2 (Zd 0) W0 Gen.Gw ((us.map λu=>Jc b u.key).map Zj) [aB,aA (.fz (.dT (ws.map (Bc b)) (ws.map (Bm rs)))),aA (.ol [])]=aA [aB,aA (.fz (.dT (ws.map (Bc b)) (ws.map (Bm rs)))),aA (.ol (us.map (Bm rs)))]:=by
 have g:∀u∈us,Zsy (ws.map (Bc b)) (ws.map (Bm rs)) (Zj (Jc b u.key))=Bm rs u:=λu h=>by show(look (ws.map (Bc b)) (ws.map (Bm rs)) (Bc b u)).getD .non=_;rw[Aw b rs ws nd u (hu u h)];rfl
 have c:=Ob (te:=Gen.Gw) (f:=Zsy (ws.map (Bc b)) (ws.map (Bm rs))) (c:=aA (.fz (.dT (ws.map (Bc b)) (ws.map (Bm rs))))) (j:=7) ((us.map λu=>Jc b u.key).map Zj) [] (λd hd zs=>by
  obtain⟨k,hk,rfl⟩:=av.mp hd;obtain⟨u,hu',rfl⟩:=av.mp hk;have l:look (ws.map (Bc b)) (ws.map (Bm rs)) [da b,da u.key]=_:=Aw b rs ws nd u (hu u hu');rw[g u hu'];unfold Gen.Gw;rw[show Zj (Jc b u.key)= .tup [.str b,.str u.key]from rfl];generalize ws.map (Bc b)=KS at*;generalize ws.map (Bm rs)=VS at*;simp[l,-look]) (by simp;omega)
 rw[c,dj,bi,bi];congr 6;exact fj λu h=>g u h
theorem Nl(SN:List NK)(hS:∀k∈SN,Sh k):∀ms:List NK,(∀m∈ms,Sh m/\m∉SN)->
  Ya [.own,.cap 10,.acc] 2 (Zd 0) Gen.Aq Gen.Zbo (ms.map Zj) [aB,aA (.fz (.lst (SN.map Zj))),aA (.ol [])]=aA [aB,aA (.fz (.lst (SN.map Zj))),aA (.ol [])]
 | [],_=>by simp
 |m::ms,h=>by
  have ih:=Nl SN hS ms λk hk=>h k (am _ hk);obtain⟨h1,h2⟩:=h m ad;have i:=Zmj h1 hS aD ⟨λz=>(nomatch z),λz=>absurd z h2⟩;have e0:Gen.Aq [aA (.fz (Zj m)),aA (.fz (.lst (SN.map Zj))),aA (.ol [])]=aA (aD,[aA (.fz (Zj m)),aA (.fz (.lst (SN.map Zj))),aA (.ol [])]):=by unfold Gen.Aq;generalize SN.map Zj=SD at*;generalize Zj m=MM at*;simp[i]
  rw[a7];generalize SN.map Zj=SD at*;generalize Zj m=MM at*;unfold Ya;simp[e0,-Ya];simpa[-Ya]using ih
theorem Zdr(b:Str)(rs:List (List Str))(hrs:rs.length<=3)(ws:List Wk)(nd:(ws.map Wk.key).Nodup)(ok:∀w∈ws,WkOk w)(hw:ws.length<=12)(hp:∃ps:List NK,ps.length<64/\∀w∈ws,∀x∈w.tri b,Yg x∈ps)
  (h:HP) (us:List Wk) (G:HpG b rs ws h us) (SN:List NK) (hS:∀k∈SN,Sh k) (hd:∀m∈h.ms,m∉SN) (hl:SN.length<=900) (A0 A1 A2 A3 A5 A8 A9 A16 x12 x13 x14 x15 o7:Option SV) (h7:o7=aA (.oT (ws.map (Bc b)) (ws.map (Bm rs)))\/o7=aA (.fz (.dT (ws.map (Bc b)) (ws.map (Bm rs))))):∃y12 y13 y14 y15,
  Gen.Ar [A0,A1,A2,A3,aA (.fz (.str b)),A5,aA (.fz (Yk ws)),o7,A8,A9,aA (.ol (SN.map Zj)),aA (.fz (Yc h)),x12,x13,x14,x15,A16]=
  aA (.nx [A0,A1,A2,A3,aA (.fz (.str b)),A5,aA (.fz (Yk ws)),aA (.fz (.dT (ws.map (Bc b)) (ws.map (Bm rs)))),A8,A9,aA (.ol ((SN++h.ms).map Zj)),aA (.fz (Yc h)),y12,y13,y14,y15,A16]):=by
 have ul:=G.len;have nm:∀k∈h.ns,∃(x:Str) (l:List Str),k= .inl (x::l):=λk hk=>by rw[G.ns]at hk;obtain⟨u,_,rfl⟩:=av.mp hk;exact⟨b,[u.key],rfl⟩
 have mm:∀k∈h.ms,Sh k:=λk hk=>by obtain⟨u,_,hk⟩:=(G.ms k).mp hk;exact Sg rs u k hk
 have nl:h.ns.length<=12:=by rw[G.ns,ag];omega
 have c1:=Dx b rs ws nd us G.sub (by omega);rw[<-G.ns]at c1;have fl:(us.map λu=>u.marks rs).flatten.length<=36:=by rw[List.length_flatten,bi];have:=W5 (List.length∘λu:Wk=>u.marks rs) 3 us λu _=>dk (Gy _ _ rs 0) hrs;omega
 have fk:=Zbs (us.map λu=>u.marks rs) (by omega);rw[bi]at fk;have fk:Gen.Wd [.lst (us.map (Bm rs))]=_:=fk;have mf:∀k,k∈(us.map λu=>u.marks rs).flatten↔∃u∈us,k∈u.marks rs:=λk=>by rw[List.mem_flatten];exact⟨λ⟨l,hl,hk⟩=>let⟨u,hu,e⟩:=av.mp hl;⟨u,hu,by rw[e];exact hk⟩,λ⟨u,hu,hk⟩=>⟨_,c8 hu,hk⟩⟩
 have sd:Bj [.lst ((us.map λu=>u.marks rs).flatten.map Zj)]=aA (.ol (h.ms.map Zj)):=(Lp _).trans (Zhg (.inr λk hk=>by
  obtain⟨u,_,hk⟩:=(mf k).mp hk;exact Sg rs u k hk) (by omega) (λk=>by rw[G.ms,mf]) G.mss)
 have ml:h.ms.length<=36:=dk (bx (Qx G.mss) λk hk=>(mf k).mpr ((G.ms k).mp hk)) fl;have sn:Oa [.lst (h.ns.map Zj)]=aA (.ol (h.ns.map Zj)):=Fj (.inl nm) (Qx G.srt) (by omega) (λk=>Iff.rfl) G.srt;have e1:Wo 48 (.lst (h.ns.map Zj)) (.lst (h.ns.map Zj))=aA aC:=Ov 44 _ λk hk=>.inl (nm k hk);have e2:Wo 48 (.lst (h.ms.map Zj)) (.lst (h.ms.map Zj))=aA aC:=Ov 44 _ λk hk=>.inr (mm k hk);have e3:Wo 48 (.lst (h.fs.map Y4)) (.lst (h.fs.map Y4))=aA aC:=Mp 47 _ λx hx=>by obtain⟨t,ht,rfl⟩:=av.mp hx;exact Pw 42 t λk hk=>by obtain⟨u,_,e,_⟩:=((G.tl t ht).2 k).mp hk;exact⟨b,[u.key],e⟩
 have lt:=Zh4 b ws nd ok hp us G.sub G.nd (by omega) h.fs G.ts G.tm G.tl (.str b);rw[<-G.ns]at lt;have H:MkD b (ws.map (Bc b)) (ws.map (Bm rs)) (us.map Wk.key) (mOf rs ws):=⟨λx hx=>by
  obtain⟨u,hu,rfl⟩:=av.mp hx;rw[Ax rs nd (G.sub u hu)];exact Aw b rs ws nd u (G.sub u hu),λx hx=>by
  obtain⟨u,hu,rfl⟩:=av.mp hx;rw[Ax rs nd (G.sub u hu)];exact Sg rs u⟩
 have hg:=Zdp H (by simpa using G.ne) G.nd (by simp;omega) λvs ne hv hx=>by obtain⟨u,hu,hk,o,ho,hok,m,h1,h2⟩:=G.con vs ne hv hx;exact⟨u.key,c8 hu,hk,o.key,hok,m,by rw[Ax rs nd (G.sub u hu)];exact h1,by rw[Ax rs nd (G.sub o ho)];exact h2⟩
 rw[show(us.map Wk.key).map (W6 b)=(us.map λu=>Jc b u.key).map Zj by rw[bi,bi];rfl,<-G.ns]at hg;have c2:=Nl SN hS h.ms λm hm=>⟨mm m hm,hd m hm⟩
 have z:(SN.map Zj).length+(h.ms.map Zj).length<=PySem.sizeLine:=Qo (by rw[ag,ag];omega);have e4:Wo 48 (.lst []) (.lst [])=aA aC:=rfl;refine⟨aA (.fz (.lst (h.ns.map Zj))),aA (.fz (.lst (h.ms.map Zj))),aA (.fz (.lst (h.fs.map Y4))),aA (.ol (h.ms.map Zj)),?_⟩;rw[b4];have h15:Yt 15 (Yd Bj (Zc (Yu 1 Gen.Wd (Zc (Uk [.own,.cap 7,.acc] 2 (Ua (Za 12)) (Zd 0) W0 Gen.Gw) Zi)) Zi)) [A0,A1,A2,A3,aA (.fz (.str b)),A5,aA (.fz (Yk ws)),o7,A8,A9,aA (.ol (SN.map Zj)),aA (.fz (Yc h)),aA (.fz (.lst (h.ns.map Zj))),aA (.fz (.lst (h.ms.map Zj))),aA (.fz (.lst (h.fs.map Y4))),x15,A16]=
   aA (.nx [A0,A1,A2,A3,aA (.fz (.str b)),A5,aA (.fz (Yk ws)),aA (.fz (.dT (ws.map (Bc b)) (ws.map (Bm rs)))),A8,A9,aA (.ol (SN.map Zj)),aA (.fz (Yc h)),aA (.fz (.lst (h.ns.map Zj))),aA (.fz (.lst (h.ms.map Zj))),aA (.fz (.lst (h.fs.map Y4))),aA (.ol (h.ms.map Zj)),A16]):=by
  clear H mf nm mm G hd hS hp ok;unfold Yc Yk at*;generalize (us.map λu=>u.marks rs).flatten.map Zj=FM at*;generalize us.map (Bm rs)=UV at*;generalize h.ns.map Zj=HN at*;generalize h.ms.map Zj=HM at*;generalize h.fs.map Y4=HF at*;generalize SN.map Zj=SD at*;generalize ws.map (Bc b)=KS at*;generalize ws.map (Bm rs)=VS at*;rcases h7 with rfl|rfl
  ·simp[c1,fk,sd,-Ya]
  ·simp[c1,fk,sd,-Ya]
 unfold Gen.Ar;generalize Yt 15 (Yd Bj (Zc (Yu 1 Gen.Wd (Zc (Uk [.own,.cap 7,.acc] 2 (Ua (Za 12)) (Zd 0) W0 Gen.Gw) Zi)) Zi))=S15 at*;unfold Yc Yk at*;clear H mf nm mm G hd hS hp ok h7 c1 fk sd;generalize h.ns.map Zj=HN at*;generalize h.ms.map Zj=HM at*;generalize h.fs.map Y4=HF at*;generalize SN.map Zj=SD at*;generalize ws.map (Bc b)=KS at*;generalize ws.map (Bm rs)=VS at*;generalize ws.map Wk.d=WD at*;generalize Zy (ws.map Wk.key)=WK at*;simp[h15,sn,e1,e2,e3,e4,lt,hg,c2,z,-Ya,-Wo]
end My
namespace My
open DL PySem TT TX
theorem Fn(b:Str)(rs:List (List Str))(hrs:rs.length<=3)(ws:List Wk)(nd:(ws.map Wk.key).Nodup)(ok:∀w∈ws,WkOk w)(hw:ws.length<=12)(hp:∃ps:List NK,ps.length<64/\∀w∈ws,∀x∈w.tri b,Yg x∈ps)(A0 A1 A2 A3 A5 A8 A9 A16:Option SV):∀(hs:List HP) (SN:List NK) (o7 x11 x12 x13 x14 x15:Option SV),(∀h∈hs,∃us,HpG b rs ws h us)->hs.Pairwise (λh h'=>∀m∈h.ms,m∉h'.ms)->(∀k∈SN,Sh k/\∀h∈hs,k∉h.ms)->SN.length+36*hs.length<=900->(o7=aA (.oT (ws.map (Bc b)) (ws.map (Bm rs)))\/o7=aA (.fz (.dT (ws.map (Bc b)) (ws.map (Bm rs)))))->∃p7 y10 y11 y12 y13 y14 y15,
  Z0 (Zd 11) Gen.Ar (hs.map Yc) [A0,A1,A2,A3,aA (.fz (.str b)),A5,aA (.fz (Yk ws)),o7,A8,A9,aA (.ol (SN.map Zj)),x11,x12,x13,x14,x15,A16]=aA (.nx [A0,A1,A2,A3,aA (.fz (.str b)),A5,aA (.fz (Yk ws)),p7,A8,A9,y10,y11,y12,y13,y14,y15,A16])
 | [],SN,o7,x11,x12,x13,x14,x15,_,_,_,_,_=>⟨o7,_,x11,x12,x13,x14,x15,rfl⟩
 |h::hs,SN,o7,x11,x12,x13,x14,x15,hh,pw,hS,hl,h7=>by
  rw[bc]at hl;obtain⟨us,G⟩:=hh h ad;obtain⟨p1,p2⟩:=List.pairwise_cons.mp pw;obtain⟨z12,z13,z14,z15,hb⟩:=Zdr b rs hrs ws nd ok hw hp h us G SN (λk hk=>(hS k hk).1) (λm hm hk=>(hS m hk).2 h ad hm) (by omega) A0 A1 A2 A3 A5 A8 A9 A16 x12 x13 x14 x15 o7 h7;have mm:∀k∈h.ms,Sh k:=λk hk=>by obtain⟨u,_,hk⟩:=(G.ms k).mp hk;exact Sg rs u k hk
  have ml:h.ms.length<=36:=by
   have f:(us.map λu=>u.marks rs).flatten.length<=36:=by rw[List.length_flatten,bi];have:=W5 (List.length∘λu:Wk=>u.marks rs) 3 us λu _=>dk (Gy _ _ rs 0) hrs;have:=G.len;omega
   refine dk (bx (Qx G.mss) λk hk=>?_) f;obtain⟨u,hu,hk⟩:=(G.ms k).mp hk;exact List.mem_flatten.mpr ⟨_,c8 hu,hk⟩
  obtain⟨p7,y10,y11,y12,y13,y14,y15,ih⟩:=Fn b rs hrs ws nd ok hw hp A0 A1 A2 A3 A5 A8 A9 A16 hs (SN++h.ms) (aA (.fz (.dT (ws.map (Bc b)) (ws.map (Bm rs))))) (aA (.fz (Yc h))) z12 z13 z14 z15 (λg hg=>hh g (am _ hg)) p2 (λk hk=>by
   rcases bh.mp hk with z|z
   ·exact⟨(hS k z).1,λg hg=>(hS k z).2 g (am _ hg)⟩
   ·exact⟨mm k z,λg hg=>p1 g hg k z⟩) (by rw[ay];omega) (.inr rfl)
  exact⟨p7,y10,y11,y12,y13,y14,y15,(Y2 (by simp) hb).trans ih⟩
theorem Fo(ws:List Wk)(nd:(ws.map Wk.key).Nodup)(A0 A1 A2 A3 A4 A5:Option SV)(A7 A9 A10 A11 A12 A13 A14 A15:Option SV):∀(xs ds:List Wk) (x8:Option SV),(∀x∈xs,x∈ws)->((ds++xs).map Wk.key).Nodup->ds.length+xs.length<=100->∃y8,
  Z0 (Zd 8) Gen.As ((xs.map Wk.key).map D.str) [A0,A1,A2,A3,A4,A5,aA (.fz (Yk ws)),A7,x8,A9,A10,A11,A12,A13,A14,A15,aA (.oK (Zy (ds.map Wk.key)) (ds.map Wk.d))]=aA (.nx [A0,A1,A2,A3,A4,A5,aA (.fz (Yk ws)),A7,y8,A9,A10,A11,A12,A13,A14,A15,aA (.oK (Zy ((ds++xs).map Wk.key)) ((ds++xs).map Wk.d))])
 | [],ds,x8,_,_,_=>⟨x8,by simp⟩
 |w::xs,ds,x8,h,nx,hl=>by
  rw[bc]at hl;have l:=Ck nd (h w ad);have ke:w.key∉ds.map Wk.key:=λz=>by rw[b4]at nx;exact(cu.mp nx).2.2 _ z w.key (by simp) rfl
  have pp:Y3 (Zy (ds.map Wk.key)) (ds.map Wk.d) (da w.key) w.d=(Zy ((ds++[w]).map Wk.key),(ds++[w]).map Wk.d):=by rw[Mn,Mo ke];simp
  have z:(ds.map Wk.d).length<PySem.sizeLine:=Z4 (by rw[ag];omega);obtain⟨y8,ih⟩:=Fo ws nd A0 A1 A2 A3 A4 A5 A7 A9 A10 A11 A12 A13 A14 A15 xs (ds++[w]) (aA (.fz (.str w.key))) (λx hx=>h x (am _ hx)) (by rw[c7];exact nx) (by simp;omega);refine⟨y8,?_⟩;have hb:Gen.As [A0,A1,A2,A3,A4,A5,aA (.fz (Yk ws)),A7,aA (.fz (.str w.key)),A9,A10,A11,A12,A13,A14,A15,aA (.oK (Zy (ds.map Wk.key)) (ds.map Wk.d))]=aA (.nx [A0,A1,A2,A3,A4,A5,aA (.fz (Yk ws)),A7,aA (.fz (.str w.key)),A9,A10,A11,A12,A13,A14,A15,aA (.oK (Zy ((ds++[w]).map Wk.key)) ((ds++[w]).map Wk.d))]):=by unfold Gen.As Yk;generalize (ds++[w]).map Wk.d=D1 at*;generalize Zy ((ds++[w]).map Wk.key)=K1 at*;generalize ds.map Wk.d=D0 at*;generalize Zy (ds.map Wk.key)=K0 at*;generalize w.d=XD at*;generalize ws.map Wk.d=WD at*;generalize Zy (ws.map Wk.key)=WK at*;simp[l,pp,z,-look,-Y3]
  rw[c7]at ih;exact(Y2 (by simp) hb).trans ih
theorem Zds(ns:List Int):∃ms:List Int,S3 (ns.map D.int) (aA 5) (aA 17)=ms.map D.int/\ms.length<=12:=by
 obtain⟨ms,e,_⟩:=Zkr ns (aA 5) (aA 17);refine⟨ms,e,?_⟩;have h:(S3 (ns.map D.int) (aA 5) (aA 17)).length<=12:=by unfold S3;rw[List.length_take];have e1:HT.sIx (ns.map D.int).length (ns.map D.int).length (aA 17)=min 17 (ns.map D.int).length:=HT.sIx_nat _ _ 17;have e2:HT.sIx (ns.map D.int).length 0 (aA 5)=min 5 (ns.map D.int).length:=HT.sIx_nat _ _ 5;omega
 rw[e,ag]at h;exact h
theorem Zby:∀(hs:List HP) (zs:List D),zs.length+hs.length<=1000->
  Ya [.own,.acc] 1 (Zd 0) W0 Gen.Ap (hs.map Yc) [aB,aA (.ol zs)]=aA [aB,aA (.ol (zs++hs.map λh=>.lst (h.ns.map Zj)))]
 | [],zs,_=>by simp
 |h::hs,zs,hl=>by
  rw[bc]at hl;have ih:=Zby hs (zs++[.lst (h.ns.map Zj)]) (by simp;omega);rw[c7]at ih;have z:zs.length<PySem.sizeLine:=Z4 (by omega);have a0:∀a b c:D,L2.atI [a,b,c] 0=aA a:=λ_ _ _=>rfl;have e1:∀q,Gen.Ap [aA (.fz (Yc h)),aA (.ol q)]=aA (.tmp (.fz (.lst (h.ns.map Zj))),[aA (.fz (Yc h)),aA (.ol q)]):=λq=>by unfold Gen.Ap Yc;generalize h.ns.map Zj=HN at*;generalize h.ms.map Zj=HM at*;generalize h.fs.map Y4=HF at*;simp[a0]
  rw[a7,a7];generalize Yc h=HD at*;generalize D.lst (h.ns.map Zj)=HN at*;unfold Ya;simp[e1,z,-Ya];simpa[-Ya]using ih
theorem Shw.rev{rs:List (List Str)}{ws:List Wk}(s:Shw rs ws):Shw rs ws.reverse:=
 ⟨by rw[List.map_reverse];exact(List.reverse_perm _).nodup_iff.mpr s.nd,λw h=>s.ok w (List.mem_reverse.mp h),by rw[List.length_reverse];exact s.few,by rw[List.length_reverse];exact s.m64,s.rl,s.rn⟩
theorem law_true(ns:List Int)(hn:ns.length<=63):Gen.Mr [.lst (ns.map D.int)]=aA (.fz (.bl aC)):=by
 obtain⟨ms,em,hms⟩:=Zds ns;obtain⟨c0,hc0⟩:=Mt ns 0;obtain⟨c1,hc1⟩:=Mt ns 1;obtain⟨c2,hc2⟩:=Mt ns 2;obtain⟨c3,hc3⟩:=Mt ns 3;obtain⟨c4,hc4⟩:=Mt ns 4;have m0:=Zhn c0 16807;have m1:=Zhn c1 16807;have m2:=Zhn c2 39373;have p0:=P9 c0 16807;have p1:=P9 c1 16807;have p2:=P9 c2 39373;generalize c0 % 2147483647*16807 % 2147483647=X0 at*;generalize c1 % 2147483647*16807 % 2147483647=X1 at*;generalize c2 % 2147483647*39373 % 2147483647=X2 at*;obtain⟨ks,k0,kl,knd,kn⟩:=Ix X0 p0 ms.length (by omega);obtain⟨F,f0,fl,fnd,fn⟩:=Ix X1 p1 4 (by omega);obtain⟨bs,b0,bl,_,_⟩:=Ix X2 p2 1 (by omega);obtain⟨b,rfl⟩:∃b,bs=[b]:=by
  match bs,bl with
  | [b],_=>exact⟨b,rfl⟩
 obtain⟨rs,rl,ro,r0⟩:=Zdj F fl c3;have w0':0<=c4 % 9:=gb _ (by decide);have w1':c4 % 9<9:=d7 _ (by decide);obtain⟨wd,hwd⟩:∃wd:Nat,(wd:Int)=2+c4 % 9:=⟨(2+c4 % 9).toNat,by omega⟩
 obtain⟨ws,wk,wp,w0⟩:=Zdi F fl fnd fn ms wd (by omega) (by omega) ks (by omega) (by omega) knd;rw[hwd]at w0;have wl:ws.length<=12:=by have:=congrArg List.length wk;rw[ag]at this;omega
 have nd:(ws.map Wk.key).Nodup:=by rw[wk];exact knd
 have ok:∀w∈ws,WkOk w:=λw h=>(wp w h).ok;have shw:Shw rs ws:=⟨nd,ok,by omega,by have:=Nat.mul_le_mul wl rl;omega,λr hr=>by have:=ro r hr;omega,by omega⟩
 have pf:=Zdq F fl b ws wp;obtain⟨out,P,oo,ol,q0⟩:=pool_of b rs ws shw pf;obtain⟨out2,P2,_,_,q2⟩:=pool_of b rs ws.reverse shw.rev (by
  obtain⟨ps,h1,h2⟩:=pf;exact⟨ps,h1,λw h=>h2 w (List.mem_reverse.mp h)⟩)
 have e2:out2=out:=P2.uniq P λa=>by rw[List.map_reverse,List.mem_reverse]
 subst e2;have hg:∀h∈out2,∃us,HpG b rs ws h us:=λh hh=>by obtain⟨a,sa,m⟩:=P.each h hh;exact Dw b rs ws nd sa m
 have ap:out2.Pairwise λh h'=>∀m∈h.ms,m∉h'.ms:=(Fd P).imp fun{h h'} z m h1 h2=>z m (bq _ h1) (bq _ h2);have ap':out2.Pairwise λh h'=>∀x∈h.ns,∀y∈h'.ns,x≠y:=(Fd P).imp fun{h h'} z x hx y hy e=>z x (b7 _ hx) (by rw[e];exact b7 _ hy);have so:Oa [.lst (out2.map Yc)]=aA (.ol (out2.map Yc)):=Zhj oo (ck.mpr (P.sorted.imp λh e=>by rw[e]at h;exact f6 _ h)) (by omega) (.refl _) (P.sorted.imp λh=>Zbn h);have ep:Wo 48 (.lst (out2.map Yc)) (.lst (out2.map Yc))=aA aC:=Zhh 40 _ oo;have nn:∀k,k∈(out2.map HP.ns).flatten↔k∈ws.map λw=>Jc b w.key:=λk=>by
  rw[List.mem_flatten];constructor
  ·rintro⟨l,hl,hk⟩;obtain⟨h,hh,rfl⟩:=av.mp hl;obtain⟨us,G⟩:=hg h hh;rw[G.ns]at hk;obtain⟨u,hu,rfl⟩:=av.mp hk;exact av.mpr ⟨u,G.sub u hu,rfl⟩
  ·intro hk;obtain⟨w,hw,rfl⟩:=av.mp hk;obtain⟨h,hh,m⟩:=P.all (Wy b rs w) (c8 hw);exact⟨h.ns,c8 hh,(m.ns_m _).mpr ⟨_,.here (c8 hw),ao.mpr rfl⟩⟩
 have nf:(out2.map HP.ns).flatten.Nodup:=List.pairwise_flatten.mpr ⟨λl hl=>by
  obtain⟨h,hh,rfl⟩:=av.mp hl;obtain⟨us,G⟩:=hg h hh;exact Qx G.srt,ck.mpr ap'⟩
 have nw:(ws.map λw=>Jc b w.key).Nodup:=ck.mpr ((ck.mp nd).imp fun{x y} h e=>h (by simpa[Jc]using e));have fl2:(out2.map HP.ns).flatten.length<=12:=by have:=bx nf λk hk=>(nn k).mp hk;rw[ag]at this;omega
 have isw:∀k∈ws.map λw=>Jc b w.key,isN k:=λk hk=>by obtain⟨w,_,rfl⟩:=av.mp hk;exact⟨b,[w.key],rfl⟩
 obtain⟨R,r1,r2⟩:=Sc (.inl isw);have sf:Oa [.lst ((out2.map HP.ns).flatten.map Zj)]=aA (.ol (R.map Zj)):=Fj (.inl λk hk=>isw k ((nn k).mp hk)) nf (by omega) (λk=>by rw[r2,nn]) r1;have ek:(ws.map (Bc b)).map C1=(ws.map λw=>Jc b w.key).map Zj:=by rw[bi,bi];rfl
 have sw:E7 [.dT (ws.map (Bc b)) (ws.map (Bm rs))]=aA (.ol (R.map Zj)):=by show TX.G2 ((ws.map (Bc b)).map C1) ((ws.map (Bc b)).map C1)=_;rw[ek];exact Fj (.inl isw) nw (by rw[ag];omega) r2 r1
 have er:Wo 48 (.lst (R.map Zj)) (.lst (R.map Zj))=aA aC:=Ov 44 _ λk hk=>.inl (isw k ((r2 k).mp hk));have nc:=Zby out2 [] (by simp;omega);rw[dj]at nc;have fk:=Zbs (out2.map HP.ns) (by omega);rw[bi]at fk;have fk:Gen.Wd [.lst (out2.map λh=>.lst (h.ns.map Zj))]=_:=fk;have hb:L2.atI [D.str b] 0=aA (.str b):=rfl;have k0:Gen.Y8 [.int X0,.int ((ms.map D.int).length:Int)]=aA (.ol (ks.map D.str)):=by rw[ag];exact k0
 have b0:Gen.Y8 [.int X2,.int 1]=aA (.ol [.str b]):=b0;have f0:Gen.Y8 [.int X1,.int 4]=aA (.ol (F.map D.str)):=f0;have hc0:Gen.Z2 [.lst (ns.map D.int),.int 0]=aA (.fz (.int c0)):=hc0;have hc1:Gen.Z2 [.lst (ns.map D.int),.int 1]=aA (.fz (.int c1)):=hc1;have hc2:Gen.Z2 [.lst (ns.map D.int),.int 2]=aA (.fz (.int c2)):=hc2;have hc3:Gen.Z2 [.lst (ns.map D.int),.int 3]=aA (.fz (.int c3)):=hc3;have hc4:Gen.Z2 [.lst (ns.map D.int),.int 4]=aA (.fz (.int c4)):=hc4;obtain⟨p5,y8,h5,l1⟩:=Zbw b rs shw.rl (by have:=shw.rn;omega) ws nd ok (by omega) (aA (.fz (.lst (ns.map D.int)))) (aA (.fz (.lst (ms.map D.int)))) (aA (.fz (.lst (ks.map D.str)))) (aA (.fz (.lst (F.map D.str)))) [aB,aB,aB,aB,aB,aB,aB,aB] ws [] (aA (.ol (rs.map Z6))) aB rfl (.inl rfl);rw[wk]at l1;obtain⟨p7,y10,y11,y12,y13,y14,y15,l2⟩:=Fn b rs rl ws nd ok wl pf (aA (.fz (.lst (ns.map D.int)))) (aA (.fz (.lst (ms.map D.int)))) (aA (.fz (.lst (ks.map D.str)))) (aA (.fz (.lst (F.map D.str)))) (aA (.fz (.lst (rs.map Z6)))) y8 (aA (.fz (.lst (out2.map Yc)))) aB out2 [] (aA (.oT (ws.map (Bc b)) (ws.map (Bm rs)))) aB aB aB aB aB hg ap (λ_ h=>nomatch h) (by simp;omega) (.inl rfl);have key2:(ws.reverse.map Wk.key).map D.str=(ks.map D.str).reverse:=by rw[List.map_reverse,wk,List.map_reverse]
 obtain⟨y8',l3⟩:=Fo ws nd (aA (.fz (.lst (ns.map D.int)))) (aA (.fz (.lst (ms.map D.int)))) (aA (.fz (.lst (ks.map D.str)))) (aA (.fz (.lst (F.map D.str)))) (aA (.fz (.str b))) (aA (.fz (.lst (rs.map Z6)))) p7 (aA (.fz (.lst (out2.map Yc)))) y10 y11 y12 y13 y14 y15 ws.reverse [] y8 (λx h=>List.mem_reverse.mp h) (by simpa using(List.reverse_perm _).nodup_iff.mpr nd) (by simp;omega);rw[key2,dj]at l3;have ep2:=ep;rw[show Zy (([]:List Wk).map Wk.key)=[]from rfl,show([]:List Wk).map Wk.d=[]from rfl]at l3;rw[show([]:List NK).map Zj=[]from rfl]at l2;rw[show([]:List Wk).map (Bc b)=[]from rfl,show([]:List Wk).map (Bm rs)=[]from rfl]at l1;unfold Yk at q0 q2 l2 l3;have hwd':2+c4 % 9=(wd:Int):=hwd.symm;rw[<-hwd]at w0;clear shw hn hms kl kn fl fnd fn bl ro wp p0 p1 p2 hg ap ap' nn nf nw fl2 isw r1 r2 P P2 oo pf knd nd ok key2 ek;simp only[List.cons_append,dj]at l1;rw[wk]at*;generalize out2.map Yc=OUT at*;generalize (out2.map HP.ns).flatten.map Zj=FN at*;generalize (out2.map λh=>D.lst (h.ns.map Zj))=ON at*;generalize R.map Zj=RN at*;generalize rs.map Z6=RD at*;generalize ws.map (Bc b)=KS at*;generalize ws.map (Bm rs)=VS at*;generalize ws.reverse.map Wk.d=WD2 at*;generalize Zy (ws.reverse.map Wk.key)=WK2 at*;generalize ws.map Wk.d=WD at*;generalize Zy ks=WK at*;generalize ks.map D.str=KD at*;generalize F.map D.str=FD at*;generalize ms.map D.int=MD at*;generalize ns.map D.int=ND at*;have h9:Yt 9 (Yu 3 Gen.Q0 (Zc (Za 4) (Zc (Za 6) (Zc (Za 5) Zi)))) [aA (.fz (.lst ND)),aA (.fz (.lst MD)),aA (.fz (.lst KD)),aA (.fz (.lst FD)),aA (.fz (.str b)),p5,aA (.oK WK WD),aA (.oT KS VS),y8,aB,aB,aB,aB,aB,aB,aB,aB]=aA (.nx [aA (.fz (.lst ND)),aA (.fz (.lst MD)),aA (.fz (.lst KD)),aA (.fz (.lst FD)),aA (.fz (.str b)),aA (.fz (.lst RD)),aA (.fz (.dK WK WD)),aA (.oT KS VS),y8,aA (.ol OUT),aB,aB,aB,aB,aB,aB,aB]):=by
  rcases h5 with rfl|rfl
  ·simp[q0]
  ·simp[q0]
 have hT:Gen.Au [aA (.fz (.lst ND)),aA (.fz (.lst MD)),aA (.fz (.lst KD)),aA (.fz (.lst FD)),aA (.fz (.str b)),aA (.fz (.lst RD)),aA (.fz (.dK WK WD)),aA (.oT KS VS),y8,aA (.ol OUT),aB,aB,aB,aB,aB,aB,aB]=aA (.rt (.fz (.bl aC))):=by unfold Gen.Au;simp[so,ep,nc,fk,sf,sw,er,l2,l3,q2,-Z0,-Ya,-Wo]
 unfold Gen.Mr Gen.Zhl;generalize Yt 9 (Yu 3 Gen.Q0 (Zc (Za 4) (Zc (Za 6) (Zc (Za 5) Zi))))=S9 at*;generalize Gen.Au=TL at*;simp[em,hc0,hc1,hc2,hc3,hc4,m0,m1,m2,k0,f0,b0,hb,r0,hwd',w0,l1,h9,hT,-Z0]
end My
namespace PySem.W.Fast
def tw5713935694845789414:=()
def tw8970409203146837515:=()
def tw9466363077607173206:=()
def tw17589913321525156733:=()
def tw12259029408597393950:=()
def tw6223215100350126214:=()
def tw10463812359900168734:=()
def tw15688872291456778185:=()
def tw2843235979907493656:=()
def tw9448353023056410006:=()
def tw14996113452759456843:=()
def tw1500459649613081786:=()
def tw12468392935453073393:=()
def tw12730196162655760997:=()
def tw4853900993400666059:=()
def tw5529604917895718131:=()
def tw302877458599441399:=()
def tw17786492813826723782:=()
def tw5018175385806214292:=()
def tw7172256992374601949:=()
def tw5394566622719793502:=()
def tw13446499232874169423:=()
def tw8342355751021932375:=()
def tw9027506452272466191:=()
def tw15844817517556436278:=()
def tw5700999879441009307:=()
def tw12999397304494943843:=()
def tw17689918770517345368:=()
def tw18097082852505350260:=()
def tw18326456090474379572:=()
def tw2477752550642224605:=()
def tw12425360904945370680:=()
def tw6212307826191068878:=()
def tw188217784476452680:=()
def tw11530525684082073768:=()
def tw15850401771998139151:=()
def tw18400618238350795135:=()
def tw12748998000623965416:=()
def tw13562341943073647855:=()
def tw14217261711219641151:=()
def tw16468152813818087053:=()
def tw15912391958040524094:=()
def tw13646536622319466723:=()
def tw8006347336840702237:=()
def tw12545172908051961028:=()
def tw9746215116993139862:=()
def tw5148235987220226136:=()
def tw14190471094664844815:=()
def tw14490763953383253337:=()
def tw17078410393764266636:=()
def tw7484211040509651967:=()
def tw15774192169779348600:=()
def tw7141078313819780883:=()
def tw14798727636410334885:=()
def tw7319011422946698536:=()
def tw3156634347532131882:=()
def tw6288844889053334376:=()
def tw4674967837419025652:=()
def tw10540516497528791927:=()
def tw17385825833508224167:=()
def tw6368714737689278516:=()
def tw14414459244743427973:=()
def tw84935456396792722:=()
def tw1825120282626789090:=()
def tw3348020231408147982:=()
def tw8790592086713392506:=()
def tw17220405000825946734:=()
def tw2884831043783515270:=()
def tw2625124795906766541:=()
def tw16017511746161252219:=()
def tw15073683573258632762:=()
def tw7391763781337975620:=()
def tw14125388779102966976:=()
def tw7661999776866460489:=()
def tw10862026068514461948:=()
def tw8729239654913591828:=()
def tw10041312881960941271:=()
def tw11483873121724674642:=()
def tw12977089942109514908:=()
def tw12389108541492427419:=()
end PySem.W.Fast
open PySem PySem.W PyProof.Rows
set_option maxRecDepth 100000 in
set_option maxHeartbeats 0 in
theorem PySem.Challenge.cw_citeward_k38_whole_a_books_pool_holds : PySem.Challenge.rw_citeward_k38_whole_a_books_pool.Holds := by
  w_on; o_law; k_head; (case hw => w_witness2)
  k_fill
  refine Gen.Zuw (l := PySem.Challenge.rw_citeward_k38_whole_a_books_pool) rfl rfl (fun w h Y => PySem.W.kIn_of Y) ?F My.law_true
  case F =>
    intro w mg fa h KX G hmg
    apply Gen.Zo2 KX G hmg<;>first|k_is|exact⟨_,L2.Wm (by k_is) (by k_is) (by k_is)⟩
